import PyProof.Rows.All
import Wide.All
import OpenK.AllK
import Wide.FinOn
import PyProof.TupleKey
import PyProof.EqAt
import PyProof.EqKinds
import Wide.Seal
import Lean
import PyProof.TupleCall
import KE.KTryMore
import KE.KRevIter
import PyProof.CollectIter
import PyProof.ConsumeWalk
import PyProof.TupleOfStr
import KE.KIsAll
import PyProof.ExcArgs
import PyProof.ExcAttrAll.ValueError
import PyProof.CompUse
import PyProof.NeKinds
import PyProof.EnumIter
import PyProof.EnumFor
import PyProof.EnumMake
import PyProof.EnumStmt
import PyProof.ListMulRoad
import PyProof.ZipIter
import PyProof.TupleIter
import PyProof.Rows.SortWalk
import PyProof.SetKind
import PyProof.Rows.SetFrom
import PyProof.FactsAll.set_1
import KE.KDictSum
import PyProof.FactsAll.set_2
import PyProof.FactsAll.tuple_2
import PyProof.ReprRoads
import PyProof.Rows.SeqMore
import PyProof.ReprLen
import PyProof.WalkInts
import PyProof.SeqI3
import PyProof.Rows.TupIter
import PyProof.ListRange
import PyProof.SumWalk
import PyProof.DictIter
import PyProof.DictWalks
import PyProof.Draws
import PyProof.StrBlockI
import PyProof.StrLawsIn
import PyProof.StrOps2
import PyProof.ReprStr
import KE.KTops
import PyProof.StrCalls6
import PyProof.DictRoadsH
import PyProof.DictTruth
import KE.KDictList
import PyProof.Rows.TupDisplay
import PyProof.DictUpdate
import PySem.Challenge.RW_circuits_k73_sheets_read
set_option Elab.async false
set_option linter.all false
set_option maxRecDepth 100000
set_option maxHeartbeats 1000000
local macro_rules | `(tactic| omega) => `(tactic| first | with_reducible assumption | decide | with_reducible exact Nat.le_refl _ | with_reducible exact Nat.zero_le _ | lia)
set_option genSizeOf false
set_option genInjectivity false
local macro_rules | `(tactic| walk_at "1") => `(tactic| (first | exact Or.inl rfl | exact Or.inr (Or.inl rfl) | exact Or.inr (Or.inr rfl)))
local macro_rules | `(tactic| walk_at "2") => `(tactic| (first | exact .inl rfl | exact .inr rfl | assumption))
local macro_rules | `(tactic| walk_at "3") => `(tactic| (first | exact Or.inl rfl | exact Or.inr rfl))
open PySem.W (findIn keepIn kia_one kitOne methodObj mg_none_of mg_of pyHash_slot specialIn takesIn)
def w0a:=@List.getElem?_eq_getElem
def w0b:=@Nat.le_refl
def w0c:=@List.mem_cons_of_mem
def w0d:=@List.mem_cons
def w0e:=@List.mem_append_right
def w0f:=@List.mem_cons_self
def w0g:=@List.map_cons
def w0h:=@List.getElem?_set_ne
def w0i:=@List.map_append
def w0j:=@List.length_map
def w0k:=@List.getD_eq_getElem?_getD
def w0l:=@List.append_assoc
def w0m:=@List.getElem?_set_self
def w0n:=@List.getElem?_eq_some_iff
def w0o:=@List.not_mem_nil
def w0p:=@Bool.and_eq_true
def w0q:=@List.length_cons
def w0r:=@List.length_append
def w0s:=@List.foldl_cons
def w0t:=@Option.map_eq_some_iff
def w0u:=@Nat.ne_of_lt
def w0v:=@Nat.le_trans
def w0w:=@Nat.lt_of_lt_of_le
def w0x:=@List.mem_append_left
def w0y:=@List.mem_map
def w0z:=@List.mem_append
def w1a:=@List.map_map
def w1b:=@Int.emod_lt_of_pos
def w1c:=@Nat.zero_le
def w1d:=@List.getElem?_append_right
def w1e:=@List.foldl_append
def w1f:=@List.cons_append
def w1g:=@List.mem_singleton
def w1h:=@List.append_nil
def w1i:=@List.length_drop
def w1j:=@Int.emod_nonneg
def w1k:=@Bool.false_ne_true
def w1l:=@List.getElem_mem
def w1m:=@List.mem_of_getElem?
def w1n:=@Nat.lt_succ_of_lt
def w1o:=@List.drop_eq_getElem_cons
def w1p:=@List.nil_append
def w1q:=@Array.length_toList
def w1r:=@List.getElem?_cons_succ
def w1s:=@List.all_eq_true
def w1t:=@List.take_of_length_le
def w1u:=@List.map_congr_left
def w1v:=@List.getElem?_map
def w1w:=@List.getElem?_append_left
def w1x:=@List.nodup_cons
def w1y:=@List.getElem?_cons_zero
def w1z:=@List.size_toArray
def w2a:=@Option.isSome_map
def w2b:=@List.take_length
def w2c:=@List.take_append_drop
def w2d:=@List.map_eq_cons_iff
def w2e:=@List.forIn_cons
def w2f:=@Int.toNat_natCast
def w2g:=@List.find?_cons
def w2h:=@Nat.min_eq_left
def w2i:=@List.take_add_one
def w2j:=@Nat.lt_irrefl
def w2k:=@Option.bind_eq_some_iff
def w2l:=@List.filter_eq_self
def w2m:=@List.filter_cons
def w2n:=@List.mem_range
def w2o:=@List.map_eq_append_iff
def w2p:=@List.set_cons_succ
def w2q:=@List.set_cons_zero
def w2r:=@Nat.ne_of_gt
def w2s:=@Bool.eq_iff_iff
def w2t:=@List.all_cons
def w2u:=@List.reverse_cons
def w2v:=@List.flatMap_cons
def w2w:=@List.getElem?_zip_eq_some
def w2x:=@List.map_eq_singleton_iff
def w2y:=@Option.isSome_iff_exists
def w2z:=@Int.zero_add
def w3a:=@Array.forIn_toList
def w3b:=@Bool.false_eq_true
def w3c:=@Bool.or_eq_true
def w3d:=@List.length_zip
def w3e:=@List.length_nil
def w3f:=@Nat.add_sub_cancel_left
def w3g:=@Bool.not_eq_true'
def w3h:=@List.nodup_append
def w3i:=@Nat.le_of_ble_eq_true
def w3j:=@List.singleton_append
def w3k:=@List.getElem?_eq_none
def w3l:=@List.drop_length
def w3m:=@List.length_take
def w3n:=@List.eq_nil_of_length_eq_zero
def w3o:=@List.mem_of_mem_drop
def w3p:=@List.countP_eq_length_filter
def w3q:=@List.map_take
def w3r:=@List.of_mem_zip
def w3s:=@List.getElem_of_mem
def w3t:=@List.takeWhile_cons
def w3u:=@List.flatMap_append
def w3v:=@List.length_pos_iff
def w3w:=@List.getElem?_range
def w3x:=@List.range_succ
def w3y:=@List.map_nil
def w3z:=@Nat.lt_or_ge
def w4a:=@List.forIn_nil
def w4b:=@Array.getElem?_eq_getElem
def w4c:=@List.take_sublist
def w4d:=@List.any_cons
def w4e:=@List.sum_cons
def w4f:=@List.length_eq_zero_iff
def w4g:=@List.map_drop
def w4h:=@List.filter_cons_of_pos
def w4i:=@List.filter_cons_of_neg
def w4j:=@Nat.succ_ne_self
def w4k:=@Nat.lt_succ_self
def w4l:=@List.drop_eq_nil_of_le
def w4m:=@List.dropLast_eq_take
def w4n:=@Nat.ble_eq_true_of_le
def w4o:=@Nat.zero_add
def w4p:=@List.length_singleton
def w4q:=@Option.map_some
def w4r:=@List.length_filter_le
def w4s:=@Nat.zero_lt_one
def w4t:=@Nat.not_lt
def w4u:=@List.drop_zero
def w4v:=@List.foldl_nil
def w4w:=@List.drop_drop
def w4x:=@Nat.mul_le_mul_left
def w4y:=@List.replicate_succ
def w4z:=@List.length_flatMap
def w5a:=@List.mem_filterMap
def w5b:=@Option.toList_some
def w5c:=@List.mem_replicate
def w5d:=@List.filter_append
def w5e:=@Nat.le_of_lt
def w5f:=@Nat.lt_trans
def w5g:=@Bool.true_or
def w5h:=@Nat.le_succ
noncomputable section
namespace PySem.W.Fast
theorem tw2511163641149457413:True:=trivial
theorem tw10220466039377102226:True:=trivial
theorem tw2242131142171793792:True:=trivial
theorem tw17395400936404538109:True:=trivial
theorem tw9830441058726237870:True:=trivial
theorem tw16049001108436237990:True:=trivial
theorem tw16120379641492412222:True:=trivial
theorem tw203630214997540937:True:=trivial
theorem tw12918269532261624222:True:=trivial
theorem tw1772881098046700132:True:=trivial
theorem tw14287277501817199967:True:=trivial
theorem tw694171197550956353:True:=trivial
theorem tw12179040757806542827:True:=trivial
theorem tw10752889938513069013:True:=trivial
theorem tw11172126970716808959:True:=trivial
theorem tw291444928127255185:True:=trivial
theorem tw5229959449890185792:True:=trivial
theorem tw15998051603358219251:True:=trivial
theorem tw6620519257007108079:True:=trivial
theorem tw9494174851795931600:True:=trivial
theorem tw12735293939534153385:True:=trivial
theorem tw16462482138500594206:True:=trivial
theorem tw17693215913774799904:True:=trivial
theorem tw14173924687507495443:True:=trivial
theorem tw6346582345568194629:True:=trivial
theorem tw2474108566594565433:True:=trivial
theorem tw5342047242332142044:True:=trivial
theorem tw17169820506767541849:True:=trivial
theorem tw5626210079171483570:True:=trivial
theorem tw3176573499195273598:True:=trivial
theorem tw14444165308939664761:True:=trivial
theorem tw6914735468855214340:True:=trivial
theorem tw13338284236491187345:True:=trivial
theorem tw5094956055624361370:True:=trivial
theorem tw11374979968291968511:True:=trivial
theorem tw13790928658668642913:True:=trivial
theorem tw1327545827310521458:True:=trivial
theorem tw13519736035708585174:True:=trivial
theorem tw6828536127172973572:True:=trivial
theorem tw9932444813971129752:True:=trivial
theorem tw312016232388308495:True:=trivial
theorem tw2510954872196855769:True:=trivial
theorem tw7069245581251576849:True:=trivial
theorem tw15841917038647731167:True:=trivial
theorem tw13800623706084117897:True:=trivial
theorem tw287238688723010797:True:=trivial
theorem tw15928651731884434837:True:=trivial
theorem tw8998461010219695122:True:=trivial
theorem tw1186790156930027997:True:=trivial
theorem tw15529245571656928298:True:=trivial
theorem tw5172973212897338384:True:=trivial
theorem tw5176705698922845815:True:=trivial
theorem tw10450009769267765656:True:=trivial
theorem tw9054768930198069008:True:=trivial
theorem tw17778934705488986115:True:=trivial
theorem tw17871405964223688522:True:=trivial
theorem tw3053590163777783430:True:=trivial
theorem tw17617271722866214104:True:=trivial
theorem tw11300221434437857758:True:=trivial
theorem tw12057718230565426100:True:=trivial
end PySem.W.Fast
namespace L2
open PySem PySem.Spec PyProof.Rows
variable{a:Addr}{A:Around}{op:CmpOp}{c e tg:Expr}{fd:FuncData}{base h h':Heap}{pins:List (Addr×Obj)}{ch fp:List Addr}{es:List Expr}{N ps:List Str}{us:List Value}{i t':Nat}{p pos:Pos}{P prog:Program}{K:PySem.W.Frag}{s:Shared}{x:Str}{mg:Str->Option Value}{u:Value}{E:Value->Shared->Prop}{f:Value->Value->Sem Value}{w:World}
set_option genInjectivity true in
inductive Kx where
 |non|bl (b:Bool)|int (i:Int)|str (x:Str)|tup (ks:List Kx)
inductive Sh where
 |ob|bl|int|str|tup (ss:List Sh)|many (s:Sh)
noncomputable instance:DecidableEq Kx:=fun _ _=>Classical.propDecidable _
mutual
def Kx.depth:Kx->Nat
 |.tup ks=>Kx.depths ks+1
 |_=>0
def Kx.depths:List Kx->Nat
 |[]=>0
 |k::ks=>max k.depth (Kx.depths ks)
end
mutual
def Conf:Kx->Sh->Prop
 |.non,.ob=>True
 |.bl _,.ob=>True
 |.bl _,.bl=>True
 |.int _,.int=>True
 |.str _,.str=>True
 |.tup ks,.tup ss=>Confs ks ss
 |.tup ks,.many s=>ConfM ks s
 |_,_=>False
def Confs:List Kx->List Sh->Prop
 |[],[]=>True
 |k::ks,s::ss=>Conf k s/\Confs ks ss
 |_,_=>False
def ConfM:List Kx->Sh->Prop
 |[],_=>True
 |k::ks,s=>Conf k s/\ConfM ks s
end
mutual
def KIs(h:Heap):Kx->Value->Prop
 |.non,v=>v=.none
 |.bl b,v=>v=.bool b
 |.int i,v=>∃t,v=.int i t
 |.str x,v=>∃t,v=.str x t
 |.tup ks,v=>∃a o items n,v=.ref a/\h.get? a=some o/\o.cls=.type "tuple" /\ o.data=.seq items n/\KAre h ks items.toList
def KAre(h:Heap):List Kx->List Value->Prop
 |[],vs=>vs=[]
 |k::ks,vs=>∃v r,vs=v::r/\KIs h k v/\KAre h ks r
end
mutual
theorem x6d{h:Heap}:∀(k k':Kx){v:Value},KIs h k v->KIs h k' v->k=k'
 |.non,k',v,x,y=>by
  cases(show v=.none from x);cases k' with
  |non=>rfl
  |bl c=>cases(show Value.none=.bool c from y)
  |int i=>obtain⟨t,e⟩:=y;cases e
  |str i=>obtain⟨t,e⟩:=y;cases e
  |tup ks=>obtain⟨_,_,_,_,e,_⟩:=y;cases e
 |.bl b,k',v,x,y=>by
  cases(show v=.bool b from x);cases k' with
  |non=>cases(show Value.bool b=.none from y)
  |bl c=>cases(show Value.bool b=.bool c from y);rfl
  |int i=>obtain⟨t,e⟩:=y;cases e
  |str i=>obtain⟨t,e⟩:=y;cases e
  |tup ks=>obtain⟨_,_,_,_,e,_⟩:=y;cases e
 |.int b,k',v,x,y=>by
  obtain⟨t,rfl⟩:=x;cases k' with
  |non=>cases y
  |bl c=>cases y
  |int i=>obtain⟨t,e⟩:=y;cases e;rfl
  |str i=>obtain⟨t,e⟩:=y;cases e
  |tup ks=>obtain⟨_,_,_,_,e,_⟩:=y;cases e
 |.str b,k',v,x,y=>by
  obtain⟨t,rfl⟩:=x;cases k' with
  |non=>cases y
  |bl c=>cases y
  |int i=>obtain⟨t,e⟩:=y;cases e
  |str i=>obtain⟨t,e⟩:=y;cases e;rfl
  |tup ks=>obtain⟨_,_,_,_,e,_⟩:=y;cases e
 |.tup ks,k',v,x,y=>by
  obtain⟨a,o,it,n,rfl,h1,h2,h3,h4⟩:=x;cases k' with
  |non=>cases y
  |bl c=>cases y
  |int i=>obtain⟨t,e⟩:=y;cases e
  |str i=>obtain⟨t,e⟩:=y;cases e
  |tup ks'=>
   obtain⟨a',o',it',n',e,g1,g2,g3,g4⟩:=y;cases e;rw[h1]at g1;cases g1;rw[h3]at g3;injection g3 with e1 _
   subst e1;rw[q93 ks ks' h4 g4]
theorem q93{h:Heap}:∀(ks ks':List Kx){vs:List Value},KAre h ks vs->KAre h ks' vs->ks=ks'
 |[],ks',vs,x,y=>by
  cases(show vs=[]from x);cases ks' with
  |nil=>rfl
  |cons k ks'=>obtain⟨v,r,e,_⟩:=y;cases e
 |k::ks,ks',vs,x,y=>by
  obtain⟨v,r,rfl,h1,h2⟩:=x;cases ks' with
  |nil=>cases(show v::r=[]from y)
  |cons k' ks'=>
   obtain⟨v',r',e,g1,g2⟩:=y;cases e;rw[x6d k k' h1 g1,q93 ks ks' h2 g2]
end
mutual
theorem x2b{h h':Heap}(hk:∀a o,h.get? a=some o->o.cls=.type "tuple"->(∃it n,o.data=.seq it n)->h'.get? a=some o):∀(k:Kx){v:Value},KIs h k v->KIs h' k v
 |.non,v,x=>x
 |.bl b,v,x=>x
 |.int b,v,x=>x
 |.str b,v,x=>x
 |.tup ks,v,x=>by
  obtain⟨a,o,it,n,rfl,h1,h2,h3,h4⟩:=x;exact⟨a,o,it,n,rfl,hk a o h1 h2 ⟨it,n,h3⟩,h2,h3,x0q hk ks h4⟩
theorem x0q{h h':Heap}(hk:∀a o,h.get? a=some o->o.cls=.type "tuple"->(∃it n,o.data=.seq it n)->h'.get? a=some o):∀(ks:List Kx){vs:List Value},KAre h ks vs->KAre h' ks vs
 |[],vs,x=>x
 |k::ks,vs,x=>by
  obtain⟨v,r,rfl,h1,h2⟩:=x;exact⟨v,r,rfl,x2b hk k h1,x0q hk ks h2⟩
end
theorem KAre.length:∀(ks:List Kx){vs:List Value},KAre h ks vs->vs.length=ks.length
 |[],vs,x=>by cases(show vs=[]from x);rfl
 |k::ks,vs,x=>by
  obtain⟨v,r,rfl,h1,h2⟩:=x;rw[w0q,w0q,KAre.length ks h2]
mutual
def kHash(w:World):Kx->Int
 |.non=>PySem.W.hashW w.params .none
 |.bl b=>reduceHash (if b=true then 1 else 0)
 |.int i=>hashInt i
 |.str x=>hashStr w x
 |.tup ks=>reduceHash (Builtin.Tuple.tupleHashOf (kHashes w ks))
def kHashes(w:World):List Kx->List Int
 |[]=>[]
 |k::ks=>kHash w k::kHashes w ks
end
mutual
def kDraws:Kx->Nat
 |.tup ks=>kDrawss ks+1
 |_=>1
def kDrawss:List Kx->Nat
 |[]=>0
 |k::ks=>kDraws k+kDrawss ks
end
mutual
theorem x6e:∀(k:Kx)(v:Value)(A:Around)(s:Shared)(Q:Int->Shared->Prop),KIs s.heap k v->A.units+k.depth<cLine->Q (kHash w k) {s with toks:=s.toks+kDraws k}->wpAny (model prog w) A (pyHash v) Q E s
 |.non,v,A,s,Q,x,hu,h=>by
  cases(show v=.none from x);exact pyHash_slot (T:="NoneType") rfl F.slot_NoneType_hash F.entry_NoneType_hash (F.args_NoneType_hash_1 _) (beq_builtin_none _) (.inr (by omega)) (wpAny_bind (wpAny_pure (wpAny_bind (wpAny_mkInt (wpAny_pure ⟨_,_,rfl,h⟩)))))
 |.bl b,v,A,s,Q,x,hu,h=>by
  cases(show v=.bool b from x);refine pyHash_slot (T:="bool") rfl F.slot_bool_hash entry_int_hash (args_int_hash _) (beq_builtin_none _) (.inr (by omega)) ?_;cases b
  ·exact(show wpAny _ _ (do ret (<- mkInt 0)) _ _ s from wpAny_bind (wpAny_mkInt (wpAny_pure ⟨_,_,rfl,h⟩)))
  ·exact(show wpAny _ _ (do ret (<- mkInt 1)) _ _ s from wpAny_bind (wpAny_mkInt (wpAny_pure ⟨_,_,rfl,h⟩)))
 |.int i,v,A,s,Q,x,hu,h=>by
  obtain⟨t,rfl⟩:=x;exact wpAny_pyHash_int h
 |.str i,v,A,s,Q,x,hu,h=>by
  obtain⟨t,rfl⟩:=x;exact wpAny_pyHash_str h
 |.tup ks,v,A,s,Q,x,hu,h=>by
  obtain⟨a,o,it,n,rfl,h1,h2,h3,h4⟩:=x;refine pyHash_slot (T:="tuple") ⟨_,h1,h2⟩ F.slot_tuple_hash F.entry_tuple_hash (F.args_tuple_hash_1 _) (beq_builtin_none _) (.inr (by omega)) ?_;show wpAny _ _ (Builtin.Tuple.tupleItemsOf (.ref a) >>= _) _ _ s;refine wpAny_bind (wpAny_tupleItemsOf h1 h3 ?_);refine wpAny_bind ?_;rw[<- w3a];refine x2c ks it.toList A.in1 s #[] _ h4 (by grind [Kx.depth]) fun b hb=>?_
  show wpAny _ _ (retInt (Builtin.Tuple.tupleHashOf b.toList)) _ _ _;rw[hb];exact wpAny_bind (wpAny_mkInt (wpAny_pure ⟨_,_,rfl,by grind [kHash,kDraws]⟩))
theorem x2c:∀(ks:List Kx)(vs:List Value)(A:Around)(s:Shared)(b:Array Int)(Q:Array Int->Shared->Prop),KAre s.heap ks vs->A.units+Kx.depths ks<cLine ->
  (∀b',b'.toList=b.toList++kHashes w ks->Q b' {s with toks:=s.toks+kDrawss ks}) ->
  wpAny (model prog w) A (forIn vs b fun x r=>do let h <- pyHash x;pure PUnit.unit;pure (ForInStep.yield (r.push h))) Q E s
 |[],vs,A,s,b,Q,x,hu,h=>by
  cases(show vs=[]from x);exact wpAny_pure (h b (by simp[kHashes]))
 |k::ks,vs,A,s,b,Q,x,hu,h=>by
  obtain⟨v,r,rfl,h1,h2⟩:=x;simp only[Kx.depths]at hu;rw[w2e];refine wpAny_bind (wpAny_bind (x6e k v A s _ h1 (by omega) ?_));refine wpAny_bind (wpAny_pure (wpAny_pure ?_))
  exact x2c ks r A _ _ Q h2 (by omega) fun b' hb=>by
   grind [kHashes,kDrawss]
end
theorem x6f(a b):decide (Kx.bl a=Kx.bl b)=(a==b):=by
 grind
theorem y16(a b):decide (Kx.int a=Kx.int b)=(a==b):=by
 grind
theorem y17(a b):decide (Kx.str a=Kx.str b)=(a==b):=by
 grind
def sameAt(ks ks':List Kx)(j:Nat):Bool:=decide (ks[j]?=ks'[j]?)
theorem y18:∀ks ks':List Kx,((List.range (min ks.length ks'.length)).all (sameAt ks ks')&&ks.length==ks'.length)=decide (Kx.tup ks=Kx.tup ks'):=by
 intro ks ks'
 by_cases e:ks=ks'
 ·grind [sameAt]
 ·rw[decide_eq_false (fun z=>e (by injection z))]
  rw[Bool.and_eq_false_iff]
  by_cases hl:ks.length=ks'.length
  ·left
   rw[Bool.eq_false_iff];intro ha;refine e (List.ext_getElem? fun j=>?_)
   by_cases hj:j<ks.length
   ·have:=w1s.mp ha j (w2n.mpr (by omega));exact of_decide_eq_true this
   grind
  grind
theorem q7r:∀(ks:List Kx){vs:List Value},KAre h ks vs->∀(j:Nat)(v:Value),vs[j]?=some v->∃k,ks[j]?=some k/\KIs h k v
 |[],vs,x,j,v,e=>by cases(show vs=[]from x);simp at e
 |k::ks,vs,x,j,v,e=>by
  obtain⟨u,r,rfl,h1,h2⟩:=x;cases j with
  |zero=>grind
  |succ j=>exact q7r ks h2 j v (by simpa using e)
theorem q8e:∀(ks:List Kx)(j:Nat)(k:Kx),ks[j]?=some k->k.depth<=Kx.depths ks
 |[],j,k,e=>by simp at e
 |x::ks,j,k,e=>by
  simp only[Kx.depths];cases j with
  |zero=>cases e;omega
  |succ j=>have:=q8e ks j k (by simpa using e);omega
theorem q8f:∀(ks:List Kx)(ss:List Sh),Confs ks ss->∀(j:Nat)(k:Kx),ks[j]?=some k->∃s,ss[j]?=some s/\Conf k s
 |[],ss,_,j,k,e=>by simp at e
 |x::ks,[],c,j,k,e=>c.elim
 |x::ks,s::ss,c,j,k,e=>by
  cases j with
  |zero=>cases e;exact⟨s,rfl,c.1⟩
  |succ j=>exact q8f ks ss c.2 j k (by simpa using e)
theorem q8g:∀(ks:List Kx)(s:Sh),ConfM ks s->∀(j:Nat)(k:Kx),ks[j]?=some k->Conf k s
 |[],s,_,j,k,e=>by simp at e
 |x::ks,s,c,j,k,e=>by
  cases j with
  |zero=>cases e;exact c.1
  |succ j=>exact q8g ks s c.2 j k (by simpa using e)
theorem z38(s:Shared):∀(n:Nat)(k k':Kx)(sh:Sh)(v v':Value)(A:Around),k.depth<=n->Conf k sh->Conf k' sh->KIs s.heap k v->KIs s.heap k' v'->A.units+n<cLine->SeqAt.EqAt A s v v' (decide (k=k')):=by
 intro n
 induction n with
 |zero=>
  intro k k' sh v v' A hd c c' x y hu;cases k with
  |non=>
   cases sh with
   |ob=>
    cases k' with
    |non=>cases(show v=.none from x);cases(show v'=.none from y);rw[decide_eq_true rfl];exact .same _
    |bl b=>cases(show v=.none from x);cases(show v'=.bool b from y);simp_all [SeqAt.EqAt.none_bool]
    |_=>exact c'.elim
   |_=>exact c.elim
  |bl a=>
   cases sh with
   |ob=>
    cases k' with
    |non=>cases(show v=.bool a from x);cases(show v'=.none from y);simp_all [SeqAt.EqAt.bool_none]
    |bl b=>cases(show v=.bool a from x);cases(show v'=.bool b from y);rw[x6f];exact .bool_bool a b
    |_=>exact c'.elim
   |bl=>
    cases k' with
    |bl b=>cases(show v=.bool a from x);cases(show v'=.bool b from y);rw[x6f];exact .bool_bool a b
    |_=>exact c'.elim
   |_=>exact c.elim
  |int a=>
   cases sh with
   |int=>
    cases k' with
    |int b=>obtain⟨t,rfl⟩:=x;obtain⟨u,rfl⟩:=y;rw[y16];exact .int_int a t b u
    |_=>exact c'.elim
   |_=>exact c.elim
  |str a=>
   cases sh with
   |str=>
    cases k' with
    |str b=>obtain⟨t,rfl⟩:=x;obtain⟨u,rfl⟩:=y;rw[y17];exact .str_str a t b u
    |_=>exact c'.elim
   |_=>exact c.elim
  |tup ks=>grind [Kx.depth]
 |succ n ih=>
  intro k k' sh v v' A hd c c' x y hu;cases k with
  |non=>exact ih .non k' sh v v' A (w1c _) c c' x y (by omega)
  |bl a=>exact ih (.bl a) k' sh v v' A (w1c _) c c' x y (by omega)
  |int a=>exact ih (.int a) k' sh v v' A (w1c _) c c' x y (by omega)
  |str a=>exact ih (.str a) k' sh v v' A (w1c _) c c' x y (by omega)
  |tup ks=>
   obtain⟨a,o,it,m,rfl,h1,h2,h3,h4⟩:=x
   have tail:∀ks',k'=.tup ks'->(∀(j:Nat)(u u':Kx),ks[j]?=some u->ks'[j]?=some u'->∃s,Conf u s/\Conf u' s)->SeqAt.EqAt A s (.ref a) v' (decide (Kx.tup ks=k')):=by
    rintro ks' rfl hc;obtain⟨b,o',it',m',rfl,g1,g2,g3,g4⟩:=y
    by_cases hab:a=b
    ·grind [q93,SeqAt.EqAt.same]
    ·have l1:=KAre.length ks h4;have l2:=KAre.length ks' g4;rw[<- y18]
     have:=SeqAt.RcAt.tuples (A:=A) (s:=s) (e:=sameAt ks ks') (show s.heap.IsTuple a it from⟨o,h1,h2,m,h3⟩) (show s.heap.IsTuple b it' from⟨o',g1,g2,m',g3⟩) (by omega) (fun j j1 j2=>by
      obtain⟨u,u1,u2⟩:=q7r ks h4 j it[j] (by simp[j1]);obtain⟨u',u1',u2'⟩:=q7r ks' g4 j it'[j] (by simp[j2]);obtain⟨sh',c1,c2⟩:=hc j u u' u1 u1';have hdj:=q8e ks j u u1;simp only[Kx.depth]at hd;have z:=ih u u' sh' _ _ A.in1 (by omega) c1 c2 u2 u2' (by grind)
      grind [sameAt,decide])
     grind [SeqAt.EqAt.of_refs]
   cases sh with
   |tup ss=>
    cases k' with
    |tup ks'=>
     refine tail ks' rfl fun j u u' e1 e2=>?_
     obtain⟨s1,q1,q2⟩:=q8f ks ss c j u e1;obtain⟨s2,q3,q4⟩:=q8f ks' ss c' j u' e2
     grind
    |_=>exact c'.elim
   |many s1=>
    cases k' with
    |tup ks'=>exact tail ks' rfl fun j u u' e1 e2=>⟨s1,q8g ks s1 c j u e1,q8g ks' s1 c' j u' e2⟩
    |_=>exact c'.elim
   |_=>exact c.elim
theorem y19:∀(n:Nat)(k:Kx)(v:Value)(s:Shared)(Q:Bool->Shared->Prop),k.depth<=n->KIs s.heap k v->Q true s->wpAny (model prog w) A (eqIsQuiet n v) Q E s:=by
 intro n
 induction n with
 |zero=>
  intro k v s Q hd x h;cases k with
  |non=>cases(show v=.none from x);rw[eqIsQuiet_byValue _ rfl];exact wpAny_pure h
  |bl b=>cases(show v=.bool b from x);rw[eqIsQuiet_byValue _ rfl];exact wpAny_pure h
  |int i=>obtain⟨t,rfl⟩:=x;rw[eqIsQuiet_byValue _ rfl];exact wpAny_pure h
  |str i=>obtain⟨t,rfl⟩:=x;rw[eqIsQuiet_byValue _ rfl];exact wpAny_pure h
  |tup ks=>grind [Kx.depth]
 |succ n ih=>
  intro k v s Q hd x h;cases k with
  |non=>cases(show v=.none from x);rw[eqIsQuiet_byValue _ rfl];exact wpAny_pure h
  |bl b=>cases(show v=.bool b from x);rw[eqIsQuiet_byValue _ rfl];exact wpAny_pure h
  |int i=>obtain⟨t,rfl⟩:=x;rw[eqIsQuiet_byValue _ rfl];exact wpAny_pure h
  |str i=>obtain⟨t,rfl⟩:=x;rw[eqIsQuiet_byValue _ rfl];exact wpAny_pure h
  |tup ks=>
   obtain⟨a,o,it,m,rfl,h1,h2,h3,h4⟩:=x;have hT:s.TypeIs (.ref a) "tuple":=⟨o,h1,h2⟩;unfold eqIsQuiet;refine wpAny_bind (wpAny_specialOf hT F.slot_tuple_eq.lookup ?_);show wpAny _ _ (isInstance (.ref a) (.type "tuple") >>= _) _ _ s;refine wpAny_bind (wpAny_isInstance hT isSubtype_tuple_tuple ?_);simp only[Bool.not_true,w3b,if_false];refine wpAny_bind (wpAny_seqItems h1 h3 ?_);refine wpAny_bind ?_;show wpAny _ _ (forIn it _ _) _ _ s;rw[<- w3a];refine wpAny_forIn_list _ (fun rest r s'=>r.1=none/\s'=s/\∀v∈rest,∃k:Kx,k.depth<=n/\KIs s.heap k v) _ ?_ ?_ _ _ ⟨rfl,rfl,fun v hv=>?_⟩
   ·rintro v rest r s' ⟨hr,rfl,hall⟩;obtain⟨k,k1,k2⟩:=hall v w0f;refine wpAny_bind (ih k v _ _ k1 k2 ?_)
    simp_all [wpAny_pure]
   ·grind [wpAny_pure]
   ·obtain⟨j,hj,e⟩:=List.mem_iff_getElem.mp hv;obtain⟨k,k1,k2⟩:=q7r ks h4 j v (by grind);have:=q8e ks j k k1
    grind [Kx.depth]
def treeKind(prog)(w)(sh:Sh):HeapKind prog w Kx where
 is:=fun h k a=>KIs h k (.ref a)/\Conf k sh/\k.depth<=7
 hash:=kHash w
 draws:=kDraws
 room:=fun A=>A.units+8<cLine
 inj:=fun hx hy=>x6d _ _ hx.1 hy.1
 keeps:=fun {h h' k a d o es ep} x ho hd hs=>⟨x2b (fun b ob e1 e2 e3=>by
  have hne:b≠d:=by
   grind
  exact(hs.2 b hne).trans e1) _ x.1,x.2⟩
 pyHash:=fun {A E s k a Q} hu hk h=>x6e k _ A s Q hk.1 (by have:=hk.2.2;omega) h
 eqBool:=fun {A E s x y a b Q} hu hx hy h=>z38 s 7 x y sh _ _ A hx.2.2 hx.2.1 hy.2.1 hx.1 hy.1 (by omega) prog w E Q h
 quiet:=fun {A E s k a Q} hk h=>y19 8 k _ s Q (by have:=hk.2.2;omega) hk.1 h
set_option Elab.async false
set_option linter.all false
set_option maxRecDepth 100000
noncomputable abbrev Key:=Sum Int Str
def keyIs:Key->Value->Bool
 |.inl k,v=>Value.isInt k v
 |.inr x,v=>Value.isStrOf x v
def keyH(w:World):Key->Int
 |.inl k=>hashInt k
 |.inr x=>hashStr w x
theorem keyIs_shape:∀{k:Key}{v:Value},keyIs k v=true->(∃i t,k=Sum.inl i/\v=Value.int i t)\/(∃x t,k=Sum.inr x/\v=Value.str x t)
 |.inl i,v,h=>by
  obtain⟨t,e⟩:=Value.isInt_shape (k:=i) (v:=v) h
  grind
 |.inr x,v,h=>by
  obtain⟨t,e⟩:=Value.isStrOf_shape (x:=x) (v:=v) h
  grind
theorem x8o(i)(t):keyIs (.inl i) (.int i t)=true:=by simp[keyIs,Value.isInt]
theorem x8p(x)(t):keyIs (.inr x) (.str x t)=true:=by simp[keyIs,Value.isStrOf]
theorem y9q(a b):decide ((Sum.inl a:Key)=Sum.inl b)=(a==b):=by
 grind
theorem y9r(a b):decide ((Sum.inr a:Key)=Sum.inr b)=decide (a=b):=by
 grind
theorem y9s(a)(b):decide ((Sum.inl a:Key)=Sum.inr b)=false:=decide_eq_false (fun q=>nomatch q)
theorem y9t(a)(b):decide ((Sum.inr a:Key)=Sum.inl b)=false:=decide_eq_false (fun q=>nomatch q)
def mixKind(prog)(w):PySem.KeyKind prog w Key where
 is:=keyIs
 hash:=keyH w
 inj:=fun v a b ha hb=>by
  grind [keyIs_shape]
 byValue:=fun k v h=>by
  rcases keyIs_shape h with⟨i,t,rfl,rfl⟩|⟨x,t,rfl,rfl⟩<;>rfl
 pyHash:=fun hv h=>by
  rcases keyIs_shape hv with⟨i,t,rfl,rfl⟩|⟨x,t,rfl,rfl⟩
  ·exact wpAny_pyHash_int h
  ·exact wpAny_pyHash_str h
 eqBool:=fun hu hv h=>by
  rcases keyIs_shape hu with⟨i,t,rfl,rfl⟩|⟨x,t,rfl,rfl⟩
  ·rcases keyIs_shape hv with⟨j,u,rfl,rfl⟩|⟨y,u,rfl,rfl⟩
   ·grind [y9q,wpAny_eqBool_int]
   ·rw[y9s]at h;exact SeqAt.EqAt.int_str i t y u _ _ _ _ h
  ·rcases keyIs_shape hv with⟨j,u,rfl,rfl⟩|⟨y,u,rfl,rfl⟩
   ·rw[y9t]at h;exact SeqAt.EqAt.str_int x t j u _ _ _ _ h
   grind [y9r,wpAny_eqBool_str]
 «strs»:=fun k x t v h=>by
  rcases keyIs_shape h with⟨i,u,rfl,e⟩|⟨y,u,rfl,e⟩
  ·exact nomatch e
  ·injection e with e1 _
   subst e1;cases v<;>rfl
theorem x5y(prog)(w)(i)(t):(mixKind prog w).is (.inl i) (.int i t)=true:=x8o i t
theorem x5z(prog)(w)(x)(t):(mixKind prog w).is (.inr x) (.str x t)=true:=x8p x t
set_option genInjectivity true in
inductive V where
 |non|bl (b:Bool)|int (i:Int)|str (x:Str)|byt (b:Array UInt8)|flt (b:UInt64)|ref (a:Addr)|ty (n:String)
 deriving DecidableEq
variable{xs:List V}{v:V}
def RelV:V->Value->Prop
 |.non,u=>u=Value.none
 |.bl b,u=>u=Value.bool b
 |.int i,u=>∃t,u=Value.int i t
 |.str x,u=>∃t,u=Value.str x t
 |.byt b,u=>∃t,u=Value.bytes b t
 |.flt b,u=>∃t,u=Value.float b t
 |.ref a,u=>u=Value.ref a
 |.ty n,u=>u=Value.type n
abbrev Vals:List V->List Value->Prop:=Paired RelV
theorem Vals.length(r:Vals xs us):xs.length=us.length:=Paired.length r
theorem Vals.get:∀{xs:List V}{us:List Value}{i:Nat}{x:V},Vals xs us->xs[i]?=some x->∃u,us[i]?=some u/\RelV x u
 |_,_,_,_,.nil,e=>by simp at e
 |_,_,0,_,.cons r _,e=>by grind
 |_,_,i+1,x,.cons _ t,e=>by
  obtain⟨u,h1,h2⟩:=Vals.get (i:=i) (x:=x) t (by simpa using e)
  grind
theorem Vals.append:∀{xs ys:List V}{us ws:List Value},Vals xs us->Vals ys ws->Vals (xs++ys) (us++ws)
 |_,_,_,_,.nil,s=>s
 |_,_,_,_,.cons r t,s=>.cons r (Vals.append t s)
theorem Vals.take:∀{xs:List V}{us:List Value}(n:Nat),Vals xs us->Vals (xs.take n) (us.take n)
 |_,_,0,_=>.nil
 |_,_,_+1,.nil=>.nil
 |_,_,n+1,.cons r t=>.cons r (Vals.take n t)
theorem Vals.drop:∀{xs:List V}{us:List Value}(n:Nat),Vals xs us->Vals (xs.drop n) (us.drop n)
 |_,_,0,r=>r
 |_,_,_+1,.nil=>.nil
 |_,_,n+1,.cons _ t=>Vals.drop n t
def RelO:Option V->Option Value->Prop
 |some v,some u=>RelV v u
 |none,none=>True
 |_,_=>False
def KV{κ:Type}:List (κ×V)->List (κ×Value)->Prop:=Paired fun(p:κ×V) (q:κ×Value)=>p.1=q.1/\RelV p.2 q.2
def kV:Key->V
 |.inl i=>.int i
 |.inr x=>.str x
inductive HO where
 /-- a list -/
 |lst (xs:List V)
 /-- a tuple (never changes) -/
 |tup (xs:List V)
 /-- a dict whose keys are ints and texts;one whose keys are tuples of ints and texts (the empty one is both) -/
 |dK (kvs:List (Key×V))|dT (sh:Sh) (kvs:List (Kx×V)) (kas:List Addr)
 /-- a set of ints: its members,its size -/
 |set (S:Int->Bool) (n:Nat)
 /-- an instance of the class at C,its dict at dx,its attributes -/
 |ins (C dx:Addr) (fs:List (Str×V))
 /-- the dict of the instance at x -/
 |own (x:Addr)
 /-- the dict of an exception -/
 |xd (fs:List (Str×V))
 /-- a bound method,f of x -/
 |met (f x:Addr)
 /-- a range object lo,lo+1,.. below hi -/
 |rng (lo hi:Int)
 /-- a thing that is known to the object (the script;a dict while a loop walks it): read,never written while it is so -/
 |frz (o:Obj) (u:HO)
 /-- a code object's table -/
 |tbl (ps:Array Value)
 /-- any other thing,by what is true of its one object (a def of one's own: SetO a S n:=HO.ext fun h=>..) -/
 |ext (φ:Heap->Prop)
noncomputable abbrev Hp:=Addr->Option HO
variable{H H':Hp}
def TupLike:HO->Prop
 |.tup _=>True
 |.frz _ (.tup _)=>True
 |.frz _ (.own _)=>True
 |_=>False
mutual
def KRep(H:Hp):Kx->V->Prop
 |.non,v=>v=.non
 |.bl b,v=>v=.bl b
 |.int i,v=>v=.int i
 |.str x,v=>v=.str x
 |.tup ks,v=>∃a xs,v=.ref a/\(H a=some (.tup xs)\/∃o,H a=some (.frz o (.tup xs)))/\KReps H ks xs
def KReps(H:Hp):List Kx->List V->Prop
 |[],vs=>vs=[]
 |k::ks,vs=>∃v r,vs=v::r/\KRep H k v/\KReps H ks r
end
mutual
theorem KRep.keeps{H H':Hp}(ht:∀b u,TupLike u->H b=some u->H' b=some u):∀(k:Kx){v:V},KRep H k v->KRep H' k v
 |.non,_,x=>x
 |.bl _,_,x=>x
 |.int _,_,x=>x
 |.str _,_,x=>x
 |.tup ks,_,x=>by
  obtain⟨a,xs,e,q,r⟩:=x;refine⟨a,xs,e,?_,KReps.keeps ht ks r⟩;rcases q with q|⟨o,q⟩
  ·exact .inl (ht _ _ True.intro q)
  ·exact .inr ⟨o,ht _ _ True.intro q⟩
theorem KReps.keeps{H H':Hp}(ht:∀b u,TupLike u->H b=some u->H' b=some u):∀(ks:List Kx){vs:List V},KReps H ks vs->KReps H' ks vs
 |[],_,x=>x
 |k::ks,_,x=>by
  obtain⟨v,r,e,h1,h2⟩:=x;exact⟨v,r,e,KRep.keeps ht k h1,KReps.keeps ht ks h2⟩
end
def upd(H:Hp)(a:Addr)(o:HO):Hp:=fun b=>if b=a then some o else H b
theorem q0j:upd H a o a=some o:=by simp_all [upd]
theorem q0f(h:b≠a):upd H a o b=H b:=by unfold upd;rw[if_neg h]
theorem y5s{u:HO}:upd (upd H a o) a u=upd H a u:=by
 grind [upd]
theorem q0u{u:HO}(h:H a=some o)(h':H b=some u)(d:o≠u):a≠b:=by
 grind
theorem q0o(h:H a=some o)(h':H b=none):a≠b:=by
 grind
section
variable(P:Program)(w:World)
def BareT(h:Heap)(a:Addr):Prop:=∃o,h.get? a=some o/\o.dict=none
def ObjOk(H:Hp)(h:Heap)(a:Addr):HO->Prop
 |.lst xs=>xs.length<=sizeLine/\∃(its:List Value)(n:Nat),Vals xs its/\h.get? a=some {cls:=.type "list", data:=.seq its.toArray n}
 |.tup xs=>xs.length<=sizeLine/\∃its:List Value,Vals xs its/\IsTup h a its.toArray/\BareT h a
 |.dK kvs=>kvs.length<=sizeLine/\(a==sysModules)=false/\∃vs,KV kvs vs/\h.DictOf (mixKind P w) a vs
 |.dT sh kvs kas=>kvs.length<=sizeLine/\(a==sysModules)=false/\∃xs:List (Kx×Addr×Value),
   Paired (fun(p:Kx×V) (q:Kx×Addr×Value)=>p.1=q.1/\(KRep H p.1 (.ref q.2.1)/\Conf p.1 sh/\p.1.depth<=7)/\RelV p.2 q.2.2) kvs xs/\xs.map (·.2.1)=kas /\
   ∃o es ep,h.get? a=some o/\o.ExactDict/\o.data=.dict es ep/\es.toList=xs.map (entryOfKey (treeKind P w sh))/\(xs.map (·.1)).Nodup
 |.set S n=>h.SetOf (intKind P w) a S n
 |.ins C dx fs=>H dx=some (.own a)/\fs.length<=1000/\dx≠a/\h.get? a=some (PySem.W.instObj C dx) /\
   ∃mA,h.Ns1 dx mA/\(∀f,RelO (fs.lookup f) (mA f))/\PySem.Within mA (fs.map (·.1))
 |.own _=>∃o,h.get? a=some o
 |.xd fs=>∃mA,h.Ns1 a mA/\∀f,RelO (fs.lookup f) (mA f)
 |.rng lo hi=>∃t u v,h.get? a=some {cls:=.type "range", data:=.fields #[.int lo t,.int hi u,.int 1 v]}
 |.frz o u=>h.get? a=some o/\ObjOk H h a u
 |.tbl ps=>(∃(q:Str)(qs:Array Value),ps[0]?=some (.bool true)/\ps[1]?=some (.str q 0)/\h.get? a=some {cls:=.none,data:=.fields qs}/\TriplesOk qs.toList/\∀(pos:Pos)(cv:Value),codeAmong pos qs.toList=some cv ->
   ∃(c:Addr)(oc:Obj)(vs:Array Value)(t:Tok),cv=.ref c/\H c=some (.frz oc (.own 0))/\oc.data=.fields vs/\vs[1]?=some (.str q t)) \/
   ∃(q:Str)(c:Addr)(oc ob:Obj)(vs:Array Value)(t:Tok),ps[0]?=some (.bool false)/\ps[1]?=some (.str q 0)/\ps[2]?=some (.ref c)/\H c=some (.frz oc (.own 0))/\oc.data=.fields vs/\vs[1]?=some (.str q t)/\h.get? a=some ob
 |.met f x=>h.get? a=some (methodObj (.ref f) (.ref x))
 |.ext φ=>φ h/\(∃o,h.get? a=some o)/\∀h1 h2:Heap,φ h1->(∀o,h1.get? a=some o->h2.get? a=some o)->φ h2
def HOk(H:Hp)(h:Heap):Prop:=∀a o,H a=some o->ObjOk P w H h a o
end
section
variable{o:HO}
theorem ObjOk.lt(x:ObjOk P w H h a o):a<h.objs.size:=by
 cases o with
 |lst xs=>obtain⟨_,_,_,_,e⟩:=x;exact Heap.lt_size e
 |tup xs=>obtain⟨_,_,_,p,_⟩:=x;exact p.lt
 |dK kvs=>obtain⟨_,_,_,_,o,_,_,e,_⟩:=x;exact Heap.lt_size e
 |dT sh kvs kas=>obtain⟨_,_,_,_,_,o,_,_,e,_⟩:=x;exact Heap.lt_size e
 |set S n=>obtain⟨o,_,_,_,e,_⟩:=x;exact Heap.lt_size e
 |ins C dx fs=>obtain⟨_,_,_,e,_⟩:=x;exact Heap.lt_size e
 |own y=>obtain⟨_,e⟩:=x;exact Heap.lt_size e
 |xd fs=>obtain⟨_,⟨_,_,_,e,_⟩,_⟩:=x;exact Heap.lt_size e
 |rng lo hi=>obtain⟨_,_,_,e⟩:=x;exact Heap.lt_size e
 |frz ob u=>obtain⟨e,_⟩:=x;exact Heap.lt_size e
 |tbl ps=>rcases x with⟨_,_,_,_,e,_⟩|⟨_,_,_,_,_,_,_,_,_,_,_,_,e⟩<;>exact Heap.lt_size e
 |met f y=>exact Heap.lt_size (show h.get? a=some _ from x)
 |ext φ=>obtain⟨_,⟨_,e⟩,_⟩:=x;exact Heap.lt_size e
theorem Paired.mapP{α β:Type}{F G:α->β->Prop}:∀{l₁:List α}{l₂:List β},Paired F l₁ l₂->(∀a b,F a b->G a b)->Paired G l₁ l₂
 |_,_,.nil,_=>.nil
 |_,_,.cons r t,f=>.cons (f _ _ r) (Paired.mapP t f)
theorem ObjOk.stay(x:ObjOk P w H h a o)(k:∀b u,(b=a\/H b=some (.own a))->h.get? b=some u->h'.get? b=some u)
  (ho:∀b,H b=some (.own a)->H' b=some (.own a))(ht:∀b u,TupLike u->H b=some u->H' b=some u):ObjOk P w H' h' a o:=by
 induction o with
 |lst xs=>obtain⟨z,its,n,r,e⟩:=x;exact⟨z,its,n,r,k _ _ (.inl rfl) e⟩
 |tup xs=>obtain⟨z,its,r,⟨ob,e,c⟩,⟨o2,e2,c2⟩⟩:=x;exact⟨z,its,r,⟨ob,k _ _ (.inl rfl) e,c⟩,⟨o2,k _ _ (.inl rfl) e2,c2⟩⟩
 |dK kvs=>obtain⟨z,y,vs,r,ob,es,ep,e,c⟩:=x;exact⟨z,y,vs,r,ob,es,ep,k _ _ (.inl rfl) e,c⟩
 |dT sh kvs kas=>
  obtain⟨z,y,xs,r,ka,ob,es,ep,e,c⟩:=x;exact⟨z,y,xs,Paired.mapP r fun p q z=>⟨z.1,⟨KRep.keeps ht _ z.2.1.1,z.2.1.2⟩,z.2.2⟩,ka,ob,es,ep,k _ _ (.inl rfl) e,c⟩
 |set S n=>obtain⟨ob,es,ep,t,e,c⟩:=x;exact⟨ob,es,ep,t,k _ _ (.inl rfl) e,c⟩
 |ins C dx fs=>
  obtain⟨d,z,ne,e,mA,⟨od,es,ep,e2,c⟩,r⟩:=x;exact⟨ho _ d,z,ne,k _ _ (.inl rfl) e,mA,⟨od,es,ep,k _ _ (.inr d) e2,c⟩,r⟩
 |own y=>obtain⟨ob,e⟩:=x;exact⟨ob,k _ _ (.inl rfl) e⟩
 |xd fs=>obtain⟨mA,⟨od,es,ep,e,c⟩,r⟩:=x;exact⟨mA,⟨od,es,ep,k _ _ (.inl rfl) e,c⟩,r⟩
 |rng lo hi=>obtain⟨t,u,v,e⟩:=x;exact⟨t,u,v,k _ _ (.inl rfl) e⟩
 |frz ob u ih=>obtain⟨e,q⟩:=x;exact⟨k _ _ (.inl rfl) e,ih q⟩
 |tbl ps=>
  rcases x with⟨q,qs,p0,p1,e,tr,cd⟩|⟨q,c,oc,ob,vs,t,p0,p1,p2,h3,h4,h5,e⟩
  ·refine .inl ⟨q,qs,p0,p1,k _ _ (.inl rfl) e,tr,fun pos cv z=>?_⟩
   obtain⟨c,oc,vs,t,h1,h3,h4,h5⟩:=cd pos cv z;exact⟨c,oc,vs,t,h1,ht _ _ True.intro h3,h4,h5⟩
  ·exact .inr ⟨q,c,oc,ob,vs,t,p0,p1,p2,ht _ _ True.intro h3,h4,h5,k _ _ (.inl rfl) e⟩
 |met f y=>
  have e:h.get? a=some (methodObj (.ref f) (.ref y)):=x;show h'.get? a=some (methodObj (.ref f) (.ref y));exact k a _ (.inl rfl) e
 |ext φ=>obtain⟨p,⟨o,e⟩,st⟩:=x;exact⟨st _ _ p fun o q=>k _ _ (.inl rfl) q,⟨o,k _ _ (.inl rfl) e⟩,st⟩
theorem HOk.lt(x:HOk P w H h)(e:H a=some o):a<h.objs.size:=(x a o e).lt
theorem HOk.fresh(x:HOk P w H h)(e:h.objs.size<=a):H a=none:=by
 cases q:H a with
 |none=>rfl
 |some u=>exact absurd (w0w (x.lt q) e) (w2j _)
theorem HOk.kept(x:HOk P w H h)(k:∀b u,h.get? b=some u->h'.get? b=some u):HOk P w H h':=fun a o e=>
 (x a o e).stay (fun b u _ q=>k b u q) (fun _ q=>q) fun _ _ _ q=>q
theorem HOk.laid(x:HOk P w H h)(k:∀b u,h.get? b=some u->h'.get? b=some u)(hp:h.objs.size<=a)(new:ObjOk P w (upd H a o) h' a o):HOk P w (upd H a o) h':=fun b u e=>by
 have hn:=x.fresh hp
 by_cases hb:b=a
 ·grind [q0j]
 ·rw[q0f hb]at e;exact(x b u e).stay (fun c v _ q=>k c v q) (fun c q=>by rw[q0f (q0o q hn)];exact q) fun c xs _ q=>by rw[q0f (q0o q hn)];exact q
end
def Rd(H:Hp)(a:Addr)(u:HO):Prop:=H a=some u\/∃o,H a=some (.frz o u)
theorem Rd.ok{u:HO}(r:Rd H a u)(x:HOk P w H h):ObjOk P w H h a u:=by
 rcases r with r|⟨o,r⟩
 ·exact x a u r
 ·obtain⟨_,q⟩:=x a _ r;exact q
def Mut:Option HO->Prop
 |some (.lst _)=>True
 |some (.dK _)=>True
 |some (.dT _ _ _)=>True
 |some (.set _ _)=>True
 |some (.ins _ _ _)=>True
 |some (.ext _)=>True
 |_=>False
section
variable{x e:Addr}{o':HO}
theorem HOk.write(ok:HOk P w H h)(mu:Mut (H x))(he:e=x\/H e=some (.own x))(k:∀b u,b≠e->h.get? b=some u->h'.get? b=some u)(heo:∃u,h'.get? e=some u)
  (new:ObjOk P w (upd H x o') h' x o'):HOk P w (upd H x o') h':=fun b u q=>by
 have nown:∀c y,H c=some (.own y)->c≠x:=fun c y r z=>by subst z;rw[r]at mu;exact mu
 have ntup:∀c u,TupLike u->H c=some u->c≠x:=fun c u t r z=>by
  subst z;rw[r]at mu;cases u<;>first|exact mu|exact t
 by_cases hb:b=x
 ·grind [q0j]
 ·rw[q0f hb]at q
  by_cases hbe:b=e
  ·have q':H b=some (.own x):=by
    grind
   rw[q]at q';cases q';obtain⟨v,hv⟩:=heo;exact⟨v,by rw[hbe];exact hv⟩
  ·refine(ok b u q).stay (fun c v hc r=>k c v ?_ r) (fun c r=>by grind [q0f]) fun c xs t r=>by grind [q0f]
   rcases hc with rfl|hc
   ·exact hbe
   ·rintro rfl;rcases he with z|z
    ·exact nown c b hc z
    ·rw[hc]at z;cases z;exact hb rfl
end
structure Un(fs ex:List Addr)(H H':Hp)(h h':Heap):Prop where
 keep:∀b o,h.get? b=some o->H b=none->b∉fs->b∉ex->h'.get? b=some o
 slot:∀b o,h.get? b=some o->H b=none->b∈fs->b∉ex->∃sl,h'.get? b=some {o with slots:=sl}
 free:∀b o,h.get? b=some o->H b=none->b∉ex->H' b=none
 there:∀b o,h.get? b=some o->b∉ex->∃o',h'.get? b=some o'
 tups:∀b xs,H b=some (.tup xs)->H' b=some (.tup xs)
 frzs:∀b o u,H b=some (.frz o u)->H' b=some (.frz o u)
 tbls:∀b ps,H b=some (.tbl ps)->∃more,H' b=some (.tbl (ps++more))
section
variable{fs fs' ex ex':List Addr}{H1 H2:Hp}{h1 h2:Heap}{x e:Addr}{o:HO}
theorem Un.any(u:Un fs ex H H1 h h1)(q:h.get? b=some ob)(n:H b=none)(hx:b∉ex):∃sl,h1.get? b=some {ob with slots:=sl}:=by
 by_cases hb:b∈fs
 ·exact u.slot b ob q n hb hx
 ·exact⟨ob.slots,u.keep b ob q n hb hx⟩
theorem Un.kept(k:∀b u,h.get? b=some u->h'.get? b=some u):Un fs ex H H h h':=
 ⟨fun b ob q _ _ _=>k b ob q,fun b ob q _ _ _=>⟨ob.slots,k b ob q⟩,fun _ _ _ n _=>n,fun b ob q _=>⟨ob,k b ob q⟩,fun _ _ q=>q,fun _ _ _ q=>q,fun _ ps q=>⟨#[],by rw[q];simp⟩⟩
theorem Un.refl:Un fs ex H H h h:=Un.kept fun _ _ q=>q
theorem Un.laid(k:∀b u,h.get? b=some u->h'.get? b=some u)(hp:h.objs.size<=a)(hn:H a=none):Un fs ex H (upd H a o) h h' where
 keep:=fun b u q _ _ _=>k b u q
 slot:=fun b u q _ _ _=>⟨u.slots,k b u q⟩
 free:=fun b u q n _=>by rw[q0f (w0u (w0w (Heap.lt_size q) hp))];exact n
 there:=fun b u q _=>⟨u,k b u q⟩
 tups:=fun b xs q=>by rw[q0f (q0o q hn)];exact q
 frzs:=fun b u xs q=>by rw[q0f (q0o q hn)];exact q
 tbls:=fun b ps q=>⟨#[],by rw[q0f (q0o q hn),q];simp⟩
theorem Un.write(mu:Mut (H x))(he:e=x\/H e=some (.own x))(k:∀b u,b≠e->h.get? b=some u->h'.get? b=some u)(heo:∃u,h'.get? e=some u):Un fs ex H (upd H x o) h h':=by
 have hx:∀b,H b=none->b≠x:=fun b n z=>by subst z;rw[n]at mu;exact mu
 have hb:∀b,H b=none->b≠e:=fun b n z=>by
  grind
 have hm:∀b u,H b=some u->¬Mut (some u)->b≠x:=fun b u q nm z=>by grind
 refine⟨fun b u q n _ _=>k b u (hb b n) q,fun b u q n _ _=>⟨u.slots,k b u (hb b n) q⟩,fun b u q n _=>by grind [q0f],fun b u q _=>?_,
  fun b xs q=>by rw[q0f (hm b _ q fun z=>z)];exact q,fun b u xs q=>by rw[q0f (hm b _ q fun z=>z)];exact q,fun b ps q=>⟨#[],by rw[q0f (hm b _ q fun z=>z),q];simp⟩⟩
 grind
end
def trk(h:Heap)(H:Hp):List Addr:=(List.range h.objs.size).filter fun a=>(H a).isSome
def hidT(h:Heap)(H:Hp):Heap:=PySem.W.hideAll h (trk h H)
theorem x8q(h)(H):(hidT h H).objs.size=h.objs.size:=PySem.W.hideAll_size _ _
theorem y2a(e:h.get? b=some o)(n:H b=none):(hidT h H).get? b=some o:=
 PySem.W.hideAll_get _ e fun hm=>by
  have q:(H b).isSome=true:=(List.mem_filter.mp hm).2;rw[n]at q;simp at q
theorem y5t(e:(hidT h H).get? b=some o):h.get? b=some o/\H b=none:=by
 have e':h.get? b=some o:=PySem.W.of_hideAll (trk h H) e;refine⟨e',?_⟩;cases q:H b with
 |none=>rfl
 |some x=>
  grind [trk,Heap.lt_size,hidT,W.hideAll_none]
def allNews(g h:Heap)(L:Addr):List (Addr×Obj):=(List.range h.objs.size).filterMap fun a=>if a=L\/(g.get? a).isSome=true then none else(h.get? a).map fun o=>(a,o)
def rest(g h:Heap)(L d:Addr):List (Addr×Obj):=(allNews g h L).filter fun p=>decide (p.1≠d)
structure Mod(K:PySem.W.Frag)(mg:Str->Option Value)(base:Heap):Prop where
 kin:K.In base
 glob:base.Ns mainGlobals mg
 blt:∃mb,base.Ns builtinsNs mb/\∀x:Str,x≠"__name__"->mb x=bootBuiltins x
 nolimit:base.NoLimit
structure Cx where
 prog:Program
 w:World
 K:PySem.W.Frag
 mg:Str->Option Value
 base:Heap
 A:Around
 N:List Str
 s₀:Shared
 H₀:Hp
 env:Env
 outer:List Env
 stack:List Env
 ex:List Addr
 fn:Str->Bool
 calm:Bool
 pn:List (Addr×Obj)
 xe:Value->Shared->Prop
variable{X:Cx}
def frs(l:List Env):List Addr:=l.filterMap (·.frame)
noncomputable abbrev Cx.fs(X:Cx):List Addr:=frs X.outer
def Vis(sc:Scope)(x:Str):Prop:=sc.names.lookup x=some .local\/sc.names.lookup x=some .cell\/sc.names.lookup x=some .free
def Loc(sc:Scope)(x:Str):Prop:=sc.names.lookup x=some .local\/sc.names.lookup x=some .cell
def Look(env:Env)(h:Heap)(m:Str->Option Value)(x:Str)(u:Value):Prop:=
 (env.kindOf x=some .local/\m x=some u)\/((env.kindOf x=some .cell\/env.kindOf x=some .free)/\∃c,env.cells.lookup x=some c/\h.IsCell c (some u))
noncomputable abbrev markO(P:Addr)(q:Str):Obj:={cls:=.str q 0,data:=.fields #[.ref P]}
def TabOk(K:PySem.W.Frag)(H:Hp):Prop:=∀(a:Addr)(q:Str)(P:Addr),(a,markO P q)∈K->∃ps:Array Value,H P=some (.tbl ps)/\ps[0]?=some (.bool true)/\ps[1]?=some (.str q 0)
def noMark(K:PySem.W.Frag):Bool:=K.all fun p=>match p.2.cls with
 |.str _ _=>false
 |_=>true
theorem TabOk.vac(h:noMark K=true):TabOk K H:=fun a q P m=>by
 have:=w1s.mp h _ m;cases this
theorem TabOk.un(t:TabOk K H)(u:Un fs ex H H' h h'):TabOk K H':=fun a q P m=>by
 obtain⟨ps,e,p0,p1⟩:=t a q P m;obtain⟨more,e'⟩:=u.tbls P ps e
 grind
theorem TabOk.laid(t:TabOk K H)(hn:H D=none):TabOk K (upd H D o):=fun a q P m=>by
 obtain⟨ps,e,p⟩:=t a q P m;exact⟨ps,by rw[q0f (q0o e hn)];exact e,p⟩
structure Cx.Ok(X:Cx):Prop where
 mod:Mod X.K X.mg X.base
 kind:X.env.scope.kind=.function
 glob:X.env.globals=mainGlobals
 blt:X.env.builtins=builtinsNs
 above:X.s₀.heap.objs.size<=X.env.locals
 inj:∀x y c,X.env.cells.lookup x=some c->X.env.cells.lookup y=some c->x=y
 has:∀x,(X.env.kindOf x=some .cell\/X.env.kindOf x=some .free)->∃c,X.env.cells.lookup x=some c
 cab:∀x c,X.fn x=true->X.env.cells.lookup x=some c->X.s₀.heap.objs.size<=c
 hd:X.calm=true->X.A.handled=none
 frames:X.A.frames=some X.stack
 stk:X.stack=X.outer\/(X.stack=X.env::X.outer/\X.env.frame=some X.env.locals)
 exf:∀b∈X.ex,b≠X.env.locals/\∀x c,X.env.cells.lookup x=some c->c≠b
 bs:∀b o,X.base.get? b=some o->X.s₀.heap.get? b=some o/\X.H₀ b=none
 bsz:X.base.objs.size<=X.s₀.heap.objs.size
 noex:∀b o,X.base.get? b=some o->b∉X.ex
 exfs:∀b∈X.ex,b∉X.fs
 funs:X.s₀.heap.FunFrames X.base X.outer
 frf:∀b∈X.fs,X.H₀ b=none
 tab:TabOk X.K X.H₀
structure Inv(X:Cx)(pins:List (Addr×Obj))(σ:List (Option V))(H:Hp)(s:Shared):Prop where
 ok:X.Ok
 os:s.os=X.s₀.os
 bare:AllBare s.gens
 base:Un X.fs X.ex X.H₀ H X.s₀.heap s.heap
 loc:∃m,s.heap.Ns X.env.locals m/\∀(i:Nat)(x:Str)(v:V),X.N[i]?=some x->σ[i]?=some (some v)->Vis X.env.scope x->∃u,RelV v u/\Look X.env s.heap m x u
 cell:∀x c,X.env.cells.lookup x=some c->∃v,s.heap.IsCell c v
 free:H X.env.locals=none
 freeC:∀x c,X.env.cells.lookup x=some c->H c=none
 pin:∀p∈X.pn++pins,s.heap.get? p.1=some p.2/\H p.1=none/\p.1≠X.env.locals/\p.1∉X.fs/\∀v,p.2.data≠.cell v
 hok:HOk X.prog X.w H s.heap
 len:σ.length=X.N.length
section
variable{σ:List (Option V)}
theorem Cx.Ok.nofr(ok:X.Ok)(e:X.base.get? b=some o):b∉X.fs:=fun hb=>by
 have:=(ok.funs.mem hb).1
 grind
theorem Inv.bs(I:Inv X pins σ H s):∀b o,X.base.get? b=some o->s.heap.get? b=some o/\H b=none:=fun b o e=>
 ⟨I.base.keep b o (I.ok.bs b o e).1 (I.ok.bs b o e).2 (I.ok.nofr e) (I.ok.noex b o e),I.base.free b o (I.ok.bs b o e).1 (I.ok.bs b o e).2 (I.ok.noex b o e)⟩
theorem Inv.bk(I:Inv X pins σ H s):∀b o,X.base.get? b=some o->s.heap.get? b=some o:=fun b o e=>(I.bs b o e).1
theorem Inv.mod(I:Inv X pins σ H s):Mod X.K X.mg X.base:=I.ok.mod
theorem Inv.kIn(I:Inv X pins σ H s):X.K.In s.heap:=I.ok.mod.kin.keeps I.bk
theorem Inv.fr(I:Inv X pins σ H s):∃m,Fr X.base X.env.locals s.heap m:=
 let ⟨m,hn,_⟩:=I.loc
 ⟨m,hn,I.bk,w0v I.ok.bsz I.ok.above⟩
theorem Inv.lt(I:Inv X pins σ H s):X.env.locals<s.heap.objs.size:=let ⟨_,hn,_⟩:=I.loc;hn.lt
theorem Inv.sz(I:Inv X pins σ H s):X.s₀.heap.objs.size<=s.heap.objs.size:=w0v I.ok.above (w5e I.lt)
theorem Inv.nofs(I:Inv X pins σ H s)(h:s.heap.objs.size<=a):a∉X.fs:=fun hb=>by
 obtain⟨_,o,ho,_⟩:=I.ok.funs.mem hb
 exact absurd (w0w (Heap.lt_size ho) (w0v I.sz h)) (w2j _)
theorem Inv.cne(I:Inv X pins σ H s):∀x c,X.env.cells.lookup x=some c->c≠X.env.locals:=fun x c e z=>by
 obtain⟨v,o,ho,hd⟩:=I.cell x c e;obtain⟨m,⟨o',es,ep,ho',hd',_⟩,_⟩:=I.loc
 grind
theorem Inv.funs(I:Inv X pins σ H s):s.heap.FunFrames X.base X.outer:=by
 have all:∀(l:List Env),(∀b∈frs l,b∈X.fs)->X.s₀.heap.FunFrames X.base l->s.heap.FunFrames X.base l:=by
  intro l
  induction l with
  |nil=>intro _ _;trivial
  |cons env r ih=>
   intro hs hl;obtain⟨hk,⟨L,o,hf,hn,ho,hd⟩,hr⟩:=hl;have hL:L∈X.fs:=hs L (by grind [frs]);obtain⟨sl,e⟩:=I.base.slot L o ho (I.ok.frf L hL) hL fun z=>I.ok.exfs L z hL
   exact⟨hk,⟨L,_,hf,hn,e,hd⟩,ih (fun b hb=>hs b (by grind [frs])) hr⟩
 exact all X.outer (fun _ hb=>hb) I.ok.funs
theorem Inv.stack(I:Inv X pins σ H s):s.heap.FunFrames X.base X.stack:=by
 rcases I.ok.stk with e|⟨e,hf⟩
 ·rw[e];exact I.funs
 ·rw[e];obtain⟨m,hn,_⟩:=I.loc;refine .cons (by rw[I.ok.kind];decide) hf hn ?_ I.funs
  exact Heap.get?_none_of_le (w0v I.ok.bsz I.ok.above)
theorem Inv.stkSub(I:Inv X pins σ H s):∀b∈frs X.stack,b∈X.env.locals::X.fs:=fun b hb=>by
 rcases I.ok.stk with e|⟨e,hf⟩
 all_goals grind [frs]
theorem Inv.stkFree(I:Inv X pins σ H s):∀b∈frs X.stack,H b=none:=fun b hb=>by
 rcases w0d.mp (I.stkSub b hb)with e|hb
 ·rw[e];exact I.free
 ·obtain⟨_,o,ho,_⟩:=I.ok.funs.mem hb
  exact I.base.free b o ho (I.ok.frf b hb) fun z=>I.ok.exfs b z hb
theorem Inv.step{g':Array GenState}{d':Drawn}{ch:List Addr}(I:Inv X pins σ H s)
  (hch:∀b∈ch,(b∈X.ex\/X.s₀.heap.objs.size<=b)/\b≠X.env.locals/\(∀x c,X.env.cells.lookup x=some c->c≠b)/\∀p∈X.pn++pins,p.1≠b)
  (keep:∀b o,b≠X.env.locals->b∉X.fs->b∉ch->s.heap.get? b=some o->H b=none->h'.get? b=some o)
  (slot:∀b o,b≠X.env.locals->b∈X.fs->b∉ch->s.heap.get? b=some o->H b=none->∃sl,h'.get? b=some {o with slots:=sl})(free:∀b o,b∉ch->s.heap.get? b=some o->H b=none->H' b=none)
  (there:∀b o,b∉ch->s.heap.get? b=some o->∃o',h'.get? b=some o')
  (tups:∀b xs,H b=some (.tup xs)->H' b=some (.tup xs))(frzs:∀b o u,H b=some (.frz o u)->H' b=some (.frz o u))(tbls:∀b ps,H b=some (.tbl ps)->∃more,H' b=some (.tbl (ps++more)))
  (ns:∀m,s.heap.Ns X.env.locals m->h'.Ns X.env.locals m)(hok:HOk X.prog X.w H' h')(hg:AllBare g'):
  Inv X pins σ H' {s with heap:=h',gens:=g',drawn:=d',toks:=t'}:=by
 have neL:∀b o,X.s₀.heap.get? b=some o->b≠X.env.locals:=fun b o e=>w0u (w0w (Heap.lt_size e) I.ok.above)
 have neC:∀b o,X.s₀.heap.get? b=some o->b∉X.ex->b∉ch:=fun b o e hx hb=>by
  rcases(hch b hb).1 with z|z
  ·exact hx z
  ·exact absurd (w0w (Heap.lt_size e) z) (w2j _)
 have cellK:∀x c,X.env.cells.lookup x=some c->∀v,s.heap.IsCell c v->h'.IsCell c v:=fun x c e v ⟨o,ho,hd⟩=>by
  have nch:c∉ch:=fun z=>(hch c z).2.2.1 x c e rfl
  by_cases hc:c∈X.fs
  ·obtain⟨sl,q⟩:=slot c o (I.cne x c e) hc nch ho (I.freeC x c e);exact⟨_,q,hd⟩
  ·exact⟨o,keep c o (I.cne x c e) hc nch ho (I.freeC x c e),hd⟩
 refine⟨I.ok,I.os,hg,⟨fun b o e n hb hx=>?_,fun b o e n hb hx=>?_,fun b o e n hx=>?_,fun b o e hx=>?_,fun b xs e=>tups b xs (I.base.tups b xs e),fun b o xs e=>frzs b o xs (I.base.frzs b o xs e),fun b ps e=>?_⟩,?_,fun x c e=>?_,?_,fun x c e=>?_,fun p hp=>?_,hok,I.len⟩
 ·exact keep b o (neL b o e) hb (neC b o e hx) (I.base.keep b o e n hb hx) (I.base.free b o e n hx)
 ·obtain⟨sl,e1⟩:=I.base.slot b o e n hb hx;obtain⟨sl',e2⟩:=slot b _ (neL b o e) hb (neC b o e hx) e1 (I.base.free b o e n hx);exact⟨sl',e2⟩
 ·obtain⟨o',e1⟩:=I.base.there b o e hx;exact free b o' (neC b o e hx) e1 (I.base.free b o e n hx)
 ·obtain⟨o',e1⟩:=I.base.there b o e hx
  grind
 ·obtain⟨m1,e1⟩:=I.base.tbls b ps e
  grind
 ·obtain⟨m,hn,hl⟩:=I.loc;refine⟨m,ns m hn,fun i x v e1 e2 e3=>?_⟩
  obtain⟨u,r,l⟩:=hl i x v e1 e2 e3;refine⟨u,r,?_⟩;rcases l with l|⟨k,c,e,z⟩
  ·exact .inl l
  ·exact .inr ⟨k,c,e,cellK x c e _ z⟩
 ·obtain⟨v,z⟩:=I.cell x c e
  grind
 ·obtain⟨m,⟨o,_,_,ho,_⟩,_⟩:=I.loc
  grind [free]
 ·obtain⟨v,o,ho,hd⟩:=I.cell x c e;exact free c o (fun z=>(hch c z).2.2.1 x c e rfl) ho (I.freeC x c e)
 ·obtain⟨e,n,ne,nf,d⟩:=I.pin p hp
  grind
theorem Inv.un(I:Inv X pins σ H s)(u:Un X.fs [] H H' s.heap h')(hok:HOk X.prog X.w H' h'):Inv X pins σ H' {s with heap:=h',toks:=t'}:=by
 obtain⟨m,⟨o,es,ep,ho,r⟩,_⟩:=id I.loc;obtain⟨sl,hL⟩:=u.any ho I.free (by simp)
 exact I.step (g':=s.gens) (d':=s.drawn) (ch:=[]) (fun _ z=>nomatch z) (fun b o _ hb _ e n=>u.keep b o e n hb (by simp)) (fun b o _ hb _ e n=>u.slot b o e n hb (by simp)) (fun b o _ e n=>u.free b o e n (by simp)) (fun b o _ e=>u.there b o e (by simp)) u.tups u.frzs u.tbls (fun m' hm=>by
  obtain⟨o',es',ep',ho',r'⟩:=hm;rw[ho]at ho';cases ho';exact⟨_,es',ep',hL,r'⟩) hok I.bare
theorem Inv.call{g':Array GenState}{d':Drawn}(I:Inv X pins σ H s)(u:Un (frs X.stack) ch H H' s.heap h')(hok:HOk X.prog X.w H' h')(hg:AllBare g')
  (hch:∀b∈ch,(b∈X.ex\/X.s₀.heap.objs.size<=b)/\b≠X.env.locals/\(∀x c,X.env.cells.lookup x=some c->c≠b)/\∀p∈X.pn++pins,p.1≠b):
  Inv X pins σ H' {s with heap:=h',gens:=g',drawn:=d',toks:=t'}:=by
 obtain⟨m,⟨o,es,ep,ho,r⟩,_⟩:=id I.loc;obtain⟨sl,hL⟩:=u.any ho I.free fun z=>(hch _ z).2.1 rfl
 exact I.step (ch:=ch) hch (fun b o hL hb hc e n=>u.keep b o e n (fun z=>(w0d.mp (I.stkSub b z)).elim hL hb) hc) (fun b o _ _ hc e n=>u.any e n hc) (fun b o hc e n=>u.free b o e n hc) (fun b o hc e=>u.there b o e hc) u.tups u.frzs u.tbls (fun m' hm=>by
  obtain⟨o',es',ep',ho',r'⟩:=hm;rw[ho]at ho';cases ho';exact⟨_,es',ep',hL,r'⟩) hok hg
theorem Inv.turned{t':Nat}{it:Addr}(I:Inv X pins σ H s)(k:∀b o,b≠it->s.heap.get? b=some o->h'.get? b=some o)(hn:H it=none)(hL:it≠X.env.locals)
  (h1:it∈X.ex\/X.s₀.heap.objs.size<=it)(h2:∀x c,X.env.cells.lookup x=some c->c≠it)(h3:∀p∈X.pn++pins,p.1≠it):Inv X pins σ H {s with heap:=h',toks:=t'}:=by
 have nit:∀b u,H b=some u->b≠it:=fun b u e z=>by rw[z,hn]at e;cases e
 refine I.step (g':=s.gens) (d':=s.drawn) (ch:=[it]) (fun b hb=>?_) (fun b o _ _ hc e _=>k b o (fun z=>hc (by simp[z])) e) (fun b o _ _ hc e _=>⟨o.slots,k b o (fun z=>hc (by simp[z])) e⟩) (fun _ _ _ _ n=>n)
  (fun b o hc e=>⟨o,k b o (fun z=>hc (by simp[z])) e⟩) (fun _ _ e=>e) (fun _ _ _ e=>e) (fun b ps e=>⟨#[],by rw[e];simp⟩) (fun m hm=>?_) (fun b u e=>?_) I.bare
 ·grind
 ·obtain⟨o,es,ep,ho,r⟩:=hm;exact⟨o,es,ep,k _ o (Ne.symm hL) ho,r⟩
 ·refine(I.hok b u e).stay (fun c v hc q=>k c v ?_ q) (fun _ q=>q) fun _ _ _ q=>q
  grind
theorem Inv.tok(I:Inv X pins σ H s)(t:Nat):Inv X pins σ H {s with toks:=t}:=I.un (h':=s.heap) (t':=t) Un.refl I.hok
theorem Inv.kept{t':Nat}(I:Inv X pins σ H s)(k:∀b u,s.heap.get? b=some u->h'.get? b=some u):Inv X pins σ H {s with heap:=h',toks:=t'}:=I.un (Un.kept k) (I.hok.kept k)
theorem Inv.laid{a:Addr}{o:HO}{t':Nat}(I:Inv X pins σ H s)(k:∀b u,s.heap.get? b=some u->h'.get? b=some u)(hp:s.heap.objs.size<=a)(new:ObjOk X.prog X.w (upd H a o) h' a o):
  Inv X pins σ (upd H a o) {s with heap:=h',toks:=t'}:=I.un (Un.laid k hp (I.hok.fresh hp)) (I.hok.laid k hp new)
theorem Inv.write{x e:Addr}{o:HO}(I:Inv X pins σ H s)(mu:Mut (H x))(he:e=x\/H e=some (.own x))(k:∀b u,b≠e->s.heap.get? b=some u->h'.get? b=some u)(heo:∃u,h'.get? e=some u)
  (new:ObjOk X.prog X.w (upd H x o) h' x o):Inv X pins σ (upd H x o) {s with heap:=h',toks:=t'}:=I.un (Un.write mu he k heo) (I.hok.write mu he k heo new)
theorem Inv.weak{σ':List (Option V)}(I:Inv X pins σ H s)(hl:σ'.length=σ.length)(w:∀(i:Nat) v,σ'[i]?=some (some v)->σ[i]?=some (some v)):Inv X pins σ' H s:=
 ⟨I.ok,I.os,I.bare,I.base,let ⟨m,hn,hl'⟩:=I.loc;⟨m,hn,fun i x v e1 e2 e3=>hl' i x v e1 (w i v e2) e3⟩,I.cell,I.free,I.freeC,I.pin,I.hok,hl.trans I.len⟩
theorem Inv.pins_of{pins':List (Addr×Obj)}(I:Inv X pins σ H s)(h:∀p∈pins',s.heap.get? p.1=some p.2/\H p.1=none/\p.1≠X.env.locals/\p.1∉X.fs/\∀v,p.2.data≠.cell v):Inv X pins' σ H s:=
 ⟨I.ok,I.os,I.bare,I.base,I.loc,I.cell,I.free,I.freeC,fun p hp=>(w0z.mp hp).elim (fun z=>I.pin p (w0x _ z)) (h p),I.hok,I.len⟩
theorem x34(hN:N.Nodup){j:Nat}(a:N[i]?=some x)(b:N[j]?=some x):i=j:=by
 obtain⟨h1,e1⟩:=w0n.mp a;obtain⟨h2,e2⟩:=w0n.mp b;exact(List.getElem_inj hN).mp (e1.trans e2.symm)
theorem x8r{M:Model}{Q:Unit->Shared->Prop}(I:Inv X pins σ H s)(hN:X.N.Nodup)(hi:X.N[i]?=some x)(hx:Loc X.env.scope x)(r:RelV v u)
  (h:∀s',Inv X pins (σ.set i (some v)) H s'->(∃a,Heap.SameBut a s.heap s'.heap/\(a=X.env.locals\/X.env.cells.lookup x=some a))->Q () s')(hf:X.fn x=true\/X.env.scope.names.lookup x=some .local:=by walk_at "2"):wpAny M A (storeName X.env x u) Q E s:=by
 obtain⟨m,hn,hl⟩:=id I.loc;have hcls:(X.env.scope.kind==.class||(X.env.scope.kind==.module&&X.env.locals != X.env.globals))=false:=by rw[I.ok.kind];rfl
 have hiσ:i<σ.length:=by grind [Inv.len]
 have cne:=I.cne
 have tracked:∀{a:Addr}{h':Heap},(∃o,s.heap.get? a=some o/\H a=none)->Heap.SameBut a s.heap h'->HOk X.prog X.w H h':=fun {a h'} ha hs b ob e=>by
  obtain⟨_,_,hfree⟩:=ha;refine(I.hok b ob e).stay (fun c w' hc q=>(hs.2 c ?_).trans q) (fun _ q=>q) fun _ _ _ q=>q
  grind
 rcases hx with hk|hk
 ·refine wpAny_storeName_local hk hn (fun h' hn' hs=>?_) hcls
  obtain⟨oL,_,_,hoL,_⟩:=id hn;refine h _ ⟨I.ok,I.os,I.bare,⟨fun b o e n hb hx=>?_,fun b o e n hb hx=>?_,I.base.free,fun b o e hx=>?_,I.base.tups,I.base.frzs,I.base.tbls⟩,⟨_,hn',fun j y v' e1 e2 e3=>?_⟩,fun y c e=>?_,I.free,I.freeC,fun p hp=>?_,tracked ⟨oL,hoL,I.free⟩ hs,by simpa using I.len⟩ ⟨_,hs,.inl rfl⟩
  ·exact(hs.2 b (w0u (w0w (Heap.lt_size e) I.ok.above))).trans (I.base.keep b o e n hb hx)
  ·obtain⟨sl,e1⟩:=I.base.slot b o e n hb hx;exact⟨sl,(hs.2 b (w0u (w0w (Heap.lt_size e) I.ok.above))).trans e1⟩
  ·obtain⟨o',e1⟩:=I.base.there b o e hx;exact⟨o',(hs.2 b (w0u (w0w (Heap.lt_size e) I.ok.above))).trans e1⟩
  ·by_cases hj:j=i
   ·subst hj;rw[hi]at e1;cases e1;rw[w0m hiσ]at e2;cases e2;exact⟨u,r,.inl ⟨hk,by simp⟩⟩
   ·rw[w0h (Ne.symm hj)]at e2;obtain⟨u',r',q⟩:=hl j y v' e1 e2 e3;refine⟨u',r',?_⟩;rcases q with⟨k,e⟩|⟨k,c,e,z⟩
    ·refine .inl ⟨k,?_⟩
     grind [x34]
    ·exact .inr ⟨k,c,e,z.sameBut hs (cne y c e)⟩
  ·obtain⟨w',z⟩:=I.cell y c e;exact⟨w',z.sameBut hs (cne y c e)⟩
  ·obtain⟨e,n,ne,nf,d⟩:=I.pin p hp;exact⟨(hs.2 p.1 ne).trans e,n,ne,nf,d⟩
 ·have hfn:X.fn x=true:=by
   grind
  obtain⟨c,hc⟩:=I.ok.has x (.inl hk);obtain⟨w',z⟩:=I.cell x c hc;refine wpAny_storeName_cell I.ok.kind hk hc z (fun h' hc' hs=>?_)
  obtain⟨oc,hoc,hocd⟩:=id z;refine h {s with heap:=h'} ⟨I.ok,I.os,I.bare,⟨fun b o e n hb hx=>?_,fun b o e n hb hx=>?_,I.base.free,fun b o e hx=>?_,I.base.tups,I.base.frzs,I.base.tbls⟩,⟨m,hn.sameBut hs (Ne.symm (cne x c hc)),fun j y v' e1 e2 e3=>?_⟩,fun y c' e=>?_,I.free,I.freeC,fun p hp=>?_,tracked ⟨oc,hoc,I.freeC x c hc⟩ hs,by simpa using I.len⟩ ⟨c,hs,.inr hc⟩
  ·exact(hs.2 b (w0u (w0w (Heap.lt_size e) (I.ok.cab x c hfn hc)))).trans (I.base.keep b o e n hb hx)
  ·obtain⟨sl,e1⟩:=I.base.slot b o e n hb hx;exact⟨sl,(hs.2 b (w0u (w0w (Heap.lt_size e) (I.ok.cab x c hfn hc)))).trans e1⟩
  ·obtain⟨o',e1⟩:=I.base.there b o e hx;exact⟨o',(hs.2 b (w0u (w0w (Heap.lt_size e) (I.ok.cab x c hfn hc)))).trans e1⟩
  ·by_cases hj:j=i
   ·subst hj;rw[hi]at e1;cases e1;rw[w0m hiσ]at e2;cases e2;exact⟨u,r,.inr ⟨.inl hk,c,hc,hc'⟩⟩
   ·rw[w0h (Ne.symm hj)]at e2;obtain⟨u',r',q⟩:=hl j y v' e1 e2 e3;refine⟨u',r',?_⟩;rcases q with q|⟨k,c',e,z'⟩
    ·exact .inl q
    ·refine .inr ⟨k,c',e,z'.sameBut hs ?_⟩;rintro rfl;exact hj (x34 hN e1 (I.ok.inj _ _ _ e hc ▸ hi))
  ·by_cases hcc:c'=c
   ·grind
   ·obtain⟨w2,z2⟩:=I.cell y c' e;exact⟨w2,z2.sameBut hs hcc⟩
  ·obtain⟨e,n,ne,nf,d⟩:=I.pin p hp;refine⟨(hs.2 p.1 ?_).trans e,n,ne,nf,d⟩
   grind
theorem q94{M:Model}{Q:Unit->Shared->Prop}(I:Inv X pins σ H s)(hN:X.N.Nodup)(hi:X.N[i]?=some x)(hx:Loc X.env.scope x)(r:RelV v u)
  (h:∀s',Inv X pins (σ.set i (some v)) H s'->Q () s')(hf:X.fn x=true\/X.env.scope.names.lookup x=some .local:=by walk_at "2"):wpAny M A (storeName X.env x u) Q E s:=
 x8r I hN hi hx r (fun s' I' _=>h s' I') hf
theorem Inv.call'{s':Shared}{ch:List Addr}(I:Inv X pins σ H s)(ho:s'.os=s.os)(u:Un (frs X.stack) ch H H' s.heap s'.heap)(hok:HOk X.prog X.w H' s'.heap)(hg:AllBare s'.gens)
  (hch:∀b∈ch,(b∈X.ex\/X.s₀.heap.objs.size<=b)/\b≠X.env.locals/\(∀x c,X.env.cells.lookup x=some c->c≠b)/\∀p∈X.pn++pins,p.1≠b):Inv X pins σ H' s':=by
 obtain⟨h',g',d',t',o'⟩:=s';have e:o'=s.os:=ho;subst e;exact I.call (g':=g') (t':=t') (d':=d') u hok hg hch
end
abbrev XK:=Value->Option Addr->Hp->Prop
noncomputable abbrev St:=List (Option V)
variable{σ:St}
abbrev VK:=V->Hp->Prop
abbrev TE:=St->Hp->VK->Prop
variable{ta te:TE}
abbrev TT:=St->Hp->(Bool->Hp->Prop)->Prop
abbrev TA:=St->Hp->(List V->Hp->Prop)->Prop
variable{t:TA}
structure Ends where
 nx:St->Hp->Prop
 rt:VK
 bk:St->Hp->Prop:=fun _ _=>False
 ct:St->Hp->Prop:=fun _ _=>False
abbrev TS:=Ends->St->Hp->Prop
variable{tb:TS}
def EP(X:Cx)(pins:List (Addr×Obj))(σ:St)(Q:VK)(u:Value)(s':Shared):Prop:=∃v H',Inv X pins σ H' s'/\RelV v u/\Q v H'
def TP(X:Cx)(pins:List (Addr×Obj))(σ:St)(Q:Bool->Hp->Prop)(b:Bool)(s':Shared):Prop:=∃H',Inv X pins σ H' s'/\Q b H'
def AP(X:Cx)(pins:List (Addr×Obj))(σ:St)(Q:List V->Hp->Prop)(us:List Value)(s':Shared):Prop:=∃vs H',Inv X pins σ H' s'/\Vals vs us/\Q vs H'
def SP(X:Cx)(pins:List (Addr×Obj))(D:Ends)(f:Flow)(s':Shared):Prop:=
 match f with
 |.next=>∃σ' H',Inv X pins σ' H' s'/\D.nx σ' H'
 |.brk=>∃σ' H',Inv X pins σ' H' s'/\D.bk σ' H'
 |.cont=>∃σ' H',Inv X pins σ' H' s'/\D.ct σ' H'
 |.ret u=>∃v σ' H',Inv X pins σ' H' s'/\RelV v u/\D.rt v H'
def PE(X:Cx)(e:Expr)(t:TE):Prop:=
 ∀(pins:List (Addr×Obj))(s:Shared)(σ:St)(H:Hp)(Q:VK),Inv X pins σ H s->t σ H Q->wpAny (model X.prog X.w) X.A (eval e X.env) (EP X pins σ Q) X.xe s
def PT(X:Cx)(e:Expr)(t:TT):Prop:=
 ∀(pins:List (Addr×Obj))(s:Shared)(σ:St)(H:Hp)(Q:Bool->Hp->Prop),Inv X pins σ H s->t σ H Q->wpAny (model X.prog X.w) X.A (isTrue e X.env (eval e X.env)) (TP X pins σ Q) X.xe s
def PW(X:Cx)(e:Expr)(t:TT):Prop:=
 ∀(whole:Sem Value)(pins:List (Addr×Obj))(s:Shared)(σ:St)(H:Hp)(Q:Bool->Hp->Prop),Inv X pins σ H s->t σ H Q->wpAny (model X.prog X.w) X.A (isTrue e X.env whole) (TP X pins σ Q) X.xe s
theorem PW.pt{t:TT}(h:PW X e t):PT X e t:=h _
def PA(X:Cx)(es:List Expr)(t:TA):Prop:=
 ∀(pos:Pos)(pins:List (Addr×Obj))(s:Shared)(σ:St)(H:Hp)(Q:List V->Hp->Prop),Inv X pins σ H s->t σ H Q->wpAny (model X.prog X.w) X.A (spliced (backTo pos (starEach es X.env))) (AP X pins σ Q) X.xe s
def PS(X:Cx)(st:Stmt)(t:TS):Prop:=
 ∀(pins:List (Addr×Obj))(s:Shared)(σ:St)(H:Hp)(D:Ends),Inv X pins σ H s->t D σ H->wpAny (model X.prog X.w) X.A (exec st X.env) (SP X pins D) X.xe s
def PSs(X:Cx)(st:List Stmt)(t:TS):Prop:=
 ∀(pins:List (Addr×Obj))(s:Shared)(σ:St)(H:Hp)(D:Ends),Inv X pins σ H s->t D σ H->wpAny (model X.prog X.w) X.A (execs st X.env) (SP X pins D) X.xe s
theorem thn{α:Type}{t:Sem α}{Q Q':α->Shared->Prop}{M:Model}(h:wpAny M A t Q E s)(hQ:∀a s,Q a s->Q' a s):wpAny M A t Q' E s:=wpAny_mono h hQ fun _ _ x=>x
section
def tVar(i:Nat):TE:=fun σ H Q=>∃v,σ[i]?=some (some v)/\Q v H
def tC(v:V):TE:=fun _ H Q=>Q v H
theorem y9u(hN:X.N[i]?=some x)(hv:Vis X.env.scope x)(hd:(x==("__debug__":Str))=false:=by decide)(hcd:(x==("__classdict__":Str))=false:=by decide):PE X (.Name x pos) (tVar i):=by
 intro pins s σ H Q I h;obtain⟨v,e,h⟩:=h;obtain⟨m,hn,hl⟩:=I.loc;obtain⟨u,r,l⟩:=hl i x v hN e hv;have fin:EP X pins σ Q u s:=⟨v,H,I,r,h⟩;rcases l with⟨hk,hm⟩|⟨hk,c,hc,hcell⟩
 ·exact wpAny_Name (wpAny_loadName_local I.ok.kind hk hn hm fin) hd
 ·rcases hk with hk|hk
  ·exact wpAny_Name (wpAny_loadName_cell I.ok.kind hk hc hcell fin) hd
  ·exact wpAny_Name (wpAny_loadName_free I.ok.kind hk hc hcell fin hcd) hd
theorem y9v{i j pos}:PE X (.Constant (.int i) j pos) (tC (.int i)):=fun _ _ _ H _ I h=>wpAny_Constant_int ⟨.int i,H,I.tok _,⟨_,rfl⟩,h⟩
theorem z39{b j pos}:PE X (.Constant (.bool b) j pos) (tC (.bl b)):=fun _ _ _ H _ I h=>Constant_bool ⟨.bl b,H,I,rfl,h⟩
theorem y9w{j pos}:PE X (.Constant .none j pos) (tC .non):=fun _ _ _ H _ I h=>Constant_none ⟨.non,H,I,rfl,h⟩
theorem x8s{x j pos}:PE X (.Constant (.str x) j pos) (tC (.str x)):=fun _ _ _ H _ I h=>Calls.Constant_str ⟨.str x,H,I.tok _,⟨_,rfl⟩,h⟩
def Gl(X:Cx)(x:Str):Prop:=X.env.kindOf x=some .globalImplicit
theorem x6g{Q:Value->Shared->Prop}(I:Inv X pins σ H s)(hg:Gl X x)(hm:X.mg x=some u)(h:Q u s)
  (hd:(x==("__debug__":Str))=false:=by decide):wpAny (model X.prog X.w) X.A (eval (.Name x pos) X.env) Q E s:=
 Calls.Name_function_global I.ok.kind hg (Calls.loadGlobal_global (by rw[I.ok.glob];exact I.mod.glob.keeps I.bk) hm h) hd
theorem q41{Q:Value->Shared->Prop}(I:Inv X pins σ H s)(hg:Gl X x)(hm:X.mg x=none)(hv:bootBuiltins x=some u)(h:Q u s)
  (hn:x≠"__name__":=by decide)(hd:(x==("__debug__":Str))=false:=by decide):wpAny (model X.prog X.w) X.A (eval (.Name x pos) X.env) Q E s:=by
 obtain⟨mb,h1,h2⟩:=I.mod.blt;exact Calls.Name_function_global I.ok.kind hg (Calls.loadGlobal_builtin (by rw[I.ok.glob];exact I.mod.glob.keeps I.bk) hm (by rw[I.ok.blt];exact h1.keeps I.bk) ((h2 x hn).trans hv) h) hd
theorem x1r{v:V}(hg:Gl X x)(hm:X.mg x=some u)(r:RelV v u)(hd:(x==("__debug__":Str))=false:=by decide):PE X (.Name x pos) (tC v):=
 fun _ _ _ H _ I h=>x6g I hg hm ⟨v,H,I,r,h⟩ hd
theorem y5u{v:V}(hg:Gl X x)(hm:X.mg x=none)(hv:bootBuiltins x=some u)(r:RelV v u)(hn:x≠"__name__":=by decide)(hd:(x==("__debug__":Str))=false:=by decide):PE X (.Name x pos) (tC v):=
 fun _ _ _ H _ I h=>q41 I hg hm hv ⟨v,H,I,r,h⟩ hn hd
variable{a b:Expr}{tb:TE}
def PC(X:Cx)(op:CmpOp)(a b:Expr)(t:TE):Prop:=
 ∀(pins:List (Addr×Obj))(s:Shared)(σ:St)(H:Hp)(Q:VK),Inv X pins σ H s->t σ H Q ->
  wpAny (model X.prog X.w) X.A (eval a X.env) (fun v s₁=>wpAny (model X.prog X.w) X.A (eval b X.env) (fun u s₂=>wpAny (model X.prog X.w) X.A (compareOp op v u) (EP X pins σ Q) X.xe s₂) X.xe s₁) X.xe s
theorem nobehind(b:Expr)(h:op≠.In)(h2:op≠.NotIn):behindInMarks op b=false:=by
 have e1:(op==CmpOp.In)=false:=by grind
 have e2:(op==CmpOp.NotIn)=false:=by grind
 cases b<;>simp[behindInMarks,e1,e2]
def tB(t:TE):TT:=fun σ H Q=>t σ H fun x H1=>∃c,x=.bl c/\Q c H1
theorem y9x{t:TE}(h:PC X op a b t)(h1:behindInMarks op b=false:=by first|exact nobehind _ (by decide) (by decide)|rfl):PE X (.Compare a [op] [b] pos) t:=fun pins s σ H Q I hw=>wpAny_Compare1 (h pins s σ H Q I hw) h1
theorem y9y{t:TE}(h:PC X op a b t)(h1:behindInMarks op b=false:=by first|exact nobehind _ (by decide) (by decide)|rfl):PT X (.Compare a [op] [b] pos) (tB t):=by
 intro pins s σ H Q I hw;refine wpAny_isTrue_Compare1 (thn (h pins s σ H _ I hw) fun v s1 h1=>thn h1 fun u s2 h2=>thn h2 fun c s3 ⟨x,H1,I1,r1,q1⟩=>?_) h1
 obtain⟨d,rfl,q⟩:=q1;cases r1;exact wpAny_truthy_bool ⟨H1,I1,q⟩
variable{tA tB':TT}{rest:List Expr}
def tAnd(t u:TT):TT:=fun σ H Q=>t σ H fun c H1=>if c=true then u σ H1 Q else Q false H1
def tOr(t u:TT):TT:=fun σ H Q=>t σ H fun c H1=>if c=true then Q true H1 else u σ H1 Q
def tNot(t:TT):TT:=fun σ H Q=>t σ H fun c H1=>Q (!c) H1
theorem y5v(ha:PT X a tA):PW X (.BoolOp .And [a] pos) tA:=by
 intro wh pins s σ H Q I h;refine isTrue_and (thn (ha pins s σ H Q I h) fun c s1 e=>?_)
 grind [isTrue_and_nil]
theorem y9z(ha:PT X a tA):PW X (.BoolOp .Or [a] pos) tA:=by
 intro wh pins s σ H Q I h;refine isTrue_or (thn (ha pins s σ H Q I h) fun c s1 e=>?_)
 grind [isTrue_or_nil]
theorem y90(ha:PT X a tA)(hb:PW X (.BoolOp .And (b::rest) pos) tB'):PW X (.BoolOp .And (a::b::rest) pos) (tAnd tA tB'):=by
 intro wh pins s σ H Q I h;refine isTrue_and (thn (ha pins s σ H _ I h) fun c s1 ⟨H1,I1,q1⟩=>?_)
 cases c with
 |true=>exact hb wh pins s1 σ H1 Q I1 q1
 |false=>exact⟨H1,I1,q1⟩
theorem z4a(ha:PT X a tA)(hb:PW X (.BoolOp .Or (b::rest) pos) tB'):PW X (.BoolOp .Or (a::b::rest) pos) (tOr tA tB'):=by
 intro wh pins s σ H Q I h;refine isTrue_or (thn (ha pins s σ H _ I h) fun c s1 ⟨H1,I1,q1⟩=>?_)
 cases c with
 |true=>exact⟨H1,I1,q1⟩
 |false=>exact hb wh pins s1 σ H1 Q I1 q1
theorem y91(ha:PT X a tA):PT X (.UnaryOp .Not a pos) (tNot tA):=by
 intro pins s σ H Q I h;exact isTrue_not (ha pins s σ H (fun c H1=>Q (!c) H1) I h)
def tAndV(ta tb:TE):TE:=fun σ H Q=>ta σ H fun x H1=>∃c,x=.bl c/\if c=true then tb σ H1 Q else Q (.bl false) H1
def tOrV(ta tb:TE):TE:=fun σ H Q=>ta σ H fun x H1=>∃c,x=.bl c/\if c=true then Q (.bl true) H1 else tb σ H1 Q
theorem y92{op}{t:TE}(h:PE X a t):PE X (.BoolOp op [a] pos) t:=fun pins s σ H Q I hw=>BoolOp_one (h pins s σ H Q I hw)
theorem y93(ha:PE X a ta)(hb:PE X (.BoolOp .And (b::rest) pos) tb):PE X (.BoolOp .And (a::b::rest) pos) (tAndV ta tb):=by
 intro pins s σ H Q I h;refine BoolOp_and (thn (ha pins s σ H _ I h) fun v s1 ⟨x,H1,I1,r1,q1⟩=>?_)
 obtain⟨c,rfl,q1⟩:=q1;cases r1;refine wpAny_truthy_bool ?_;cases c with
 |true=>exact hb pins s1 σ H1 Q I1 q1
 |false=>exact⟨.bl false,H1,I1,rfl,q1⟩
theorem z4b(ha:PE X a ta)(hb:PE X (.BoolOp .Or (b::rest) pos) tb):PE X (.BoolOp .Or (a::b::rest) pos) (tOrV ta tb):=by
 intro pins s σ H Q I h;refine BoolOp_or (thn (ha pins s σ H _ I h) fun v s1 ⟨x,H1,I1,r1,q1⟩=>?_)
 obtain⟨c,rfl,q1⟩:=q1;cases r1;refine wpAny_truthy_bool ?_;cases c with
 |false=>exact hb pins s1 σ H1 Q I1 q1
 |true=>exact⟨.bl true,H1,I1,rfl,q1⟩
def tIf(t:TT)(ta tb:TE):TE:=fun σ H Q=>t σ H fun c H1=>if c=true then ta σ H1 Q else tb σ H1 Q
theorem y2b(hc:PT X c tA)(ha:PE X a ta)(hb:PE X b tb):PE X (.IfExp c a b pos) (tIf tA ta tb):=by
 intro pins s σ H Q I h;refine wpAny_IfExp (thn (hc pins s σ H _ I h) fun d s1 ⟨H1,I1,q1⟩=>?_)
 cases d with
 |true=>exact ha pins s1 σ H1 Q I1 q1
 |false=>exact hb pins s1 σ H1 Q I1 q1
end
def SqL(K:PySem.W.Frag)(H:Hp)(a:Addr)(xs:List V):Prop:=
 Rd H a (.lst xs) \/
  ∃(o:Obj)(its:Array Value)(n:Nat),K.lookup a=some o/\o.cls=.type "list" /\ o.dict=none/\o.data=.seq its n/\its.size<=sizeLine/\Vals xs its.toList
def SqT(K:PySem.W.Frag)(H:Hp)(a:Addr)(xs:List V):Prop:=
 Rd H a (.tup xs) \/
  ∃(o:Obj)(its:Array Value)(n:Nat),K.lookup a=some o/\o.cls=.type "tuple" /\ o.dict=none/\o.data=.seq its n/\its.size<=sizeLine/\Vals xs its.toList
def absV:Value->Option V
 |.none=>some .non
 |.bool b=>some (.bl b)
 |.int i _=>some (.int i)
 |.str x _=>some (.str x)
 |.bytes b _=>some (.byt b)
 |.float b _=>some (.flt b)
 |.ref a=>some (.ref a)
 |.type n=>some (.ty n)
 |_=>none
theorem RelV.abs{x:V}(r:RelV x u):absV u=some x:=by
 cases x with
 |non=>cases r;rfl
 |bl _=>cases r;rfl
 |int _=>obtain⟨t,rfl⟩:=r;rfl
 |str _=>obtain⟨t,rfl⟩:=r;rfl
 |byt _=>obtain⟨t,rfl⟩:=r;rfl
 |flt _=>obtain⟨t,rfl⟩:=r;rfl
 |ref _=>cases r;rfl
 |ty _=>cases r;rfl
theorem RelV.inj{x y:V}(r:RelV x u)(q:RelV y u):x=y:=Option.some.inj (r.abs.symm.trans q.abs)
theorem Vals.inj:∀{xs ys:List V}{us:List Value},Vals xs us->Vals ys us->xs=ys
 |_,_,_,.nil,.nil=>rfl
 |_,_,_,.cons r t,.cons r' t'=>by rw[r.inj r',Vals.inj t t']
section
variable{ys:List V}
theorem SqL.of(h:H a=some (.lst xs)):SqL K H a xs:=.inl (.inl h)
theorem SqT.of(h:H a=some (.tup xs)):SqT K H a xs:=.inl (.inl h)
theorem Inv.list(I:Inv X pins σ H s)(h:SqL X.K H a xs):∃its:List Value,Vals xs its/\PlainL s.heap a its.toArray/\xs.length<=sizeLine:=by
 rcases h with h|⟨o,its,n,hk,hc,hd,hs,hz,r⟩
 ·obtain⟨z,its,n,r,e⟩:=h.ok I.hok;exact⟨its,r,⟨_,n,e,rfl,rfl,rfl⟩,z⟩
 ·refine⟨its.toList,r,⟨o,n,I.kIn a o hk,hc,hd,by simpa using hs⟩,?_⟩
  grind [Vals.length,Array.length_toList]
theorem Inv.tuple(I:Inv X pins σ H s)(h:SqT X.K H a xs):∃its:List Value,Vals xs its/\IsTup s.heap a its.toArray/\xs.length<=sizeLine:=by
 rcases h with h|⟨o,its,n,hk,hc,_,hs,hz,r⟩
 ·obtain⟨z,its,r,p,_⟩:=h.ok I.hok;exact⟨its,r,p,z⟩
 ·refine⟨its.toList,r,⟨o,I.kIn a o hk,hc,n,by simpa using hs⟩,?_⟩
  grind [Vals.length,Array.length_toList]
theorem Inv.list_inj(I:Inv X pins σ H s)(h:SqL X.K H a xs)(h':SqL X.K H a ys):xs=ys:=by
 obtain⟨its,r,⟨o,n,e,_,_,d⟩,_⟩:=I.list h;obtain⟨its',r',⟨o',n',e',_,_,d'⟩,_⟩:=I.list h';rw[e]at e';cases e';rw[d]at d';injection d' with d1 _
 have:its=its':=by grind
 subst this;exact r.inj r'
theorem Inv.tuple_inj(I:Inv X pins σ H s)(h:SqT X.K H a xs)(h':SqT X.K H a ys):xs=ys:=by
 obtain⟨its,r,⟨o,e,_,n,d⟩,_⟩:=I.tuple h;obtain⟨its',r',⟨o',e',_,n',d'⟩,_⟩:=I.tuple h';rw[e]at e';cases e';rw[d]at d';injection d' with d1 _
 have:its=its':=by grind
 subst this;exact r.inj r'
end
section
variable{st:Stmt}{rest:List Stmt}{t u:TS}
def tNext:TS:=fun D σ H=>D.nx σ H
def tSeq(t u:TS):TS:=fun D σ H=>t {D with nx:=u D} σ H
theorem y5w:PSs X [] tNext:=fun _ _ σ H _ I h=>wpAny_execs_nil ⟨σ,H,I,h⟩
theorem y2c(h1:PS X st t)(h2:PSs X rest u):PSs X (st::rest) (tSeq t u):=by
 intro pins s σ H D I h;refine wpAny_execs_cons (thn (h1 pins s σ H {D with nx:=u D} I h) fun f s1 q=>?_)
 cases f with
 |next=>
  obtain⟨σ',H',I',q⟩:=q;exact h2 pins s1 σ' H' D I' q
 |ret v=>exact q
 |brk=>exact q
 |cont=>exact q
theorem y5x(h1:PS X st t):PSs X [st] t:=by
 intro pins s σ H D I h;refine wpAny_execs_cons (thn (h1 pins s σ H D I h) fun f s1 q=>?_)
 grind [wpAny_execs_nil]
theorem Inv.quiet(I:Inv X pins σ H s):interactive X.env=false:=by simp[interactive,I.ok.kind]
def tDrop(te:TE):TS:=fun D σ H=>te σ H fun _ H1=>D.nx σ H1
theorem q7f(he:PE X e te)(hs:swapsWith e none pos.line X.env=pure false:=by rfl):PS X (.Expr e pos) (tDrop te):=by
 intro pins s σ H D I h;exact wpAny_Expr_any (thn (he pins s σ H _ I h) fun v s1 ⟨x,H1,I1,r1,q1⟩=>⟨σ,H1,I1,q1⟩) I.quiet hs
def tRet(te:TE):TS:=fun D σ H=>te σ H D.rt
theorem q8h(he:PE X e te):PS X (.Return (some e) pos) (tRet te):=by
 intro pins s σ H D I h;exact wpAny_Return_some (thn (he pins s σ H _ I h) fun v s1 ⟨x,H1,I1,r1,q1⟩=>⟨x,σ,H1,I1,r1,q1⟩)
def tIfS(c:TT)(t u:TS):TS:=fun D σ H=>c σ H fun b H1=>if b=true then t D σ H1 else u D σ H1
theorem z4c{a b:List Stmt}{tc:TT}(hc:PT X c tc)(ha:PSs X a t)(hb:PSs X b u):PS X (.If c a b pos) (tIfS tc t u):=by
 intro pins s σ H D I h;refine wpAny_If (thn (hc pins s σ H _ I h) fun d s1 ⟨H1,I1,q1⟩=>?_)
 cases d with
 |true=>exact ha pins s1 σ H1 D I1 q1
 |false=>exact hb pins s1 σ H1 D I1 q1
end
abbrev TG:=V->St->Hp->(St->Hp->Prop)->Prop
abbrev TGs:=List V->St->Hp->(St->Hp->Prop)->Prop
def PG(X:Cx)(target:Expr)(t:TG):Prop:=
 ∀(pins:List (Addr×Obj))(s:Shared)(σ:St)(H:Hp)(v:V)(u:Value)(Q:St->Hp->Prop),Inv X pins σ H s->RelV v u->t v σ H Q ->
  wpAny (model X.prog X.w) X.A (assign target X.env u) (fun _ s'=>∃σ' H',Inv X pins σ' H' s'/\Q σ' H') X.xe s
def PGs(X:Cx)(ts:List Expr)(t:TGs):Prop:=
 ∀(pins:List (Addr×Obj))(s:Shared)(σ:St)(H:Hp)(vs:List V)(us:List Value)(Q:St->Hp->Prop),Inv X pins σ H s->Vals vs us->t vs σ H Q ->
  wpAny (model X.prog X.w) X.A (assignInOrder ((assignEach ts X.env).map (·.2)) us) (fun _ s'=>∃σ' H',Inv X pins σ' H' s'/\Q σ' H') X.xe s
def gName(i:Nat):TG:=fun v σ H Q=>Q (σ.set i (some v)) H
theorem y5y(hN:X.N.Nodup)(hi:X.N[i]?=some x)(hx:Loc X.env.scope x)(hf:X.fn x=true\/X.env.scope.names.lookup x=some .local:=by walk_at "2"):PG X (.Name x pos) (gName i):=by
 intro pins s σ H v u Q I r h;exact wpAny_assign_Name (q94 I hN hi hx r (fun s' I'=>⟨_,H,I',h⟩) hf)
def gNil:TGs:=fun vs σ H Q=>vs=[]/\Q σ H
def gCons(t:TG)(u:TGs):TGs:=fun vs σ H Q=>∃v r,vs=v::r/\t v σ H fun σ' H'=>u r σ' H' Q
theorem y5z:PGs X [] gNil:=by
 intro pins s σ H vs us Q I r h;obtain⟨e,h⟩:=h;subst e;cases r;exact assignInOrder_nil ⟨σ,H,I,h⟩
theorem x35{t:TG}{u:TGs}(h1:PG X e t)(h2:PGs X es u)
  (hs:(assignEach (e::es) X.env).map (·.2)=assign e X.env::(assignEach es X.env).map (·.2):=by rfl):PGs X (e::es) (gCons t u):=by
 intro pins s σ H vs us Q I r h;obtain⟨v,vr,e1,h⟩:=h;subst e1;cases r with
 |cons r rr=>
  rw[hs];refine assignInOrder_cons (thn (h1 pins s σ H _ _ _ I r h) fun _ s1 ⟨σ1,H1,I1,q1⟩=>?_)
  exact h2 pins s1 σ1 H1 _ _ Q I1 rr q1
def gTup(K:PySem.W.Frag)(n:Nat)(t:TGs):TG:=fun v σ H Q=>∃a xs,v=.ref a/\SqT K H a xs/\xs.length=n/\t xs σ H Q
theorem y94{k:Nat}{t:TGs}{n:Nat}(hc:X.calm=true)(h:PGs X es t)
  (hn:(assignEach es X.env).length=n:=by rfl)(hst:(assignEach es X.env).findIdx? (·.1)=none:=by rfl):PG X (.Tuple es k pos) (gTup X.K n t):=by
 intro pins s σ H v u Q I r hw;obtain⟨a,xs,e1,hq,hl,hw⟩:=hw;subst e1;cases r;obtain⟨its,rv,ht,hz⟩:=I.tuple hq;refine assign_Tuple_tuple (I.ok.hd hc) ht (by grind [Vals.length]) hst fun h' hx=>?_
 have I1:Inv X pins σ H {s with heap:=h'}:=I.kept (t':=s.toks) fun b o e=>hx b o (w0u (Heap.lt_size e)) e
 exact h pins _ σ H xs _ Q I1 (by simpa using rv) hw
def tAsg(te:TE)(g:TG):TS:=fun D σ H=>te σ H fun x H1=>g x σ H1 D.nx
theorem y95{pos':Pos}(hN:X.N.Nodup)(hi:X.N[i]?=some x)(hx:Loc X.env.scope x)(he:PE X e te)(hs:swapsWith e (some (.Name x pos')) pos.line X.env=pure false:=by rfl)(hf:X.fn x=true\/X.env.scope.names.lookup x=some .local:=by walk_at "2"):
  PS X (.Assign [.Name x pos'] e pos) (tAsg te (gName i)):=by
 intro pins s σ H D I h;refine wpAny_Assign_Name (thn (he pins s σ H _ I h) fun v s1 ⟨y,H1,I1,r1,q1⟩=>?_) hs
 exact q94 I1 hN hi hx r1 (fun s2 I2=>⟨_,H1,I2,q1⟩) hf
def tWhile(c:TT)(tb:TS):TS:=fun D σ H=>∃W:Nat->St->Hp->Prop,(∃m,W m σ H)/\∀m σ H,W m σ H ->
 c σ H fun b H1=>if b=true then ∃N:St->Hp->Prop,(∀σ' H',N σ' H'->∃m',m'<m/\W m' σ' H')/\tb {D with nx:=N,ct:=N,bk:=D.nx} σ H1 else D.nx σ H1
theorem y2d{body:List Stmt}{tc:TT}(hp:PassesOwn (model X.prog X.w) X.A X.env X.xe)(hc:PT X c tc)(hb:PSs X body tb):PS X (.While c body [] pos) (tWhile tc tb):=by
 intro pins s σ H D I h;obtain⟨W,⟨m0,w0⟩,turn⟩:=h;refine wpAny_While (codeAny_whileLoop (fun n s'=>∃σ' H',Inv X pins σ' H' s'/\W n σ' H') ?_ m0 ⟨σ,H,I,w0⟩)
 rintro n s1 ⟨σ1,H1,I1,w1⟩;refine wpAny_passesOwn hp (thn (hc pins s1 σ1 H1 _ I1 (turn n σ1 H1 w1)) fun b s2 ⟨H2,I2,q2⟩=>?_)
 cases b with
 |true=>
  obtain⟨N,hN,q2⟩:=q2;rw[if_pos rfl];refine wpAny_passesOwn hp (thn (hb pins s2 σ1 H2 _ I2 q2) fun f s3 q3=>?_)
  cases f with
  |next=>
   obtain⟨σ3,H3,I3,n3⟩:=q3
   grind
  |cont=>
   obtain⟨σ3,H3,I3,n3⟩:=q3
   grind
  |brk=>exact q3
  |ret v=>exact q3
 |false=>
  rw[if_neg w1k];exact wpAny_execs_nil ⟨σ1,H2,I2,q2⟩
structure It where
 go:Nat->Hp->Prop
 yld:Nat->Hp->V->Hp->Prop
 stop:Nat->Hp->Prop
def FpOk(X:Cx)(pins:List (Addr×Obj))(H:Hp)(b:Addr):Prop:=
 H b=none/\b≠X.env.locals/\b∉X.fs/\(b∈X.ex\/X.s₀.heap.objs.size<=b)/\(∀x c,X.env.cells.lookup x=some c->c≠b)/\∀p∈X.pn++pins,p.1≠b
theorem Inv.fpOk{b:Addr}(I:Inv X pins σ H s)(hb:s.heap.objs.size<=b)(hn:H' b=none):FpOk X pins H' b:=by
 refine⟨hn,w2r (w0w I.lt hb),I.nofs hb,.inr (w0v I.sz hb),fun x c e z=>?_,fun p hp z=>?_⟩
 ·obtain⟨v,q⟩:=I.cell x c e;exact absurd (w0w q.lt (by rw[z];exact hb)) (w2j _)
 ·exact absurd (w0w (Heap.lt_size (I.pin p hp).1) (by rw[z];exact hb)) (w2j _)
structure Turn(P:Program)(w:World)(K:PySem.W.Frag)(tg:Expr)(J:It)(fp:List Addr)(it:Addr)(tn:Nat->Heap->Prop):Prop where
 mem:it∈fp
 obj:∀i h,tn i h->∀b∈fp,∃o,h.get? b=some o/\∀v,o.data≠.cell v
 keep:∀i h h',tn i h->(∀b∈fp,∀o,h.get? b=some o->h'.get? b=some o)->tn i h'
 item:∀(X:Cx),X.prog=P->X.w=w->X.K=K->X.calm=true->∀(i:Nat)(pins:List (Addr×Obj))(s:Shared)(σ:St)(H:Hp)(E:Value->Shared->Prop),Inv X pins σ H s->(∀b∈fp,FpOk X pins H b)->tn i s.heap->J.go i H ->
  wpAny (model P w) X.A (pyNext (.ref it)) (fun r s1=>∃u,r=some u /\
   wpAny (model P w) X.A (letOwnedTupleGo tg (.ref it) u) (fun _ s2=>∃x H',Inv X pins σ H' s2/\RelV x u/\J.yld i H x H'/\tn (i+1) s2.heap/\∀b∈fp,H' b=none) E s1) E s
 done:∀(X:Cx),X.prog=P->X.w=w->X.K=K->X.calm=true->∀(i:Nat)(pins:List (Addr×Obj))(s:Shared)(σ:St)(H:Hp)(E:Value->Shared->Prop),Inv X pins σ H s->(∀b∈fp,FpOk X pins H b)->tn i s.heap->J.stop i H ->
  wpAny (model P w) X.A (pyNext (.ref it)) (fun r s1=>r=none/\Inv X pins σ H s1) E s
 self:∀(A:Around)(i:Nat)(s:Shared)(Q:Value->Shared->Prop)(E:Value->Shared->Prop),tn i s.heap->Q (.ref it) s->wpAny (model P w) A (pyIter (.ref it)) Q E s
abbrev TI:=St->Hp->(It->Hp->Prop)->Prop
def PIE(X:Cx)(pins:List (Addr×Obj))(σ:St)(tg:Expr)(R:It->Hp->Prop)(itv:Value)(s2:Shared):Prop:=
 ∃(it:Addr)(fp:List Addr)(tn:Nat->Heap->Prop)(J:It)(H':Hp),itv=.ref it/\Inv X pins σ H' s2/\Turn X.prog X.w X.K tg J fp it tn/\tn 0 s2.heap/\(∀b∈fp,FpOk X pins H' b)/\R J H'
def PI(X:Cx)(tg iter:Expr)(wi:TI):Prop:=
 ∀(pins:List (Addr×Obj))(s:Shared)(σ:St)(H:Hp)(R:It->Hp->Prop),Inv X pins σ H s->wi σ H R ->
  wpAny (model X.prog X.w) X.A (eval iter X.env) (fun v s1=>wpAny (model X.prog X.w) X.A (pyIter v) (PIE X pins σ tg R) X.xe s1) X.xe s
theorem x3q{M : Model}{E : Value -> Shared -> Prop}{s : Shared}{it : Addr}{o : Obj}{n : String}{vs : Array Value}{Q : Unit -> Shared -> Prop}(ho : s.heap.get? it = some o)(hc : o.cls = .type n)(hd : o.data = .fields vs)
    (hn : ["enumerate", "zip", "dict_itemiterator", "dict_reverseitemiterator", "odict_iterator", "itertools.zip_longest", "itertools.pairwise"].contains n = false)(hQ : Q () s) : wpAny M A (letOwnedTupleGo tg (.ref it) u) Q E s := by
  unfold letOwnedTupleGo
  cases tg <;> first
    | exact wpAny_pure hQ
    | (cases u <;> first
        | exact wpAny_pure hQ
        | (refine wpAny_bind (wpAny_load ho ?_)
           rw [hc, hd];show wpAny M A (if (["enumerate", "zip", "dict_itemiterator", "dict_reverseitemiterator", "odict_iterator", "itertools.zip_longest", "itertools.pairwise"].contains n && vs[0]? == some (rawInt _)) = true then _ else _) Q E s;rw [if_neg (by intro h; rw [hn, Bool.false_and] at h; cases h)];exact wpAny_pure hQ))
def Itl(K:PySem.W.Frag)(a:Addr):It:=
 ⟨fun i H=>∃xs x,SqL K H a xs/\xs[i]?=some x,fun i H x H'=>H'=H/\∀xs,SqL K H a xs->xs[i]?=some x,fun i H=>∃xs,SqL K H a xs/\xs.length<=i⟩
def Itt(K:PySem.W.Frag)(a:Addr):It:=
 ⟨fun i H=>∃xs x,SqT K H a xs/\xs[i]?=some x,fun i H x H'=>H'=H/\∀xs,SqT K H a xs->xs[i]?=some x,fun i H=>∃xs,SqT K H a xs/\xs.length<=i⟩
def Itr(lo:Int)(n:Nat):It:=⟨fun i _=>i<n,fun i H x H'=>H'=H/\x=.int (lo+i),fun i _=>n<=i⟩
theorem x8t(a it:Addr):Turn P w K tg (Itl K a) [it] it (fun i h=>h.IsListIter it a i) where
 mem:=by simp
 obj:=fun i h st b hb=>by
  have e:b=it:=by simpa using hb
  subst e;obtain⟨o,e,c,d⟩:=st
  grind
 keep:=fun i h h' st k=>st.at fun o e=>k it (by simp) o e
 item:=by
  intro X hP hw hK hc i pins s σ H E I hf st hg;subst hP hw hK;obtain⟨xs,x,hq,hx⟩:=hg;obtain⟨its,rv,p,hz⟩:=I.list hq;obtain⟨u,hu,ru⟩:=rv.get hx;obtain⟨f0,f1,f2,f3,f4,f5⟩:=hf it (by simp);refine wpAny_pyNext_list_item st p.isList (x:=u) (by simpa using hu) fun h' st' sb=>?_
  have I1:Inv X pins σ H {s with heap:=h'}:=I.turned (t':=s.toks) (fun b o hb e=>(sb.2 b hb).trans e) f0 f1 f3 f4 f5
  obtain⟨o,e,c,d⟩:=id st';exact⟨u,rfl,x3q (s:={s with heap:=h'}) e c d (by decide) ⟨x,H,I1,ru,⟨rfl,fun ys hy=>by rw[I.list_inj hy hq];exact hx⟩,st',fun b hb=>(hf b hb).1⟩⟩
 done:=by
  intro X hP hw hK hc i pins s σ H E I hf st hg;subst hP hw hK;obtain⟨xs,hq,hx⟩:=hg;obtain⟨its,rv,p,hz⟩:=I.list hq;obtain⟨f0,f1,f2,f3,f4,f5⟩:=hf it (by simp);have hl:=rv.length;exact wpAny_pyNext_list_end (I.ok.hd hc) st p.isList (by simp;omega) fun h' eb=>⟨rfl,I.turned (t':=s.toks) (fun b o hb e=>eb b o hb e) f0 f1 f3 f4 f5⟩
 self:=fun _ _ _ _ _ st h=>wpAny_pyIter_listiter st h
theorem x7m(a it:Addr):Turn P w K tg (Itt K a) [it] it (fun i h=>h.IsTupleIter it a i) where
 mem:=by simp
 obj:=fun i h st b hb=>by
  have e:b=it:=by simpa using hb
  subst e;obtain⟨o,e,c,d⟩:=st
  grind
 keep:=fun i h h' st k=>st.at fun o e=>k it (by simp) o e
 item:=by
  intro X hP hw hK hc i pins s σ H E I hf st hg;subst hP hw hK;obtain⟨xs,x,hq,hx⟩:=hg;obtain⟨its,rv,p,hz⟩:=I.tuple hq;obtain⟨u,hu,ru⟩:=rv.get hx;obtain⟨f0,f1,f2,f3,f4,f5⟩:=hf it (by simp);refine wpAny_pyNext_tuple_item st (show s.heap.IsTuple a its.toArray from p) (x:=u) (by simpa using hu) fun h' st' sb=>?_
  have I1:Inv X pins σ H {s with heap:=h'}:=I.turned (t':=s.toks) (fun b o hb e=>(sb.2 b hb).trans e) f0 f1 f3 f4 f5
  obtain⟨o,e,c,d⟩:=id st';exact⟨u,rfl,x3q (s:={s with heap:=h'}) e c d (by decide) ⟨x,H,I1,ru,⟨rfl,fun ys hy=>by rw[I.tuple_inj hy hq];exact hx⟩,st',fun b hb=>(hf b hb).1⟩⟩
 done:=by
  intro X hP hw hK hc i pins s σ H E I hf st hg;subst hP hw hK;obtain⟨xs,hq,hx⟩:=hg;obtain⟨its,rv,p,hz⟩:=I.tuple hq;obtain⟨f0,f1,f2,f3,f4,f5⟩:=hf it (by simp);have hl:=rv.length;exact wpAny_pyNext_tuple_end (I.ok.hd hc) st (show s.heap.IsTuple a its.toArray from p) (by simp;omega) fun h' eb=>⟨rfl,I.turned (t':=s.toks) (fun b o hb e=>eb b o hb e) f0 f1 f3 f4 f5⟩
 self:=fun _ _ _ _ _ st h=>wpAny_pyIter_tupleiter st h
theorem x7n(it:Addr)(lo:Int)(n:Nat):Turn P w K tg (Itr lo n) [it] it (fun i h=>IsRangeIter h it (lo+(i:Nat)*1) ((n:Int)-(i:Nat)) 1) where
 mem:=by simp
 obj:=fun i h st b hb=>by
  grind
 keep:=fun i h h' st k=>k it (by simp) _ st
 item:=by
  intro X hP hw hK hc i pins s σ H E I hf st hg;subst hP hw hK;obtain⟨f0,f1,f2,f3,f4,f5⟩:=hf it (by simp);have W:=Walks.range (prog:=X.prog) (w:=X.w) (I.ok.hd hc) it lo 1 n;refine W.item i s _ _ hg st fun v h' tk hv st' kk=>?_
  obtain⟨t,rfl⟩:=hv;have I1:Inv X pins σ H {s with heap:=h',toks:=tk}:=I.turned (fun b o hb e=>kk b o (by simpa using hb) e) f0 f1 f3 f4 f5
  refine⟨_,rfl,x3q (s:={s with heap:=h',toks:=tk}) (n:="range_iterator") st' rfl rfl (by decide) ⟨.int (lo+i),H,I1,⟨t,?_⟩,⟨rfl,rfl⟩,st',fun b hb=>(hf b hb).1⟩⟩
  rw[Int.mul_one]
 done:=by
  intro X hP hw hK hc i pins s σ H E I hf st hg;subst hP hw hK;obtain⟨f0,f1,f2,f3,f4,f5⟩:=hf it (by simp);exact wpAny_pyNext_range_end (I.ok.hd hc) st (by have:n<=i:=hg;omega) fun h' eb=>⟨rfl,I.turned (t':=s.toks) (fun b o hb e=>eb b o hb e) f0 f1 f3 f4 f5⟩
 self:=fun _ _ _ _ _ st h=>wpAny_pyIter_rangeiter st h
theorem x36{R:It->Hp->Prop}{lo hi:Int}{t u v:Tok}{tk:Nat}(I:Inv X pins σ H s)(h1:-(2^62)<=lo)(h2:lo<2^62)(h3:-(2^62)<=hi)(h4:hi<2^62)
  (q:R (Itr lo (hi-lo).toNat) H):wpAny (model X.prog X.w) X.A (pyIter (.ref s.heap.objs.size)) (PIE X pins σ tg R) E {s with heap:=s.heap.push {cls:=.type "range", data:=.fields #[.int lo t,.int hi u,.int 1 v]},toks:=tk}:=by
 refine wpAny_pyIter_range (IsRange.new ..) (small_one h1 h2 h3 h4) ?_;have I1:Inv X pins σ H {s with heap:=s.heap.push {cls:=.type "range", data:=.fields #[.int lo t,.int hi u,.int 1 v]},toks:=tk}:=I.kept fun b o e=>Heap.get?_push_of_some _ e
 refine⟨(s.heap.push {cls:=.type "range", data:=.fields #[.int lo t,.int hi u,.int 1 v]}).objs.size,[(s.heap.push {cls:=.type "range", data:=.fields #[.int lo t,.int hi u,.int 1 v]}).objs.size],_,_,H,rfl,
  I1.kept (t':=tk) fun b o e=>Heap.get?_push_of_some _ e,x7n _ lo (hi-lo).toNat,?_,fun b hb=>?_,q⟩
 ·have e1:lo+((0:Nat):Int)*1=lo:=by simp
  have e2:(((hi-lo).toNat:Nat):Int)-((0:Nat):Int)=Builtin.Range.rangeSize lo hi 1:=by grind [rangeSize_one]
  show IsRangeIter _ _ (lo+((0:Nat):Int)*1) ((((hi-lo).toNat:Nat):Int)-((0:Nat):Int)) 1;rw[e1,e2];exact Heap.get?_push_size _ rfl
 ·have e:b=(s.heap.push {cls:=.type "range", data:=.fields #[.int lo t,.int hi u,.int 1 v]}).objs.size:=by simpa using hb
  subst e;exact I1.fpOk (w0b _) (I1.hok.fresh (w0b _))
def iRng1(ta:TA):TI:=fun σ H R=>ta σ H fun vs H1=>∃j:Int,vs=[.int j]/\-(2^62)<=j/\j<2^62/\R (Itr 0 j.toNat) H1
def iRng2(ta:TA):TI:=fun σ H R=>ta σ H fun vs H1=>∃i j:Int,vs=[.int i,.int j]/\(-(2^62)<=i/\i<2^62/\-(2^62)<=j/\j<2^62)/\R (Itr i (j-i).toNat) H1
theorem x2d{a:Expr}{ta:TA}(hg:Gl X "range")(hm:X.mg "range"=none)(ha:PA X [a] ta)(hs:starEach [a] X.env=[(false,eval a X.env)]:=by rfl):PI X tg (.Call (.Name "range" p) [a] [] pos) (iRng1 ta):=by
 intro pins s σ H R I h;refine Call_ (q41 I hg hm boot_range (PyProof.Rows.callWith_type1 (thn (ha pos pins s σ H _ I h) fun us s1 ⟨vs,H1,I1,r1,q1⟩=>?_) hs rfl))
 obtain⟨j,e,q1,q2,q⟩:=q1;subst e;cases r1 with
 |cons r rr=>
  cases rr;obtain⟨t,rfl⟩:=r
  grind [call_range_1,x36]
theorem x8u{a b:Expr}{ta:TA}(hg:Gl X "range")(hm:X.mg "range"=none)(ha:PA X [a,b] ta)(hs:starEach [a,b] X.env=[(false,eval a X.env),(false,eval b X.env)]:=by rfl)(hs2:starEach [b] X.env=[(false,eval b X.env)]:=by rfl):
  PI X tg (.Call (.Name "range" p) [a,b] [] pos) (iRng2 ta):=by
 intro pins s σ H R I h;refine Call_ (q41 I hg hm boot_range (PyProof.Rows.callWith_type1 (thn (ha pos pins s σ H _ I h) fun us s1 ⟨vs,H1,I1,r1,q1⟩=>?_) (by rw[hs,hs2]) (by rw[hs2];rfl)))
 obtain⟨i,j,e,⟨q1,q2,q3,q4⟩,q⟩:=q1;subst e;cases r1 with
 |cons r rr=>
  cases rr with
  |cons r' rr=>
   cases rr;obtain⟨t,rfl⟩:=r;obtain⟨t',rfl⟩:=r'
   grind [call_range_2,x36]
def tFor(wi:TI)(g:TG)(tb:TS):TS:=fun D σ H=>wi σ H fun J H1=>∃W:Nat->Nat->St->Hp->Prop,(∃m,W 0 m σ H1)/\∀i m σ H,W i m σ H ->
 (J.stop i H/\D.nx σ H)\/(J.go i H/\∃N:St->Hp->Prop,(∀σ' H',N σ' H'->∃m',m'<m/\W (i+1) m' σ' H')/\∀x H',J.yld i H x H'->g x σ H' fun σ2 H2=>tb {D with nx:=N,ct:=N,bk:=D.nx} σ2 H2)
def pinsAt(fp:List Addr)(h:Heap):List (Addr×Obj):=fp.filterMap fun b=>(h.get? b).map fun o=>(b,o)
theorem q23{b:Addr}{o:Obj}(hb:b∈fp)(e:h.get? b=some o):(b,o)∈pinsAt fp h:=w5a.mpr ⟨b,hb,by rw[e];rfl⟩
theorem x8v{p:Addr×Obj}(hp:p∈pinsAt fp h):p.1∈fp/\h.get? p.1=some p.2:=by
 obtain⟨b,hb,e⟩:=w5a.mp hp;cases q:h.get? b with
 |none=>rw[q]at e;cases e
 |some o=>
  grind
theorem Inv.pinned(I:Inv X pins σ H s)(hf:∀b∈fp,FpOk X pins H b)(ho:∀b∈fp,∃o,s.heap.get? b=some o/\∀v,o.data≠.cell v):Inv X (pins++pinsAt fp s.heap) σ H s:=
 I.pins_of fun p hp=>(w0z.mp hp).elim (fun z=>I.pin p (w0e _ z)) fun z=>by
  obtain⟨hb,e⟩:=x8v z;obtain⟨f0,f1,f2,_⟩:=hf p.1 hb
  grind
theorem Inv.unpinned{pl:List (Addr×Obj)}(I:Inv X (pins++pl) σ H s):Inv X pins σ H s:=I.pins_of fun p hp=>I.pin p (w0e _ (w0x _ hp))
theorem x0r{iter:Expr}{body:List Stmt}{wi:TI}{g:TG}(hp:PassesOwn (model X.prog X.w) X.A X.env X.xe)(hc:X.calm=true)(hi:PI X tg iter wi)(hg:PG X tg g)(hb:PSs X body tb)
  (hs:∀x,foldedSetIterable iter X.env x=pure x:=by intro _;rfl):PS X (.For tg iter body [] pos) (tFor wi g tb):=by
 intro pins s σ H D I h;refine wpAny_For (thn (hi pins s σ H _ I h) fun v s1 h1=>thn h1 fun itv s2 h2=>?_) hs
 obtain⟨it,fp,tn,J,H2,e,I2,T,st2,f2,W,⟨m0,w0⟩,turn⟩:=h2;subst e;have stat:∀{H':Hp},(∀b∈fp,H' b=none)->∀b∈fp,FpOk X pins H' b:=fun hn b hb=>⟨hn b hb,(f2 b hb).2⟩
 refine codeAny_forLoop_any (fun n s'=>∃i σ' H',Inv X pins σ' H' s'/\tn i s'.heap/\(∀b∈fp,H' b=none)/\W i n σ' H') ?_ m0 ⟨0,σ,H2,I2,st2,fun b hb=>(f2 b hb).1,w0⟩
 rintro n s3 ⟨i,σ3,H3,I3,st3,fr3,w3⟩;rcases turn i n σ3 H3 w3 with⟨stop,qn⟩|⟨go,N,hN,step⟩
 ·refine wpAny_passesOwn hp (thn (T.done X rfl rfl rfl hc i pins s3 σ3 H3 X.xe I3 (stat fr3) st3 stop) fun r s4 ⟨hr,I4⟩=>?_)
  subst hr;exact wpAny_execs_nil ⟨σ3,H3,I4,qn⟩
 ·refine wpAny_passesOwn hp (thn (T.item X rfl rfl rfl hc i pins s3 σ3 H3 X.xe I3 (stat fr3) st3 go) fun r s4 ⟨u,hr,h4⟩=>?_)
  subst hr;refine wpAny_passesOwn hp (thn h4 fun _ s5 ⟨x,H5,I5,r5,y5,st5,fr5⟩=>?_)
  have I5':=I5.pinned (stat fr5) (T.obj _ _ st5);refine wpAny_passesOwn hp (thn (hg _ s5 σ3 H5 x u _ I5' r5 (step x H5 y5)) fun _ s6 ⟨σ6,H6,I6,q6⟩=>?_)
  refine wpAny_passesOwn hp (thn (hb _ s6 σ6 H6 _ I6 q6) fun f s7 q7=>?_)
  have again:∀{σ7:St}{H7:Hp},Inv X (pins++pinsAt fp s5.heap) σ7 H7 s7->N σ7 H7->∃m,m<n/\∃i σ' H',Inv X pins σ' H' s7/\tn i s7.heap/\(∀b∈fp,H' b=none)/\W i m σ' H':=fun {σ7 H7} I7 n7=>by
   obtain⟨m',hm,w7⟩:=hN σ7 H7 n7;refine⟨m',hm,i+1,σ7,H7,I7.unpinned,T.keep _ _ _ st5 fun b hb o e=>(I7.pin (b,o) (w0e _ (w0e _ (q23 hb e)))).1,fun b hb=>?_,w7⟩
   obtain⟨o,e,d⟩:=T.obj _ _ st5 b hb;exact(I7.pin (b,o) (w0e _ (w0e _ (q23 hb e)))).2.1
  cases f with
  |next=>obtain⟨σ7,H7,I7,n7⟩:=q7;exact again I7 n7
  |cont=>obtain⟨σ7,H7,I7,n7⟩:=q7;exact again I7 n7
  |brk=>obtain⟨σ7,H7,I7,q7⟩:=q7;exact⟨σ7,H7,I7.unpinned,q7⟩
  |ret v=>obtain⟨x7,σ7,H7,I7,r7,q7⟩:=q7;exact⟨x7,σ7,H7,I7.unpinned,r7,q7⟩
theorem y2e{g:TG}{D:Ends}(Pv:Nat->St->Hp->Prop)(h0:Pv 0 σ H)(hl:∀i σ H,i<=xs.length->Pv i σ H->SqL K H a xs)
  (hs:∀i x σ H,xs[i]?=some x->Pv i σ H->g x σ H fun σ2 H2=>tb {D with nx:=Pv (i+1),ct:=Pv (i+1),bk:=D.nx} σ2 H2)(hd:∀σ H,Pv xs.length σ H->D.nx σ H):
  ∃W:Nat->Nat->St->Hp->Prop,(∃m,W 0 m σ H)/\∀i m σ H,W i m σ H ->
   ((Itl K a).stop i H/\D.nx σ H)\/((Itl K a).go i H/\∃N:St->Hp->Prop,(∀σ' H',N σ' H'->∃m',m'<m/\W (i+1) m' σ' H')/\∀x H',(Itl K a).yld i H x H'->g x σ H' fun σ2 H2=>tb {D with nx:=N,ct:=N,bk:=D.nx} σ2 H2):=by
 refine⟨fun i m σ H=>m=xs.length-i/\i<=xs.length/\Pv i σ H,⟨xs.length,by simp,w1c _,h0⟩,?_⟩
 rintro i m σ H ⟨rfl,hi,p⟩;have q:=hl i σ H hi p
 by_cases hlt:i<xs.length
 ·refine .inr ⟨⟨xs,xs[i],q,by simp[hlt]⟩,Pv (i+1),fun σ' H' p'=>⟨xs.length-(i+1),by omega,rfl,hlt,p'⟩,fun x H' y=>?_⟩
  obtain⟨e,y⟩:=y
  grind
 ·have e:i=xs.length:=by omega
  subst e;exact .inl ⟨⟨xs,q,w0b _⟩,hd σ H p⟩
theorem y50{g:TG}{D:Ends}(Pv:Nat->St->Hp->Prop)(h0:Pv 0 σ H)(hl:∀i σ H,i<=xs.length->Pv i σ H->SqT K H a xs)
  (hs:∀i x σ H,xs[i]?=some x->Pv i σ H->g x σ H fun σ2 H2=>tb {D with nx:=Pv (i+1),ct:=Pv (i+1),bk:=D.nx} σ2 H2)(hd:∀σ H,Pv xs.length σ H->D.nx σ H):
  ∃W:Nat->Nat->St->Hp->Prop,(∃m,W 0 m σ H)/\∀i m σ H,W i m σ H ->
   ((Itt K a).stop i H/\D.nx σ H)\/((Itt K a).go i H/\∃N:St->Hp->Prop,(∀σ' H',N σ' H'->∃m',m'<m/\W (i+1) m' σ' H')/\∀x H',(Itt K a).yld i H x H'->g x σ H' fun σ2 H2=>tb {D with nx:=N,ct:=N,bk:=D.nx} σ2 H2):=by
 refine⟨fun i m σ H=>m=xs.length-i/\i<=xs.length/\Pv i σ H,⟨xs.length,by simp,w1c _,h0⟩,?_⟩
 rintro i m σ H ⟨rfl,hi,p⟩;have q:=hl i σ H hi p
 by_cases hlt:i<xs.length
 ·refine .inr ⟨⟨xs,xs[i],q,by simp[hlt]⟩,Pv (i+1),fun σ' H' p'=>⟨xs.length-(i+1),by omega,rfl,hlt,p'⟩,fun x H' y=>?_⟩
  obtain⟨e,y⟩:=y
  grind
 ·have e:i=xs.length:=by omega
  subst e;exact .inl ⟨⟨xs,q,w0b _⟩,hd σ H p⟩
theorem x8w{lo:Int}{n:Nat}{g:TG}{D:Ends}(Pv:Nat->St->Hp->Prop)(h0:Pv 0 σ H)
  (hs:∀i σ H,i<n->Pv i σ H->g (.int (lo+i)) σ H fun σ2 H2=>tb {D with nx:=Pv (i+1),ct:=Pv (i+1),bk:=D.nx} σ2 H2)(hd:∀σ H,Pv n σ H->D.nx σ H):
  ∃W:Nat->Nat->St->Hp->Prop,(∃m,W 0 m σ H)/\∀i m σ H,W i m σ H ->
   ((Itr lo n).stop i H/\D.nx σ H)\/((Itr lo n).go i H/\∃N:St->Hp->Prop,(∀σ' H',N σ' H'->∃m',m'<m/\W (i+1) m' σ' H')/\∀x H',(Itr lo n).yld i H x H'->g x σ H' fun σ2 H2=>tb {D with nx:=N,ct:=N,bk:=D.nx} σ2 H2):=by
 refine⟨fun i m σ H=>m=n-i/\i<=n/\Pv i σ H,⟨n,by simp,w1c _,h0⟩,?_⟩
 rintro i m σ H ⟨rfl,hi,p⟩
 by_cases hlt:i<n
 ·refine .inr ⟨hlt,Pv (i+1),fun σ' H' p'=>⟨n-(i+1),by omega,rfl,hlt,p'⟩,fun x H' y=>?_⟩
  obtain⟨e,y⟩:=y
  grind
 ·have e:i=n:=by omega
  subst e;exact .inl ⟨w0b _,hd σ H p⟩
abbrev R2:=V->V->Hp->VK->Prop
variable{r:R2}
def OpR(X:Cx)(f:Value->Value->Sem Value)(r:R2):Prop:=
 ∀(pins:List (Addr×Obj))(s:Shared)(σ:St)(H:Hp)(x y:V)(v u:Value)(Q:VK),Inv X pins σ H s->RelV x v->RelV y u->r x y H Q ->
  wpAny (model X.prog X.w) X.A (f v u) (EP X pins σ Q) X.xe s
def UnR(X:Cx)(f:Value->Sem Value)(r:V->Hp->VK->Prop):Prop:=
 ∀(pins:List (Addr×Obj))(s:Shared)(σ:St)(H:Hp)(x:V)(v:Value)(Q:VK),Inv X pins σ H s->RelV x v->r x H Q ->
  wpAny (model X.prog X.w) X.A (f v) (EP X pins σ Q) X.xe s
def CallR(X:Cx)(f:Value)(r:List V->Hp->VK->Prop):Prop:=
 ∀(pins:List (Addr×Obj))(s:Shared)(σ:St)(H:Hp)(xs:List V)(us:List Value)(Q:VK),Inv X pins σ H s->Vals xs us->r xs H Q ->
  wpAny (model X.prog X.w) X.A (call f us) (EP X pins σ Q) X.xe s
def TruR(X:Cx)(r:V->Hp->(Bool->Hp->Prop)->Prop):Prop:=
 ∀(pins:List (Addr×Obj))(s:Shared)(σ:St)(H:Hp)(x:V)(v:Value)(Q:Bool->Hp->Prop),Inv X pins σ H s->RelV x v->r x H Q ->
  wpAny (model X.prog X.w) X.A (truthy v) (TP X pins σ Q) X.xe s
def tOp(r:R2)(ta tb:TE):TE:=fun σ H Q=>ta σ H fun x H1=>tb σ H1 fun y H2=>r x y H2 Q
def tUn(r:V->Hp->VK->Prop)(ta:TE):TE:=fun σ H Q=>ta σ H fun x H1=>r x H1 Q
def rI(C:Int->Int->Prop)(g:Int->Int->V):R2:=fun x y H Q=>∃i j,x=.int i/\y=.int j/\C i j/\Q (g i j) H
def rI0(g:Int->Int->V):R2:=fun x y H Q=>∃i j,x=.int i/\y=.int j/\Q (g i j) H
def rU(g:Int->V):V->Hp->VK->Prop:=fun x H Q=>∃i,x=.int i/\Q (g i) H
section
variable{a b:Expr}{tb tc:TE}
theorem binT(ha:PE X a ta)(hb:PE X b tb){R:V->V->Hp->Prop}(I:Inv X pins σ H s)
  (h:ta σ H fun x H1=>tb σ H1 fun y H2=>R x y H2){Q:Value->Shared->Prop}
  (hf:∀v u s2 x y H2,Inv X pins σ H2 s2->RelV x v->RelV y u->R x y H2->wpAny (model X.prog X.w) X.A (f v u) Q X.xe s2):
  wpAny (model X.prog X.w) X.A (eval a X.env) (fun v s₁=>wpAny (model X.prog X.w) X.A (eval b X.env) (fun u s₂=>wpAny (model X.prog X.w) X.A (f v u) Q X.xe s₂) X.xe s₁) X.xe s:=by
 refine thn (ha pins s σ H _ I h) fun v s1 ⟨x,H1,I1,r1,q1⟩=>?_
 refine thn (hb pins s1 σ H1 _ I1 q1) fun u s2 ⟨y,H2,I2,r2,q2⟩=>?_
 grind
theorem y47{op:Operator}(ho:OpR X (binaryOp op) r)(ha:PE X a ta)(hb:PE X b tb):PE X (.BinOp a op b pos) (tOp r ta tb):=by
 intro pins s σ H Q I h;exact wpAny_BinOp (binT ha hb I h fun v u s2 x y H2 I2 rx ry q=>ho pins s2 σ H2 x y v u Q I2 rx ry q)
theorem z4d{op:UnaryOp}{r:V->Hp->VK->Prop}(ho:UnR X (unaryOp op) r)(ha:PE X a ta):PE X (.UnaryOp op a pos) (tUn r ta):=by
 intro pins s σ H Q I h;exact UnaryOp_ (thn (ha pins s σ H _ I h) fun v s1 ⟨x,H1,I1,r1,q1⟩=>ho pins s1 σ H1 x v Q I1 r1 q1)
theorem opI{C:Int->Int->Prop}{g:Int->Int->Int}
  (rule:∀(i j:Int)(t u:Tok)(s:Shared)(Q:Value->Shared->Prop)(E:Value->Shared->Prop),C i j->Q (.int (g i j) s.toks) {s with toks:=s.toks+1}->wpAny (model X.prog X.w) X.A (f (.int i t) (.int j u)) Q E s):
  OpR X f (rI C fun i j=>.int (g i j)):=by
 intro pins s σ H x y v u Q I rx ry h;obtain⟨i,j,rfl,rfl,hc,q⟩:=h;obtain⟨t,rfl⟩:=rx;obtain⟨t',rfl⟩:=ry;exact rule i j t t' s _ _ hc ⟨.int (g i j),H,I.tok _,⟨_,rfl⟩,q⟩
theorem opI0{g:Int->Int->Int}
  (rule:∀(i j:Int)(t u:Tok)(s:Shared)(Q:Value->Shared->Prop)(E:Value->Shared->Prop),Q (.int (g i j) s.toks) {s with toks:=s.toks+1}->wpAny (model X.prog X.w) X.A (f (.int i t) (.int j u)) Q E s):
  OpR X f (rI0 fun i j=>.int (g i j)):=by
 intro pins s σ H x y v u Q I rx ry h;obtain⟨i,j,rfl,rfl,q⟩:=h;obtain⟨t,rfl⟩:=rx;obtain⟨t',rfl⟩:=ry;exact rule i j t t' s _ _ ⟨.int (g i j),H,I.tok _,⟨_,rfl⟩,q⟩
theorem opB0{g:Int->Int->Bool}
  (rule:∀(i j:Int)(t u:Tok)(s:Shared)(Q:Value->Shared->Prop)(E:Value->Shared->Prop),Q (.bool (g i j)) s->wpAny (model X.prog X.w) X.A (f (.int i t) (.int j u)) Q E s):
  OpR X f (rI0 fun i j=>.bl (g i j)):=by
 intro pins s σ H x y v u Q I rx ry h;obtain⟨i,j,rfl,rfl,q⟩:=h;obtain⟨t,rfl⟩:=rx;obtain⟨t',rfl⟩:=ry;exact rule i j t t' s _ _ ⟨.bl (g i j),H,I,rfl,q⟩
def CDiv(i j:Int):Prop:=0<j/\j<1073741824
def CPow(i j:Int):Prop:=0<=j/\j<=1000000/\i.natAbs<2^64
def CMul(i j:Int):Prop:=(-(2^64)<i/\i<2^64)\/(-(2^64)<j/\j<2^64)
theorem CMul.ok{i j:Int}(h:CMul i j):IntMulOk i j:=by
 rcases h with⟨h1,h2⟩|⟨h1,h2⟩
 all_goals grind [IntMulOk.of_left,intBits_le_64,IntMulOk.of_right]
theorem op_add:OpR X (binaryOp .Add) (rI0 fun i j=>.int (i+j)):=opI0 fun _ _ _ _ _ _ _ q=>add_int q
theorem y96:OpR X (binaryOp .Sub) (rI0 fun i j=>.int (i-j)):=opI0 fun _ _ _ _ _ _ _ q=>sub_int q
theorem y97:OpR X (binaryOp .Mult) (rI CMul fun i j=>.int (i*j)):=opI fun _ _ _ _ _ _ _ hc q=>mul_int q hc.ok
theorem y51:OpR X (binaryOp .FloorDiv) (rI CDiv fun i j=>.int (i / j)):=opI fun i j _ _ _ _ _ hc q=>by
 have h1:(0:Int)<j:=hc.1;have h2:j<1073741824:=hc.2;exact floordiv_int (by omega) (by grind) (.inl (PyProof.noPylong_small (by omega)))
theorem y98:OpR X (binaryOp .Mod) (rI (fun _ j=>0<j) fun i j=>.int (i%j)):=opI fun i j _ _ _ _ _ hc q=>by
 have h1:(0:Int)<j:=hc;exact mod_int' (by omega) (by grind)
theorem y99:OpR X (binaryOp .Pow) (rI CPow fun i j=>.int (i^j.toNat)):=opI fun _ _ _ _ _ _ _ hc q=>pow_int_small hc.1 hc.2.1 hc.2.2 q
theorem unI{f:Value->Sem Value}{g:Int->Int}
  (rule:∀(i:Int)(t:Tok)(s:Shared)(Q:Value->Shared->Prop)(E:Value->Shared->Prop),Q (.int (g i) s.toks) {s with toks:=s.toks+1}->wpAny (model X.prog X.w) X.A (f (.int i t)) Q E s):
  UnR X f (rU fun i=>.int (g i)):=by
 intro pins s σ H x v Q I rx h;obtain⟨i,rfl,q⟩:=h;obtain⟨t,rfl⟩:=rx;exact rule i t s _ _ ⟨.int (g i),H,I.tok _,⟨_,rfl⟩,q⟩
theorem z0a:UnR X (unaryOp .USub) (rU fun i=>.int (-i)):=unI fun _ _ _ _ _ q=>neg_int q
end
section
variable{a b:Expr}{tb tc:TE}
theorem x8x{Q:VK}{k k':Bool}(I:Inv X pins σ H s)(q:Q (.bl k) H)(e:k=k'):EP X pins σ Q (.bool k') s:=by
 subst e;exact⟨.bl k,H,I,rfl,q⟩
theorem y48:OpR X (compareOp .Lt) (rI0 fun i j=>.bl (decide (i<j))):=opB0 fun _ _ _ _ _ _ _ q=>lt_int q
theorem y49:OpR X (compareOp .Gt) (rI0 fun i j=>.bl (decide (j<i))):=opB0 fun _ _ _ _ _ _ _ q=>gt_int q
theorem z4e:OpR X (compareOp .GtE) (rI0 fun i j=>.bl (decide (j<=i))):=opB0 fun _ _ _ _ _ _ _ q=>ge_int q
theorem OpR.or{r':R2}(h:OpR X f r)(h':OpR X f r'):OpR X f (fun x y H Q=>r x y H Q\/r' x y H Q):=by
 intro pins s σ H x y v u Q I rx ry q;rcases q with q|q
 ·exact h pins s σ H x y v u Q I rx ry q
 ·exact h' pins s σ H x y v u Q I rx ry q
theorem nomark(b:Expr)(h:op≠.In:=by decide)(h2:op≠.NotIn:=by decide):behindInMarks op b=false:=by
 have e1:(op==CmpOp.In)=false:=by grind
 have e2:(op==CmpOp.NotIn)=false:=by grind
 cases b<;>simp[behindInMarks,e1,e2]
theorem y52(ho:OpR X (compareOp op) r)(ha:PE X a ta)(hb:PE X b tb)(hm:behindInMarks op b=false):PE X (.Compare a [op] [b] pos) (tOp r ta tb):=by
 intro pins s σ H Q I h;exact wpAny_Compare1 (binT ha hb I h fun v u s2 x y H2 I2 rx ry q=>ho pins s2 σ H2 x y v u Q I2 rx ry q) hm
def tTest(t:TE):TT:=fun σ H Q=>t σ H fun x H'=>∃k,x=.bl k/\Q k H'
theorem y53(ho:OpR X (compareOp op) r)(ha:PE X a ta)(hb:PE X b tb)(hm:behindInMarks op b=false):PT X (.Compare a [op] [b] pos) (tTest (tOp r ta tb)):=by
 intro pins s σ H Q I h
 refine wpAny_isTrue_Compare1 (thn (ha pins s σ H _ I h) fun v s1 ⟨x,H1,I1,r1,q1⟩=>thn (hb pins s1 σ H1 _ I1 q1) fun u s2 ⟨y,H2,I2,r2,q2⟩=>
  thn (ho pins s2 σ H2 x y v u _ I2 r1 r2 q2) fun c s3 ⟨z,H3,I3,r3,k,e,q3⟩=>?_) hm
 subst e;cases r3;exact wpAny_truthy_bool ⟨H3,I3,q3⟩
def TruV(K:PySem.W.Frag)(x:V)(H:Hp)(k:Bool):Prop:=
 match x with
 |.non=>k=false
 |.bl b=>k=b
 |.int i=>k=(i != 0)
 |.str y=>y.length<=sizeLine/\k=((y.length:Int) != 0)
 |.byt y=>y.size<=sizeLine/\k=((y.size:Int) != 0)
 |.ref p=>(∃xs,SqL K H p xs/\k=!xs.isEmpty)\/(∃xs,SqT K H p xs/\k=!xs.isEmpty)\/∃kvs,H p=some (.dK kvs)/\k=!kvs.isEmpty
 |_=>False
theorem x7o{κ:Type}{kvs:List (κ×V)}{vs:List (κ×Value)}(r:KV kvs vs):(!vs.isEmpty)=!kvs.isEmpty:=by
 cases r<;>rfl
theorem x0s{its:List Value}(r:Vals xs its):(!its.toArray.isEmpty)=!xs.isEmpty:=by
 cases r<;>simp
theorem line63:(sizeLine:Nat)<2^63:=by rw[sizeLine_eq];decide
theorem z0b:TruR X (fun x H Q=>∃k,TruV X.K x H k/\Q k H):=by
 intro pins s σ H x v Q I rx h;obtain⟨k,e,q⟩:=h;have hl:=line63;have hs:sizeLine=16777216:=sizeLine_eq;cases x with
 |non=>
  cases rx;have e':k=false:=e;subst e';exact truthy_none ⟨H,I,q⟩
 |bl b=>
  cases rx;have e':k=b:=e;subst e';exact wpAny_truthy_bool ⟨H,I,q⟩
 |int i=>
  obtain⟨t,rfl⟩:=rx;have e':k=(i != 0):=e;subst e';exact PySem.P.truthy_int ⟨H,I,q⟩
 |str y=>
  obtain⟨t,rfl⟩:=rx;obtain⟨hy,e'⟩:y.length<=sizeLine/\k=((y.length:Int) != 0):=e;subst e';exact PySem.P.truthy_str (by omega) ⟨H,I.tok _,q⟩
 |byt y=>
  obtain⟨t,rfl⟩:=rx;obtain⟨hy,e'⟩:y.size<=sizeLine/\k=((y.size:Int) != 0):=e;subst e';exact PySem.W.truthy_bytes (by omega) ⟨H,I.tok _,q⟩
 |ref p=>
  cases rx;have e':(∃xs,SqL X.K H p xs/\k=!xs.isEmpty)\/(∃xs,SqT X.K H p xs/\k=!xs.isEmpty)\/∃kvs,H p=some (.dK kvs)/\k=!kvs.isEmpty:=e;rcases e' with⟨xs,hx,e'⟩|⟨xs,hx,e'⟩|⟨kvs,hx,e'⟩
  ·subst e';obtain⟨its,r,pl,hz⟩:=I.list hx;have hlen:=r.length;exact wpAny_truthy_list pl.isList (by grind) ⟨H,I.tok _,by grind [x0s]⟩
  ·subst e';obtain⟨its,r,pl,hz⟩:=I.tuple hx;have hlen:=r.length;exact truthy_tuple pl (by grind) ⟨H,I.tok _,by grind [x0s]⟩
  ·subst e';obtain⟨hz,hS,vs,r,m⟩:kvs.length<=sizeLine/\(p==sysModules)=false/\∃vs,KV kvs vs/\s.heap.DictOf (mixKind X.prog X.w) p vs:=I.hok p _ hx;have hlen:kvs.length=vs.length:=Paired.length r;exact wpAny_truthy_dict hS m (by omega) ⟨H,I.tok _,by grind [x7o]⟩
 |_=>exact(show False from e).elim
theorem y2f(ha:PE X a ta)(he:∀whole,isTrue a X.env whole=(do let v <- whole;standAt a.pos;holding [v] (truthy v))):
  PT X a (fun σ H Q=>ta σ H fun x H'=>∃k,TruV X.K x H' k/\Q k H'):=by
 intro pins s σ H Q I h;exact isTrue_plain (thn (ha pins s σ H _ I h) fun v s1 ⟨x,H1,I1,r1,q1⟩=>z0b pins s1 σ H1 x v Q I1 r1 q1) (he _)
theorem op_add_str:OpR X (binaryOp .Add) (fun x y H Q=>∃i j,x=.str i/\y=.str j/\i.length+j.length<=sizeLine/\Q (.str (i++j)) H):=by
 intro pins s σ H x y v u Q I rx ry h;obtain⟨i,j,rfl,rfl,hz,q⟩:=h;obtain⟨t,rfl⟩:=rx;obtain⟨t',rfl⟩:=ry;exact add_str (fun t' tk=>⟨.str (i++j),H,I.tok _,⟨_,rfl⟩,q⟩) hz
theorem vals1{x:V}(r:Vals [x] us):∃u,us=[u]/\RelV x u:=by
 cases r with
 |cons r1 r2=>cases r2;exact⟨_,rfl,r1⟩
theorem vals2{x y:V}(r:Vals [x,y] us):∃u w',us=[u,w']/\RelV x u/\RelV y w':=by
 cases r with
 |cons r1 r2=>
  cases r2 with
  |cons r3 r4=>cases r4;grind
theorem x8y(hc:X.calm=true):CallR X (.builtin "max") (fun xs H Q=>∃i j,xs=[.int i,.int j]/\Q (.int (if j>i then j else i)) H):=by
 intro pins s σ H xs us Q I r h;obtain⟨i,j,rfl,q⟩:=h;obtain⟨u,w',rfl,⟨t,rfl⟩,⟨t',rfl⟩⟩:=vals2 r;refine max_two_ints (I.ok.hd hc) fun h' tk k=>⟨_,H,I.kept k,?_,q⟩
 by_cases hj:j>i
 ·rw[if_pos hj,if_pos hj];exact⟨_,rfl⟩
 ·rw[if_neg hj,if_neg hj];exact⟨_,rfl⟩
theorem x8z:CallR X (.type "int") (fun xs H Q=>(∃i,xs=[.int i]/\Q (.int i) H)\/∃k,xs=[.bl k]/\Q (.int (if k then 1 else 0)) H):=by
 intro pins s σ H xs us Q I r h;rcases h with⟨i,rfl,q⟩|⟨k,rfl,q⟩
 ·obtain⟨u,rfl,t,rfl⟩:=vals1 r;exact call_int_int ⟨.int i,H,I,⟨_,rfl⟩,q⟩
 ·obtain⟨u,rfl,r1⟩:=vals1 r;cases r1;exact call_int_bool ⟨.int (if k then 1 else 0),H,I.tok _,⟨_,rfl⟩,q⟩
def LenV(K:PySem.W.Frag)(x:V)(H:Hp)(n:Nat):Prop:=
 match x with
 |.str y=>y.length<=sizeLine/\n=y.length
 |.byt y=>y.size<=sizeLine/\n=y.size
 |.ref p=>(∃xs,SqL K H p xs/\n=xs.length)\/∃xs,SqT K H p xs/\n=xs.length
 |_=>False
theorem x37:CallR X (.builtin "len") (fun xs H Q=>∃x n,xs=[x]/\LenV X.K x H n/\Q (.int n) H):=by
 intro pins s σ H xs us Q I r h;obtain⟨x,n,rfl,e,q⟩:=h;obtain⟨u,rfl,rx⟩:=vals1 r;have hl:=line63;have hs:sizeLine=16777216:=sizeLine_eq;cases x with
 |str y=>
  obtain⟨t,rfl⟩:=rx;obtain⟨hy,e'⟩:y.length<=sizeLine/\n=y.length:=e;subst e';exact len_str (by omega) ⟨.int _,H,I.tok _,⟨_,rfl⟩,q⟩
 |byt y=>
  obtain⟨t,rfl⟩:=rx;obtain⟨hy,e'⟩:y.size<=sizeLine/\n=y.size:=e;subst e';exact PySem.W.len_bytes (by omega) ⟨.int _,H,I.tok _,⟨_,rfl⟩,q⟩
 |ref p=>
  cases rx;have e':(∃xs,SqL X.K H p xs/\n=xs.length)\/∃xs,SqT X.K H p xs/\n=xs.length:=e;rcases e' with⟨xs,hx,e'⟩|⟨xs,hx,e'⟩
  ·subst e';obtain⟨its,r',pl,hz⟩:=I.list hx;have hlen:=r'.length;exact Calls.call_len_list pl.isList (by grind) ⟨.int xs.length,H,I.tok _,⟨_,by simp only[w1z];rw[hlen]⟩,q⟩
  ·subst e';obtain⟨its,r',pl,hz⟩:=I.tuple hx;have hlen:=r'.length;exact len_tuple pl (by grind) ⟨.int xs.length,H,I.tok _,⟨_,by simp only[w1z];rw[hlen]⟩,q⟩
 |_=>exact(show False from e).elim
end
structure ObjM(h:Heap)(x dx C:Addr)(mA:Str->Option Value):Prop where
 obj:h.get? x=some (PySem.W.instObj C dx)
 ns:h.Ns1 dx mA
 ne:dx≠x
theorem RelO.some_of{v:V}{o:Option Value}(r:RelO (some v) o):∃u,o=some u/\RelV v u:=by
 cases o with
 |none=>exact(show False from r).elim
 |some u=>exact⟨u,rfl,r⟩
structure Cls(K:PySem.W.Frag)(C:Addr):Prop where
 pg:PySem.W.plainGet K C Str.empty=true
 hd:PySem.W.hasDictIn K C=true
 po:PySem.W.plainOver K C=true
 sa:findIn K (.ref C) "__setattr__"=some (some (.builtin "object.__setattr__"))
structure Con(K:PySem.W.Frag)(C:Addr)(f:Str)(v:V)(u:Value):Prop where
 at_:findIn K (.ref C) f=some (some u)
 rel:RelV v u
 get:specialIn K u "__get__"=some none
 cp:PySem.W.copiedNames.contains f=false
structure Meth(K:PySem.W.Frag)(C:Addr)(m:Str)(f:Addr):Prop where
 at_:findIn K (.ref C) m=some (some (.ref f))
 fn:PySem.W.isFn K (.ref f)=true
 kp:keepIn K (.ref f)=true
section
variable{Q:Value->Shared->Prop}{c:Value}{b:Bool}
inductive TyOf(K:PySem.W.Frag)(H:Hp):V->Value->Prop where
 |non:TyOf K H .non (.type "NoneType")
 |bl (x:Bool):TyOf K H (.bl x) (.type "bool")
 |int (i:Int):TyOf K H (.int i) (.type "int")
 |str (x:Str):TyOf K H (.str x) (.type "str")
 |flt (x:UInt64):TyOf K H (.flt x) (.type "float")
 |lst {a:Addr} {xs:List V} (e:H a=some (.lst xs)):TyOf K H (.ref a) (.type "list")
 |frz {a:Addr} {o:Obj} {xs:List V} (e:H a=some (.frz o (.lst xs))):TyOf K H (.ref a) (.type "list")
 |tup {a:Addr} {xs:List V} (e:H a=some (.tup xs)):TyOf K H (.ref a) (.type "tuple")
 |dK {a:Addr} {kvs:List (Key×V)} (e:H a=some (.dK kvs)):TyOf K H (.ref a) (.type "dict")
 |dT {a:Addr} {sh:Sh} {kvs:List (Kx×V)} {kas:List Addr} (e:H a=some (.dT sh kvs kas)):TyOf K H (.ref a) (.type "dict")
 |ins {a C dx:Addr} {fs:List (Str×V)} (e:H a=some (.ins C dx fs)) (cl:Cls K C) (ha:findIn K (.ref C) "__class__"=some (some (.builtin "object.__class__")))
   (hn:specialIn K (.builtin "object.__class__") "__get__"=some (some (.builtin "getset_descriptor.__get__"))) (htk:takesIn K (.builtin "object.__class__")=some true)
   (hm:PySem.W.mroIn K C (.type "object")=some true):TyOf K H (.ref a) (.ref C)
end
structure Room(k:Nat)(A:Around):Prop where
 hd:A.handled=none
 dp:A.depth+3*k+5<recursionLimit
 un:A.units+16*k+200<cLine
 gd:A.guards=some []
theorem Room.deeper{k:Nat}(r:Room (k+1) A)(env:Env):Room k (A.deeper env):=
 ⟨r.hd,by have:=r.dp;show A.depth+1+3*k+5<_;omega,by have:=r.un;show A.units+3+16*k+200<_;omega,r.gd⟩
theorem Room.depth{k:Nat}(r:Room k A):A.depth<recursionLimit:=by have:=r.dp;omega
def tNil:TA:=fun _ H Q=>Q [] H
def tCons(ta:TE)(tr:TA):TA:=fun σ H Q=>ta σ H fun x H1=>tr σ H1 fun xs H2=>Q (x::xs) H2
theorem x0t:PA X [] tNil:=fun _ _ _ _ H Q I h=>Calls.spliced_nil ⟨[],H,I,.nil,h⟩
theorem q5e(ha:PE X e te)(hr:PA X es t)(hs:starEach (e::es) X.env=(false,eval e X.env)::starEach es X.env:=by rfl):PA X (e::es) (tCons te t):=by
 intro pos pins s σ H Q I h;rw[hs];show wpAny _ _ (spliced ((false,eval e X.env)::backTo pos (starEach es X.env))) _ _ s;refine Calls.spliced_cons (thn (ha pins s σ H _ I h) fun u s1 ⟨x,H1,I1,r1,q1⟩=>?_)
 exact thn (hr pos pins s1 σ H1 _ I1 q1) fun us s2 ⟨xs,H2,I2,r2,q2⟩=>⟨x::xs,H2,I2,.cons r1 r2,q2⟩
def tTup(t:TA):TE:=fun σ H Q=>t σ H fun xs H1=>xs.length<=sizeLine/\∀p,H1 p=none->Q (.ref p) (upd H1 p (.tup xs))
def tLst(t:TA):TE:=fun σ H Q=>t σ H fun xs H1=>xs.length<=sizeLine/\∀p,H1 p=none->Q (.ref p) (upd H1 p (.lst xs))
theorem z0c{x1}(h:PA X es t):PE X (.Tuple es x1 pos) (tTup t):=by
 intro pins s σ H Q I hq;refine wpAny_Tuple_spliced (thn (h pos pins s σ H _ I hq) fun us s1 ⟨xs,H1,I1,r,z,q⟩=>⟨by rw[<- r.length];exact z,?_⟩)
 have hf:H1 s1.heap.objs.size=none:=I1.hok.fresh (w0b _);refine⟨.ref s1.heap.objs.size,upd H1 s1.heap.objs.size (.tup xs),I1.laid (t':=s1.toks) (fun b u e=>Heap.get?_push_of_some _ e) (w0b _) ?_,rfl,q _ hf⟩
 exact⟨z,us,r,⟨_,Heap.get?_push_size _ rfl,rfl,_,rfl⟩,⟨_,Heap.get?_push_size _ rfl,rfl⟩⟩
theorem z0d(h:PA X es t):PE X (.List es pos) (tLst t):=by
 intro pins s σ H Q I hq;refine wpAny_List_spliced (thn (h pos pins s σ H _ I hq) fun us s1 ⟨xs,H1,I1,r,z,q⟩=>⟨by rw[<- r.length];exact z,?_⟩)
 have hf:H1 s1.heap.objs.size=none:=I1.hok.fresh (w0b _);refine⟨.ref s1.heap.objs.size,upd H1 s1.heap.objs.size (.lst xs),I1.laid (t':=s1.toks) (fun b u e=>Heap.get?_push_of_some _ e) (w0b _) ?_,rfl,q _ hf⟩
 exact⟨z,us,0,r,Heap.get?_push_size _ rfl⟩
abbrev Sp:=List V->Hp->VK->XK->Prop
variable{sp:Sp}
abbrev CXT:=List Env->Hp->Shared->XK->Value->Shared->Prop
variable{CX:CXT}
structure Env0(P:Program)(w:World)(K:PySem.W.Frag)(mg:Str->Option Value)(base:Heap)(A:Around)(outer:List Env)(s:Shared)(H:Hp):Prop where
 frames:A.frames=some outer
 mod:Mod K mg base
 bs:∀b o,base.get? b=some o->s.heap.get? b=some o/\H b=none
 bsz:base.objs.size<=s.heap.objs.size
 funs:s.heap.FunFrames base outer
 frf:∀b∈frs outer,H b=none
 hok:HOk P w H s.heap
 bare:AllBare s.gens
 tab:TabOk K H
def CE(outer:List Env)(P:Program)(w:World)(H:Hp)(s:Shared)(Q:VK)(u:Value)(s':Shared):Prop:=
 ∃v H',s'.os=s.os/\AllBare s'.gens/\Un (frs outer) [] H H' s.heap s'.heap/\HOk P w H' s'.heap/\RelV v u/\Q v H'
def CR(CX:CXT)(outer:List Env)(P:Program)(w:World)(H:Hp)(s:Shared)(Q:VK)(E:XK)(r:Result)(s':Shared):Prop:=
 match r with
 |.ok (.ret u)=>CE outer P w H s Q u s'
 |.ok _=>False
 |.error e=>CX outer H s E e s'
structure FnOk(P:Program)(w:World)(K:PySem.W.Frag)(mg:Str->Option Value)(base:Heap)(CX:CXT)(k:Nat)(f:Addr)(fd:FuncData)(ps:List Str)(sp:Sp):Prop where
 len:∀vs H Q E,sp vs H Q E->vs.length=ps.length
 run:∀(A:Around)(outer:List Env)(s:Shared)(H:Hp)(args:Args)(us:List Value)(vs:List V)(Q:VK)(E:XK),Room k A->Env0 P w K mg base A outer s H->BindsTo s fd args (ps.zip us)->Vals vs us->sp vs H Q E ->
  codeAny (model P w) A (.call (.ref f) args) (CR CX outer P w H s Q E) s
theorem FnOk.imp{k:Nat}{f:Addr}{sp':Sp}(F:FnOk P w K mg base CX k f fd ps sp)
  (h:∀vs H Q E,sp' vs H Q E->sp vs H Q E):FnOk P w K mg base CX k f fd ps sp':=
 ⟨fun vs H Q E q=>F.len vs H Q E (h _ _ _ _ q),fun A outer s H args us vs Q E hr he hb hv hs=>F.run A outer s H args us vs Q E hr he hb hv (h _ _ _ _ hs)⟩
section
variable{s':Shared}
theorem Inv.env0(I:Inv X pins σ H s):Env0 X.prog X.w X.K X.mg X.base X.A X.stack s H:=
 ⟨I.ok.frames,I.ok.mod,I.bs,w0v I.ok.bsz I.sz,I.stack,I.stkFree,I.hok,I.bare,I.ok.tab.un I.base⟩
theorem Inv.after{Q:VK}(I:Inv X pins σ H s)(h:CE X.stack X.prog X.w H s Q u s'):EP X pins σ Q u s':=by
 obtain⟨v,H',os,bare,un,hok,r,q⟩:=h;obtain⟨hh,g,d,t,os'⟩:=s';obtain rfl:os'=s.os:=os;exact⟨v,H',I.call (h':=hh) (g':=g) (d':=d) (t':=t) (ch:=[]) un hok bare (fun b z=>absurd z (by simp)),r,q⟩
end
def Binds(K:PySem.W.Frag)(fd:FuncData)(ps:List Str)(ds:List Value):Prop:=
 ∀(s:Shared)(us:List Value),K.In s.heap->(us++ds).length=ps.length->BindsTo s fd ⟨us,[]⟩ (ps.zip (us++ds))
theorem Binds.all(h:∀us:List Value,us.length=ps.length->bindArgs fd ⟨us,[]⟩=pure (ps.zip us)):Binds K fd ps []:=fun s us _ hl=>by
 grind [BindsTo.of_eq]
section
variable{k:Nat}{f C:Addr}{dvs:List V}{ds:List Value}{E:XK}{m:Str}{apos:Pos}{o:Expr}
structure Mk(K:PySem.W.Frag)(C f:Addr):Prop where
 makes:PySem.W.makesIn K C=true
 init:findIn K (.ref C) "__init__"=some (some (.ref f))
 fn:PySem.W.isFn K (.ref f)=true
 kp:keepIn K (.ref C)=true
end
section
variable{k:Nat}{f C:Addr}{ks:List Str}{E:XK}{m:Str}{apos kpos:Pos}{o:Expr}{kws:List Keyword}{tk:TA}{nm:Option Str}
structure KBinds(K:PySem.W.Frag)(fd:FuncData)(ps ks:List Str)(g:List Value->List Value->List Value)(gV:List V->List V->List V):Prop where
 to:∀(s:Shared)(us ws:List Value),K.In s.heap->(g us ws).length=ps.length->BindsTo s fd ⟨us,ks.zip ws⟩ (ps.zip (g us ws))
 rel:∀{vs:List V}{us:List Value}{zs:List V}{ws:List Value},Vals vs us->Vals zs ws->Vals (gV vs zs) (g us ws)
variable{g:List Value->List Value->List Value}{gV:List V->List V->List V}
end
structure FnScope(N P:List Str)(sc:Scope):Prop where
 kind:sc.kind=.function
 co:sc.isCoroutine=false
 gen:sc.isGenerator=false
 nd:N.Nodup
 pre:N.take P.length=P
 par:∀x∈P,sc.names.lookup x=some .local\/sc.names.lookup x=some .cell
 nofree:∀y∈sc.names,y.2≠.free
theorem x2e{kindOf:Str->Option NameKind}:∀{binds:List (Str×Value)}{m:Str->Option Value},(∀v,(x,v)∉binds)->bindL kindOf binds m x=m x
 |[],_,_=>rfl
 |(n,v)::r,m,h=>by
  unfold bindL;rw[x2e fun w hw=>h w (w0c _ hw)]
  split
  all_goals grind
theorem x2f{kindOf:Str->Option NameKind}:∀{binds:List (Str×Value)}{m:Str->Option Value},(∀v,(x,v)∉binds)->bindC kindOf binds m x=m x
 |[],_,_=>rfl
 |(n,v)::r,m,h=>by
  unfold bindC;rw[x2f fun w hw=>h w (w0c _ hw)]
  split
  all_goals grind
theorem x2g{kindOf:Str->Option NameKind}{x:Str}{v:Value}:∀{P:List Str}{vs:List Value}{i:Nat}{m:Str->Option Value},P.Nodup->P[i]?=some x->vs[i]?=some v->kindOf x=some .local ->
  bindL kindOf (P.zip vs) m x=some v
 |[],_,_,_,_,h,_,_=>by simp at h
 |_::_,[],_,_,_,_,h,_=>by simp at h
 |p::P,w::vs,0,m,nd,h1,h2,hk=>by
  simp at h1 h2;subst h1;subst h2;show bindL kindOf ((p,w)::P.zip vs) m p=_;unfold bindL;rw[x2e fun v hv=>(w1x.mp nd).1 (w3r hv).1,if_pos hk]
  simp
 |p::P,w::vs,i+1,m,nd,h1,h2,hk=>by
  show bindL kindOf ((p,w)::P.zip vs) m x=_;unfold bindL;exact x2g (i:=i) (w1x.mp nd).2 (by simpa using h1) (by simpa using h2) hk
theorem x2h{kindOf:Str->Option NameKind}{x:Str}{v:Value}:∀{P:List Str}{vs:List Value}{i:Nat}{m:Str->Option Value},P.Nodup->P[i]?=some x->vs[i]?=some v->kindOf x≠some .local ->
  bindC kindOf (P.zip vs) m x=some v
 |[],_,_,_,_,h,_,_=>by simp at h
 |_::_,[],_,_,_,_,h,_=>by simp at h
 |p::P,w::vs,0,m,nd,h1,h2,hk=>by
  simp at h1 h2;subst h1;subst h2;show bindC kindOf ((p,w)::P.zip vs) m p=_;unfold bindC;rw[x2f fun v hv=>(w1x.mp nd).1 (w3r hv).1,if_neg hk]
  simp
 |p::P,w::vs,i+1,m,nd,h1,h2,hk=>by
  show bindC kindOf ((p,w)::P.zip vs) m x=_;unfold bindC;exact x2h (i:=i) (w1x.mp nd).2 (by simpa using h1) (by simpa using h2) hk
def start(N:List Str)(vs:List V):St:=vs.map some++List.replicate (N.length-vs.length) none
def cxOf(CX:CXT)(P:Program)(w:World)(K:PySem.W.Frag)(mg:Str->Option Value)(base:Heap)(N:List Str)(qual:Str)(scope:Scope)(f:Addr)(cd:Value)(A:Around)(outer:List Env)(s:Shared)(H:Hp)(E:XK):Cx where
 prog:=P
 w:=w
 K:=K
 mg:=mg
 base:=base
 A:=A.deeper (envOfC qual scope s.heap.objs.size f cd)
 N:=N
 s₀:=s
 H₀:=H
 env:=envOfC qual scope s.heap.objs.size f cd
 outer:=outer
 stack:=envOfC qual scope s.heap.objs.size f cd::outer
 ex:=[]
 calm:=true
 fn:=fun _=>true
 pn:=[]
 xe:=fun e s'=>wpAny (model P w) (A.deeper (envOfC qual scope s.heap.objs.size f cd)) (leaving (envOfC qual scope s.heap.objs.size f cd) e) (fun _ s''=>CX outer H s E e s'') (fun e' s''=>CX outer H s E e' s'') s'
theorem x38{sc:Scope}{n:Nat}(h:sc.names.lookup x=some .cell):∃c,(cellsFrom n sc.names []).lookup x=some c:=by
 have q:=PySem.W.cellsFrom_some sc.names n [] (.inl h);exact w2y.mp q
theorem x80{qual:Str}{scope:Scope}{f:Addr}{cd:Value}{outer:List Env}{s1:Shared}{E:XK}{vs:List V}
  (S:FnScope N ps scope)(hd:A.handled=none)(e0:Env0 P w K mg base A outer s H)(hl:vs.length=ps.length)(r:Vals vs us)
  (x:InCallC s s.heap.objs.size (bindL (envOfC qual scope s.heap.objs.size f cd).kindOf (ps.zip us) fun _=>none) (cellsFrom (s.heap.objs.size+1) scope.names []) (bindC (envOfC qual scope s.heap.objs.size f cd).kindOf (ps.zip us) fun _=>none) s1):
  Inv (cxOf CX P w K mg base N qual scope f cd A outer s H E) [] (start N vs) H s1:=by
 have hpl:ps.length<=N.length:=by have:=congrArg List.length S.pre;grind
 obtain⟨h1,tk,rfl,hk⟩:=x.done;have noA:∀b:Addr,b∉(cxOf CX P w K mg base N qual scope f cd A outer s H E).ex:=fun b z=>absurd (show b∈([]:List Addr)from z) (by simp)
 refine⟨⟨e0.mod,S.kind,rfl,rfl,w0b _,fun y z c h1 h2=>?_,fun y hy=>?_,fun y c _ h=>?_,fun _=>hd,Around.frames_deeper e0.frames,.inr ⟨rfl,rfl⟩,fun b z=>absurd z (noA b),e0.bs,e0.bsz,fun b _ _=>noA b,fun b z=>absurd z (noA b),e0.funs,e0.frf,e0.tab⟩,
  rfl,e0.bare,Un.kept hk,⟨_,x.toInCall.ns,fun i y v h1 h2 h3=>?_⟩,fun y c h=>⟨_,x.cell y c h⟩,e0.hok.fresh (w0b _),fun y c h=>?_,fun p hp=>absurd (show p∈([]:List (Addr×Obj))from hp) (by simp),e0.hok.kept hk,?_⟩
 ·exact name_of_addr x.apart (PySem.mem_of_lookup h1) (PySem.mem_of_lookup h2)
 ·have hy:scope.names.lookup y=some .cell\/scope.names.lookup y=some .free:=hy;rcases hy with hy|hy
  ·exact x38 hy
  ·exact absurd rfl (S.nofree _ (PySem.mem_of_lookup hy))
 ·exact w5e (x.above y c (PySem.mem_of_lookup h))
 ·have hi:i<vs.length:=by
   grind [start]
  have ha:vs[i]?=some v:=by
   grind [start]
  obtain⟨u,hu,rv⟩:=r.get ha
  have hp:ps[i]?=some y:=by
   rw[<- S.pre,List.getElem?_take_of_lt (by omega)];exact h1
  have ndP:ps.Nodup:=by rw[<- S.pre];exact S.nd.sublist (w4c _ _)
  refine⟨u,rv,?_⟩;rcases S.par y (w1m hp)with k|k
  ·exact .inl ⟨k,x2g ndP hp hu k⟩
  ·obtain⟨c,e⟩:=x38 (n:=s.heap.objs.size+1) k;refine .inr ⟨.inl k,c,e,?_⟩;have q:=x.cell y c e;rw[x2h ndP hp hu (by show scope.names.lookup y≠_;rw[k];decide)]at q;exact q
 ·exact e0.hok.fresh (w5e (x.above y c (PySem.mem_of_lookup h)))
 ·unfold start;show _=N.length
  grind
theorem z4f{k:Nat}{f:Addr}{name qual:Str}{params:Arguments}{body:List Stmt}{scope:Scope}{dV kV doc pm cdv ct oc:Value}{an od:Option Addr}
  {osl:Array (Option Value)}(lk:K.lookup f=some ⟨oc,od,.func (PySem.W.fnOf name qual params body scope dV kV doc pm an cdv ct),osl⟩)(hcd:PySem.W.codeIn K cdv qual=true)(S:FnScope N ps scope)
  (len:∀vs H Q E,sp vs H Q E->vs.length=ps.length)
  (hbody:∀(A:Around)(outer:List Env)(s:Shared)(H:Hp)(vs:List V)(Q:VK)(E:XK),Room k (A.deeper (envOfC qual scope s.heap.objs.size f cdv))->sp vs H Q E ->
   ∃t,PSs (cxOf CX P w K mg base N qual scope f cdv A outer s H E) body t/\t {nx:=fun _ H'=>Q .non H',rt:=Q} (start N vs) H):
  FnOk P w K mg base CX (k+1) f (PySem.W.fnOf name qual params body scope dV kV doc pm an cdv ct) ps sp:=by
 refine⟨len,fun A outer s H args us vs Q E hr e0 hb r hsp=>?_⟩
 have hl:=len _ _ _ _ hsp;have KX:K.In s.heap:=e0.mod.kin.keeps fun b o e=>(e0.bs b o e).1
 have lim:s.heap.NoLimit:=e0.mod.nolimit.keeps fun b o e=>(e0.bs b o e).1
 have hkind:∀y∈ps.zip us,scope.names.lookup y.1=some .local\/(scope.names.lookup y.1=some .cell/\((cellsFrom (s.heap.objs.size+1) scope.names []).lookup y.1).isSome=true):=fun⟨n,v⟩ hy=>by
  rcases S.par n (w3r hy).1 with q|q
  all_goals grind [W.cellsFrom_some]
 refine codeAny_call_function hr.depth (KX _ _ lk) rfl S.co S.gen rfl (PySem.W.codeRec_of KX hcd) (hb _ _ _ _ ?_)
 refine wpAny_newFunctionEnv_cells S.kind hkind fun env he s1 x=>?_
 subst he;refine⟨lim.keeps x.toInCall.keep,codeAny_func ?_⟩
 obtain⟨t,ht,hq⟩:=hbody A outer s H vs Q E (hr.deeper _) hsp;have I:Inv (cxOf CX P w K mg base N qual scope f cdv A outer s H E) [] (start N vs) H s1:=x80 S hr.hd e0 hl r x;refine wpAny_mono (ht [] s1 (start N vs) H _ I hq) (fun fl s' hs=>?_) fun e s' hs=>hs
 have fin:∀{σ':St}{H':Hp}{v:V}{u:Value},Inv (cxOf CX P w K mg base N qual scope f cdv A outer s H E) [] σ' H' s'->RelV v u->Q v H'->CE outer P w H s Q u s':=
  fun {σ' H' v u} J rv q=>⟨v,H',J.os,J.bare,J.base,J.hok,rv,q⟩
 cases fl with
 |ret u=>
  obtain⟨v,σ',H',J,rv,q⟩:=hs;exact fin J rv q
 |next=>
  obtain⟨σ',H',J,q⟩:=hs;exact fin (v:=V.non) (u:=Value.none) J rfl q
 |brk=>
  obtain⟨_,_,_,q⟩:=hs;exact False.elim q
 |cont=>
  obtain⟨_,_,_,q⟩:=hs;exact False.elim q
section
variable{id T:String}{r:List V->Hp->VK->Prop}
def tCB(r:List V->Hp->VK->Prop)(t:TA):TE:=fun σ H Q=>t σ H fun vs H1=>r vs H1 Q
theorem q95(hc:CallR X (.builtin id) r)(hg:Gl X x)(hm:X.mg x=none)(hv:bootBuiltins x=some (.builtin id))(ha:PA X (e::es) t)(hn:x≠"__name__":=by decide)(hdb:(x==("__debug__":Str))=false:=by decide)
  (he:starEach (e::es) X.env=(false,eval e X.env)::starEach es X.env:=by rfl)(hpl:(backTo pos (starEach es X.env)).any (·.1)=false:=by rfl):PE X (.Call (.Name x p) (e::es) [] pos) (tCB r t):=by
 intro pins s σ H Q I h;refine wpAny_Call_Name_kw (q41 I hg hm hv ?_ hn hdb);exact PyProof.Rows.callWith_builtin1 (thn (ha pos pins s σ H _ I h) fun us s1 ⟨vs,H1,I1,r1,q1⟩=>hc pins s1 σ H1 vs us Q I1 r1 q1) he hpl
theorem x81(hc:CallR X (.type T) r)(hg:Gl X x)(hm:X.mg x=none)(hv:bootBuiltins x=some (.type T))(ha:PA X (e::es) t)(hn:x≠"__name__":=by decide)(hdb:(x==("__debug__":Str))=false:=by decide)
  (he:starEach (e::es) X.env=(false,eval e X.env)::starEach es X.env:=by rfl)(hpl:(backTo pos (starEach es X.env)).any (·.1)=false:=by rfl):PE X (.Call (.Name x p) (e::es) [] pos) (tCB r t):=by
 intro pins s σ H Q I h;refine wpAny_Call_Name_kw (q41 I hg hm hv ?_ hn hdb);exact PyProof.Rows.callWith_type1 (thn (ha pos pins s σ H _ I h) fun us s1 ⟨vs,H1,I1,r1,q1⟩=>hc pins s1 σ H1 vs us Q I1 r1 q1) he hpl
end
end L2
namespace HT
open PySem PyProof.Rows
section
variable{prog:Program}{w:World}{A:Around}{E:Value->Shared->Prop}{s:Shared}
theorem cat_tup{t b:Addr}{vs ws:List Value}{Q:Value->Shared->Prop}(ht:IsTup s.heap t vs.toArray)(hb:IsTup s.heap b ws.toArray)(hv:vs≠[])
  (h1:ws=[]->Q (.ref t) s)(h2:ws≠[]->Q (.ref s.heap.objs.size) {s with heap:=s.heap.push {cls:=.type "tuple", data:=.seq (vs++ws).toArray}})
  (hsz:vs.length+ws.length<=sizeLine):wpAny (model prog w) A (binaryOp .Add (.ref t) (.ref b)) Q E s:=by
 obtain⟨⟨cls,dd,data,sl⟩,ho,hc,n,hd⟩:=id ht;obtain⟨⟨cls2,dd2,data2,sl2⟩,ho2,hc2,n2,hd2⟩:=id hb;simp only at hc hd hc2 hd2;subst hc hd hc2 hd2;have e:vs.toArray++ws.toArray=(vs++ws).toArray:=by simp
 by_cases hw:ws=[]
 ·exact concat_meets ⟨_,ho,rfl⟩ ⟨_,ho2,rfl⟩ noFill_tuple_add seq_tuple_add PySem.F.slot_tuple_add PySem.F.entry_tuple_add (PySem.F.args_tuple_add_2 _ _)
   (tuple_addW1 t b vs.toArray ws.toArray n n2 dd dd2 sl sl2 (by simpa using hv) (by simp[hw])) ⟨ho,ho2,h1 hw⟩
 ·refine concat_meets ⟨_,ho,rfl⟩ ⟨_,ho2,rfl⟩ noFill_tuple_add seq_tuple_add PySem.F.slot_tuple_add PySem.F.entry_tuple_add (PySem.F.args_tuple_add_2 _ _)
   (tuple_addW2 t b vs.toArray ws.toArray n n2 dd dd2 sl sl2 (by simpa using hv) (by simpa using hw) (by grind)) ⟨ho,ho2,?_⟩
  rw[e];exact h2 hw
def sIx(n d:Nat):Option Int->Nat
 |none=>d
 |some v=>if v<0 then(v+(n:Int)).toNat else min v.toNat n
theorem sIx_none(n d:Nat):sIx n d none=d:=rfl
theorem sIx_nat(n d k:Nat):sIx n d (some (k:Int))=min k n:=by
 show(if(k:Int)<0 then((k:Int)+(n:Int)).toNat else min (k:Int).toNat n)=min k n
 grind
theorem z0e(n d:Nat)(hd:d<=n)(o:Option Int):sIx n d o<=n:=by
 cases o with
 |none=>exact hd
 |some v=>
  show(if v<0 then(v+(n:Int)).toNat else min v.toNat n)<=n
  grind
theorem x6h(v:Int)(n d:Nat):(if v<0 then max (v+(n:Int)) 0 else min v (n:Int))=((sIx n d (some v):Nat):Int):=by
 show(if v<0 then max (v+(n:Int)) 0 else min v (n:Int))=(((if v<0 then(v+(n:Int)).toNat else min v.toNat n):Nat):Int)
 grind
theorem x7p(lo hi:Option Int)(n:Nat):Builtin.Slice.sliceAdjust lo hi 1 (n:Int)=(((sIx n 0 lo:Nat):Int),((sIx n n hi:Nat):Int)):=by
 have h1:¬((1:Int)<0):=by omega
 unfold Builtin.Slice.sliceAdjust;simp only[h1,if_false];refine Prod.ext ?_ ?_
 ·cases lo with
  |none=>rfl
  |some v=>exact x6h v n 0
 ·cases hi with
  |none=>rfl
  |some v=>exact x6h v n n
theorem x7q(i j:Nat):Builtin.Slice.slicePlaces (i:Int) (j:Int) 1=j-i:=by
 unfold Builtin.Slice.slicePlaces
 grind
theorem x7r{v:Value}{o:Option Int}{Q:Option Int->Shared->Prop}(p:IsPart v o)(h:Q o s):wpAny (model prog w) A (Builtin.Slice.slicePartIndex v) Q E s:=by
 cases p with
 |none=>exact slicePart_none h
 |int i t=>exact slicePart_int h
theorem q6q{sl:Addr}{vl vu:Value}{lo hi:Option Int}{n:Nat}{Q:Int×Int×Nat->Shared->Prop}(hs:s.heap.IsSliceOf sl vl vu .none)(pl:IsPart vl lo)(pu:IsPart vu hi)
  (h:Q (((sIx n 0 lo:Nat):Int),1,sIx n n hi-sIx n 0 lo) s):wpAny (model prog w) A (Builtin.Slice.sliceApplied (.ref sl) (pure (n:Int))) Q E s:=by
 obtain⟨os,hos,hcs,hds⟩:=id hs;unfold Builtin.Slice.sliceApplied Builtin.Slice.sliceFields;refine wpAny_bind (wpAny_bind (wpAny_field hos hds (x:=vl) rfl (wpAny_bind (wpAny_field hos hds (x:=vu) rfl (wpAny_bind (wpAny_field hos hds (x:=.none) rfl (wpAny_pure ?_)))))));refine wpAny_bind (slicePart_none ?_);show wpAny _ _ (if((1:Int)==0)=true then _ else _) _ _ s;rw[if_neg (by decide)]
 grind [wpAny_bind,x7r,wpAny_pure,x7p,x7q]
theorem y2g(xs:Array Value)(i k:Nat):((List.range k).filterMap fun(m:Nat)=>xs[((i:Int)+(m:Int)*1).toNat]?).toArray=((xs.toList.drop i).take k).toArray:=by
 have e:(fun(m:Nat)=>xs[((i:Int)+(m:Int)*1).toNat]?)=fun m=>xs[i+m]?:=by
  grind
 rw[e];have:=pick_run xs i k;rw[List.filterMap_map]at this;have e2:((fun x=>xs[x]?) ∘ fun x=>i+x)=fun m=>xs[i+m]?:=rfl
 grind
theorem getItem_tuple_cut{t sl:Addr}{items:Array Value}{vl vu:Value}{lo hi:Option Int}{Q:Value->Shared->Prop}(ht:IsTup s.heap t items)(hs:s.heap.IsSliceOf sl vl vu .none)(pl:IsPart vl lo)(pu:IsPart vu hi)
  (hw:¬(sIx items.size 0 lo=0/\sIx items.size items.size hi=items.size))
  (h:Q (.ref s.heap.objs.size) {s with heap:=s.heap.push {cls:=.type "tuple", data:=.seq ((items.toList.drop (sIx items.size 0 lo)).take (sIx items.size items.size hi-sIx items.size 0 lo)).toArray}})
  (hsz:items.size<=sizeLine):wpAny (model prog w) A (getItem (.ref t) (.ref sl)) Q E s:=by
 have htake:sizeOk (.seq ((items.toList.drop (sIx items.size 0 lo)).take (sIx items.size items.size hi-sIx items.size 0 lo)).toArray):=by
  show((items.toList.drop (sIx items.size 0 lo)).take (sIx items.size items.size hi-sIx items.size 0 lo)).toArray.size<=sizeLine
  grind
 have hj:sIx items.size items.size hi<=items.size:=z0e _ _ (w0b _) hi;obtain⟨os,hos,hcs,hds⟩:=id hs;have hTs:s.TypeIs (.ref sl) "slice":=⟨os,hos,hcs⟩;unfold getItem;try with_reducible refine wpAny_holding ?_
 first|refine wpAny_bind (wpAny_pure ?_)|skip
 refine wpAny_bind (wpAny_sequenceKey ht.typeIs (by decide) ?_)
 refine wpAny_bind (wpAny_callSpecial?_slot (name:=Str.ofString "__getitem__") ht.typeIs PyProof.Rows.slot_tuple_getitem
  (wpAny_call_entry PyProof.Rows.slot_tuple_getitem ht.typeIs entry_tuple_getitem ?_ (args_tuple_getitem _ _)))
 show wpAny _ _ (Builtin.Tuple.tupleItemsOf (.ref t) >>= _) _ _ s;refine wpAny_bind (tupleItemsOf_ ht ?_);refine wpAny_bind (wpAny_typeOf hTs ?_);rw[if_pos (by decide)];refine wpAny_bind (q6q hs pl pu ?_)
 have hno:¬((((sIx items.size 0 lo:Nat):Int)==0&&(1:Int)==1&&(sIx items.size items.size hi-sIx items.size 0 lo)==items.size)=true):=by
  grind
 show wpAny _ _ (if(((sIx items.size 0 lo:Nat):Int)==0&&(1:Int)==1&&(sIx items.size items.size hi-sIx items.size 0 lo)==items.size)=true then _ else _) _ _ s;rw[if_neg hno,y2g]
 first
  |exact wpAny_bind (m:=Builtin.Tuple.tupleExact _) (wpAny_newObj_type (wpAny_pure ⟨_,rfl,wpAny_pure h⟩) htake)
  |exact wpAny_bind (m:=Builtin.Tuple.tupleExact _) (wpAny_newObj_type (wpAny_bind (wpAny_pure (wpAny_pure ⟨_,rfl,wpAny_pure h⟩))) htake)
  |exact wpAny_bind (wpAny_bind (m:=Builtin.Tuple.tupleExact _) (wpAny_newObj_type (wpAny_pure (wpAny_pure ⟨_,rfl,wpAny_pure h⟩)) htake))
  |exact wpAny_bind (wpAny_bind (m:=Builtin.Tuple.tupleExact _) (wpAny_newObj_type (wpAny_pure ⟨_,rfl,wpAny_pure h⟩) htake))
end
end HT
namespace L2
open PySem PySem.Spec PyProof.Rows
variable{A:Around}{X:Cx}{xs:List V}{us:List Value}{n:Nat}{s:Shared}{α:Type}{x:V}{v:Value}
abbrev TO:=St->Hp->(Option Int->Hp->Prop)->Prop
def PO(X:Cx)(e:Option Expr)(t:TO):Prop:=
 ∀(pins:List (Addr×Obj))(s:Shared)(σ:St)(H:Hp)(Q:Option Int->Hp->Prop),Inv X pins σ H s->t σ H Q ->
  wpAny (model X.prog X.w) X.A (evalPart e X.env) (fun u s'=>∃o H',Inv X pins σ H' s'/\IsPart u o/\Q o H') X.xe s
def tNoPart:TO:=fun _ H Q=>Q none H
def tPart(t:TE):TO:=fun σ H Q=>t σ H fun x H1=>∃i,x=.int i/\Q (some i) H1
section
variable{e:Expr}{te:TE}{lo hi:Option Expr}{tl th:TO}{pos p2:Pos}
theorem y54:PO X none tNoPart:=by
 intro pins s σ H Q I h;rw[evalPart_none];exact wpAny_pure ⟨none,H,I,.none,h⟩
theorem y55(h:PE X e te):PO X (some e) (tPart te):=by
 intro pins s σ H Q I hw;rw[evalPart_some];refine thn (h pins s σ H _ I hw) fun u s1 ⟨x,H1,I1,r1,q1⟩=>?_
 obtain⟨i,rfl,q⟩:=q1;obtain⟨t,rfl⟩:=r1;exact⟨some i,H1,I1,.int i t,q⟩
def SlR(X:Cx)(r:V->Option Int->Option Int->Hp->VK->Prop):Prop:=
 ∀(pins:List (Addr×Obj))(s:Shared)(σ:St)(H:Hp)(x:V)(v vl vu:Value)(lo hi:Option Int)(sl:Addr)(Q:VK),Inv X pins σ H s->RelV x v->s.heap.IsSliceOf sl vl vu .none->IsPart vl lo->IsPart vu hi->r x lo hi H Q ->
  ∃T id,typeLookup (.type T) "__getitem__"=pure (some (.builtin id))/\s.TypeIs v T/\wpAny (model X.prog X.w) X.A (getItem v (.ref sl)) (EP X pins σ Q) X.xe s
theorem SlR.or{r r':V->Option Int->Option Int->Hp->VK->Prop}(h:SlR X r)(h':SlR X r'):SlR X (fun x lo hi H Q=>r x lo hi H Q\/r' x lo hi H Q):=by
 intro pins s σ H x v vl vu lo hi sl Q I rx hs pl pu q;rcases q with q|q
 ·exact h pins s σ H x v vl vu lo hi sl Q I rx hs pl pu q
 ·exact h' pins s σ H x v vl vu lo hi sl Q I rx hs pl pu q
def tSl(r:V->Option Int->Option Int->Hp->VK->Prop)(te:TE)(tl th:TO):TE:=fun σ H Q=>te σ H fun x H1=>tl σ H1 fun l H2=>th σ H2 fun u H3=>r x l u H3 Q
theorem y2h{r:V->Option Int->Option Int->Hp->VK->Prop}(hr:SlR X r)(he:PE X e te)(hl:PO X lo tl)(hu:PO X hi th):PE X (.Subscript e (.Slice lo hi none p2) pos) (tSl r te tl th):=by
 intro pins s σ H Q I h;refine Subscript_ (thn (he pins s σ H _ I h) fun v s1 ⟨x,H1,I1,r1,q1⟩=>?_)
 refine wpAny_Slice (thn (hl pins s1 σ H1 _ I1 q1) fun vl s2 ⟨l,H2,I2,pl,q2⟩=>thn (hu pins s2 σ H2 _ I2 q2) fun vu s3 ⟨u,H3,I3,pu,q3⟩=>?_)
 rw[evalPart_none];refine wpAny_pure ?_;have I4:Inv X pins σ H3 {s3 with heap:=s3.heap.push {cls:=.type "slice", data:=.fields #[vl,vu,.none]}}:=I3.kept (t':=s3.toks) fun b ob q=>Heap.get?_push_of_some _ q
 obtain⟨T,id,hT,ht,hg⟩:=hr pins {s3 with heap:=s3.heap.push {cls:=.type "slice", data:=.fields #[vl,vu,.none]}} σ H3 x v vl vu l u s3.heap.objs.size Q I4 r1 (Heap.IsSliceOf.new ..) pl pu q3;show wpAny (model X.prog X.w) X.A (subscriptTail e (.Slice lo hi none p2) v (.ref s3.heap.objs.size)) (EP X pins σ Q) X.xe {s3 with heap:=s3.heap.push {cls:=.type "slice", data:=.fields #[vl,vu,.none]}};exact tail_any (ops:=[.ref s3.heap.objs.size,v]) ht hT hg (by with_unfolding_all rfl)
def cutV(xs:List V)(lo hi:Option Int):List V:=(xs.drop (HT.sIx xs.length 0 lo)).take (HT.sIx xs.length xs.length hi-HT.sIx xs.length 0 lo)
theorem q9y(xs:List V)(lo hi:Option Int):(cutV xs lo hi).length<=xs.length:=by
 grind [cutV]
def rSlT(K:PySem.W.Frag):V->Option Int->Option Int->Hp->VK->Prop:=fun x lo hi H Q=>∃a xs,x=.ref a/\SqT K H a xs /\
 ¬(HT.sIx xs.length 0 lo=0/\HT.sIx xs.length xs.length hi=xs.length)/\∀p,H p=none->Q (.ref p) (upd H p (.tup (cutV xs lo hi)))
theorem z0f:SlR X (rSlT X.K):=by
 intro pins s σ H x v vl vu lo hi sl Q I rx hs pl pu h;obtain⟨a,xs,rfl,hx,hw,q⟩:=h;cases rx;obtain⟨its,r,ht,hz⟩:=I.tuple hx;have hlen:its.toArray.size=xs.length:=by rw[w1z];exact r.length.symm
 refine⟨"tuple", _,PyProof.Rows.slot_tuple_getitem.lookup,ht.typeIs,?_⟩;refine HT.getItem_tuple_cut ht hs pl pu (by rw[hlen];exact hw) ?_ (by rw[hlen];exact hz);rw[hlen];refine⟨.ref s.heap.objs.size,_,I.laid (t':=s.toks) (o:=.tup (cutV xs lo hi)) (fun b ob q=>Heap.get?_push_of_some _ q) (w0b _) ?_,rfl,q _ (I.hok.fresh (w0b _))⟩
 exact⟨w0v (q9y xs lo hi) hz,_,(r.drop (HT.sIx xs.length 0 lo)).take (HT.sIx xs.length xs.length hi-HT.sIx xs.length 0 lo),IsTup.new _ _,_,Heap.get?_push_size _ rfl,rfl⟩
def rCatT(K:PySem.W.Frag):R2:=fun x y H Q=>∃a b xs ys,x=.ref a/\y=.ref b/\SqT K H a xs/\SqT K H b ys/\xs≠[]/\xs.length+ys.length<=sizeLine /\
 (ys=[]->Q (.ref a) H)/\(ys≠[]->∀p,H p=none->Q (.ref p) (upd H p (.tup (xs++ys))))
theorem Vals.nil_iff(r:Vals xs us):us=[]↔xs=[]:=by
 cases r with
 |nil=>simp
 |cons _ _=>simp
theorem op_catT:OpR X (binaryOp .Add) (rCatT X.K):=by
 intro pins s σ H x y v u Q I rx ry h;obtain⟨a,b,xs,ys,rfl,rfl,ha,hb,hx,hz,q1,q2⟩:=h;cases rx;cases ry;obtain⟨its,r1,p1,_⟩:=I.tuple ha;obtain⟨its2,r2,p2,_⟩:=I.tuple hb;refine HT.cat_tup p1 p2 (fun z=>hx (r1.nil_iff.mp z)) (fun z=>⟨.ref a,H,I,rfl,q1 (r2.nil_iff.mp z)⟩) (fun z=>?_) (by grind [Vals.length])
 refine⟨.ref s.heap.objs.size,_,I.laid (t':=s.toks) (o:=.tup (xs++ys)) (fun b ob q=>Heap.get?_push_of_some _ q) (w0b _) ?_,rfl,q2 (fun w=>z (r2.nil_iff.mpr w)) _ (I.hok.fresh (w0b _))⟩
 exact⟨by grind,_,r1.append r2,IsTup.new _ _,_,Heap.get?_push_size _ rfl,rfl⟩
end
def ixN(n:Nat)(i:Int):Option Nat:=if 0<=i then(if i<n then some i.toNat else none)else if -(n:Int)<=i then some (i+n).toNat else none
def atI(xs:List α)(i:Int):Option α:=(ixN xs.length i).bind fun j=>xs[j]?
theorem y56{i:Int}{j:Nat}(h:ixN n i=some j):seqIndex? i n=some j/\j<n/\-(n:Int)<=i/\i<n:=by
 unfold ixN at h
 by_cases h0:0<=i
 ·rw[if_pos h0]at h
  by_cases h1:i<n
  ·rw[if_pos h1]at h
   grind [seqIndex_of]
  grind
 ·rw[if_neg h0]at h
  by_cases h1:-(n:Int)<=i
  ·rw[if_pos h1]at h
   grind [seqIndex_neg]
  grind
theorem x1s{xs:List α}{i:Int}{v:α}(h:atI xs i=some v):∃j,seqIndex? i xs.length=some j/\xs[j]?=some v/\j<xs.length/\-(xs.length:Int)<=i/\i<xs.length:=by
 grind [atI,ixN,y56]
theorem q5f{xs:List α}{j:Nat}{v:α}(h:xs[j]?=some v):atI xs (j:Int)=some v:=by
 have hj:j<xs.length:=(w0n.mp h).1
 simp_all [ixN,atI]
def PlainIx(b:Expr):Prop:=∀o i,subscripted b false o i=operate [o,i] (getItem o i)
def IxR(X:Cx)(r:R2):Prop:=
 ∀(value slice:Expr)(pins:List (Addr×Obj))(s:Shared)(σ:St)(H:Hp)(x y:V)(v u:Value)(Q:VK),Inv X pins σ H s->RelV x v->RelV y u->r x y H Q ->
  subscripted slice false v u=operate [v,u] (getItem v u)->wpAny (model X.prog X.w) X.A (subscriptTail value slice v u) (EP X pins σ Q) X.xe s
def MtR(X:Cx)(id:String)(r:V->List V->Hp->VK->Prop):Prop:=
 ∀(pins:List (Addr×Obj))(s:Shared)(σ:St)(H:Hp)(x:V)(xs:List V)(v:Value)(us:List Value)(Q:VK),Inv X pins σ H s->RelV x v->Vals xs us->r x xs H Q ->
  wpAny (model X.prog X.w) X.A (call (.builtin id) (v::us)) (EP X pins σ Q) X.xe s
section
variable{a b:Expr}{ta tb:TE}{pos:Pos}
theorem IxR.or{r r':R2}(h:IxR X r)(h':IxR X r'):IxR X (fun x y H Q=>r x y H Q\/r' x y H Q):=by
 intro value slice pins s σ H x y v u Q I rx ry q hs;rcases q with q|q
 ·exact h value slice pins s σ H x y v u Q I rx ry q hs
 ·exact h' value slice pins s σ H x y v u Q I rx ry q hs
theorem x3r{r:R2}(hr:IxR X r)(ha:PE X a ta)(hb:PE X b tb)(hs:PlainIx b):PE X (.Subscript a b pos) (tOp r ta tb):=by
 intro pins s σ H Q I h;exact Subscript_ (binT ha hb I h fun v u s2 x y H2 I2 rx ry q=>hr a b pins s2 σ H2 x y v u Q I2 rx ry q (hs _ _))
def rIxL(K:PySem.W.Frag):R2:=fun x y H Q=>∃p xs i v,x=.ref p/\y=.int i/\SqL K H p xs/\atI xs i=some v/\Q v H
def rIxT(K:PySem.W.Frag):R2:=fun x y H Q=>∃p xs i v,x=.ref p/\y=.int i/\SqT K H p xs/\atI xs i=some v/\Q v H
def rIxS:R2:=fun x y H Q=>∃z i c,x=.str z/\y=.int i/\z.length<=sizeLine/\atI z.cps.toList i=some c/\Q (.str ⟨#[c]⟩) H
theorem ix_list:IxR X (rIxL X.K):=by
 intro value slice pins s σ H x y v u Q I rx ry h hs;obtain⟨p,xs,i,z,rfl,rfl,hq,he,q⟩:=h;cases rx;obtain⟨t,rfl⟩:=ry;obtain⟨its,r,pl,hz⟩:=I.list hq;obtain⟨j,h1,h2,h3,h4,h5⟩:=x1s he;obtain⟨w,ew,rw'⟩:=r.get h2;have hl:=r.length;have hn:=line63;have fin:EP X pins σ Q w s:=⟨z,H,I,rw',q⟩
 by_cases h0:0<=i
 ·have hj:i.toNat=j:=by
   grind [seqIndex_of]
  exact item_listR pl.isList h0 (by omega) (by rw[hj];simpa using ew) fin hs
 ·have hj:(i+(its.toArray.size:Int)).toNat=j:=by
   grind [seqIndex_neg]
  exact subscriptTail_builtinR (x:=w) pl.isList.typeIs slot_list_getitem.lookup
   (wpAny_getItem_list_neg (Q:=fun r s'=>r=w/\EP X pins σ Q r s') pl.isList (by omega) (by grind) (by omega) (by rw[hj];simpa using ew) ⟨rfl,fin⟩) hs
theorem ix_tup:IxR X (rIxT X.K):=by
 intro value slice pins s σ H x y v u Q I rx ry h hs;obtain⟨p,xs,i,z,rfl,rfl,hq,he,q⟩:=h;cases rx;obtain⟨t,rfl⟩:=ry;obtain⟨its,r,pl,hz⟩:=I.tuple hq;obtain⟨j,h1,h2,h3,h4,h5⟩:=x1s he;obtain⟨w,ew,rw'⟩:=r.get h2;have hl:=r.length;have hn:=line63;have fin:EP X pins σ Q w s:=⟨z,H,I,rw',q⟩
 exact subscriptTail_builtinR (x:=w) pl.typeIs slot_tuple_getitem.lookup
  (getItem_tuple (j:=j) (Q:=fun r s'=>r=w/\EP X pins σ Q r s') pl (by omega) (by omega) (by grind) (by simpa using ew) ⟨rfl,fin⟩) hs
theorem z0g:IxR X rIxS:=by
 intro value slice pins s σ H x y v u Q I rx ry h hs;obtain⟨z,i,c,rfl,rfl,hz,he,q⟩:=h;obtain⟨t,rfl⟩:=rx;obtain⟨t',rfl⟩:=ry;obtain⟨j,h1,h2,h3,h4,h5⟩:=x1s he;have hl:z.cps.toList.length=z.length:=by simp[Str.length]
 rw[hl]at h1 h4 h5;have hn:=line63
 exact tail_any (typeIs_str s z t) slot_str_getitem.lookup (getItem_str (c:=c) (by
  grind) (by rw[h1];simpa using h2) ⟨.str ⟨#[c]⟩,H,I.tok _,⟨_,rfl⟩,q⟩) hs
def rIx(K:PySem.W.Frag):R2:=fun x y H Q=>rIxL K x y H Q\/rIxT K x y H Q\/rIxS x y H Q
theorem x82:IxR X (rIx X.K):=ix_list.or (ix_tup.or z0g)
theorem x39(lo hi:Option Int)(n:Nat):(sliceBounds lo hi none n).1=((HT.sIx n 0 lo:Nat):Int)/\(sliceBounds lo hi none n).2.1=((HT.sIx n n hi:Nat):Int)/\(sliceBounds lo hi none n).2.2=1:=by
 refine⟨?_,?_,rfl⟩
 ·cases lo with
  |none=>simp[sliceBounds,HT.sIx]
  |some i=>
   simp only[sliceBounds,HT.sIx,Option.getD_none,show(1:Int)>0 by decide,if_true]
   grind
 ·cases hi with
  |none=>simp[sliceBounds,HT.sIx]
  |some i=>
   simp only[sliceBounds,HT.sIx,Option.getD_none,show(1:Int)>0 by decide,if_true]
   grind
theorem x3d(its:List Value)(lo hi:Option Int):slicePick its.toArray lo hi none=((its.drop (HT.sIx its.length 0 lo)).take (HT.sIx its.length its.length hi-HT.sIx its.length 0 lo)).toArray:=by
 obtain⟨h1,h2,h3⟩:=x39 lo hi its.toArray.size;unfold slicePick;rw[h1,h2,h3];simp only[sliceRange_one,pick_run,w1z]<;>rfl
def rSlL(K:PySem.W.Frag):V->Option Int->Option Int->Hp->VK->Prop:=fun x lo hi H Q=>∃a xs,x=.ref a/\SqL K H a xs/\∀p,H p=none->Q (.ref p) (upd H p (.lst (cutV xs lo hi)))
theorem sl_list:SlR X (rSlL X.K):=by
 intro pins s σ H x v vl vu lo hi sl Q I rx hs pl pu h;obtain⟨a,xs,rfl,hx,q⟩:=h;cases rx;obtain⟨its,r,ht,hz⟩:=I.list hx;have hlen:=r.length;refine⟨"list", _,slot_list_getitem.lookup,ht.isList.typeIs,?_⟩;refine wpAny_getItem_list_slice ht.isList hs pl pu .none (by simp) ?_ (by grind);rw[x3d,<- hlen];refine⟨.ref s.heap.objs.size,_,I.laid (t':=s.toks) (o:=.lst (cutV xs lo hi)) (fun b ob q=>Heap.get?_push_of_some _ q) (w0b _) ?_,rfl,q _ (I.hok.fresh (w0b _))⟩
 exact⟨w0v (q9y xs lo hi) hz,_,0,(r.drop (HT.sIx xs.length 0 lo)).take (HT.sIx xs.length xs.length hi-HT.sIx xs.length 0 lo),Heap.get?_push_size _ rfl⟩
def flatV:V->Bool
 |.non=>true
 |.bl _=>true
 |.int _=>true
 |.str _=>true
 |_=>false
def eqV:V->V->Bool
 |.non,.non=>true
 |.bl a,.bl b=>a==b
 |.bl a,.int b=>(if a then 1 else 0)==b
 |.int a,.bl b=>a==(if b then 1 else 0)
 |.int a,.int b=>a==b
 |.str a,.str b=>a==b
 |_,_=>false
theorem z0h{y:V}{u:Value}(ry:RelV y u)(rx:RelV x v)(fy:flatV y=true)(fx:flatV x=true):SeqAt.EqAt A s u v (eqV y x):=by
 cases y with
 |non=>
  cases ry;cases x with
  |non=>cases rx;exact SeqAt.EqAt.same _
  |bl b=>cases rx;exact SeqAt.EqAt.none_bool b
  |int b=>obtain⟨t,rfl⟩:=rx;exact SeqAt.EqAt.none_int b t
  |str b=>obtain⟨t,rfl⟩:=rx;exact SeqAt.EqAt.none_str b t
  |_=>exact absurd (show false=true from fx) w1k
 |bl a=>
  cases ry;cases x with
  |non=>cases rx;exact SeqAt.EqAt.bool_none a
  |bl b=>cases rx;exact SeqAt.EqAt.bool_bool a b
  |int b=>obtain⟨t,rfl⟩:=rx;exact SeqAt.EqAt.bool_int a b t
  |str b=>obtain⟨t,rfl⟩:=rx;exact SeqAt.EqAt.bool_str a b t
  |_=>exact absurd (show false=true from fx) w1k
 |int a=>
  obtain⟨t',rfl⟩:=ry;cases x with
  |non=>cases rx;exact SeqAt.EqAt.int_none a t'
  |bl b=>cases rx;exact SeqAt.EqAt.int_bool a t' b
  |int b=>obtain⟨t,rfl⟩:=rx;exact SeqAt.EqAt.int_int a t' b t
  |str b=>obtain⟨t,rfl⟩:=rx;exact SeqAt.EqAt.int_str a t' b t
  |_=>exact absurd (show false=true from fx) w1k
 |str a=>
  obtain⟨t',rfl⟩:=ry;cases x with
  |non=>cases rx;exact SeqAt.EqAt.str_none a t'
  |bl b=>cases rx;exact SeqAt.EqAt.str_bool a t' b
  |int b=>obtain⟨t,rfl⟩:=rx;exact SeqAt.EqAt.str_int a t' b t
  |str b=>obtain⟨t,rfl⟩:=rx;exact SeqAt.EqAt.str_str a t' b t
  |_=>exact absurd (show false=true from fx) w1k
 |_=>exact absurd (show false=true from fy) w1k
def eqU(x:V)(u:Value):Bool:=match u with
 |.none=>eqV .non x
 |.bool b=>eqV (.bl b) x
 |.int i _=>eqV (.int i) x
 |.str z _=>eqV (.str z) x
 |_=>false
theorem x83{y:V}{u:Value}(r:RelV y u)(f:flatV y=true):eqU x u=eqV y x:=by
 cases y with
 |non=>cases r;rfl
 |bl b=>cases r;rfl
 |int i=>obtain⟨t,rfl⟩:=r;rfl
 |str z=>obtain⟨t,rfl⟩:=r;rfl
 |_=>exact absurd (show false=true from f) w1k
theorem q7g:∀{xs:List V}{us:List Value},Vals xs us->xs.all flatV=true->us.any (eqU x)=xs.any fun y=>eqV y x
 |_,_,.nil,_=>rfl
 |y::xs,u::us,.cons r t,f=>by
  rw[w2t,w0p]at f;rw[w4d,w4d,x83 r f.1,q7g t f.2]
theorem q6r(rx:RelV x v)(fx:flatV x=true):∀{xs:List V}{us:List Value},Vals xs us->xs.all flatV=true->∀u∈us,SeqAt.EqAt A s u v (eqU x u)
 |_,_,.nil,_=>fun u hu=>by cases hu
 |y::xs,u::us,.cons r t,f=>fun u' hu=>by
  rw[w2t,w0p]at f;rcases w0d.mp hu with rfl|hu
  ·rw[x83 r f.1];exact z0h r rx f.1 fx
  ·exact q6r rx fx t f.2 u' hu
def inV(x:V)(xs:List V):Bool:=xs.any fun y=>eqV y x
def rIn(K:PySem.W.Frag)(neg:Bool):R2:=fun x y H Q=>∃p xs,y=.ref p/\(SqL K H p xs\/SqT K H p xs)/\flatV x=true/\xs.all flatV=true/\Q (.bl (if neg then !inV x xs else inV x xs)) H
theorem x2i:OpR X (compareOp .In) (rIn X.K false):=by
 intro pins s σ H x y v u Q I rx ry h;obtain⟨p,xs,rfl,hq,fx,fs,q⟩:=h;cases ry;rcases hq with hq|hq
 ·obtain⟨its,r,pl,hz⟩:=I.list hq;refine SeqAt.in_listAt (eqU x) pl.isList (fun w hw=>q6r rx fx r fs w (by simpa using hw)) ⟨.bl _,H,I,rfl,?_⟩
  rw[show its.toArray.any (eqU x)=its.any (eqU x) by simp,q7g r fs];exact q
 ·obtain⟨its,r,pl,hz⟩:=I.tuple hq;refine SeqAt.in_tupleAt (eqU x) pl (fun w hw=>q6r rx fx r fs w (by simpa using hw)) ⟨.bl _,H,I,rfl,?_⟩
  rw[show its.toArray.any (eqU x)=its.any (eqU x) by simp,q7g r fs];exact q
theorem x4a:OpR X (compareOp .NotIn) (rIn X.K true):=by
 intro pins s σ H x y v u Q I rx ry h;obtain⟨p,xs,rfl,hq,fx,fs,q⟩:=h;cases ry;rcases hq with hq|hq
 ·obtain⟨its,r,pl,hz⟩:=I.list hq;refine SeqAt.notIn_listAt (eqU x) pl.isList (fun w hw=>q6r rx fx r fs w (by simpa using hw)) ⟨.bl _,H,I,rfl,?_⟩
  rw[show its.toArray.any (eqU x)=its.any (eqU x) by simp,q7g r fs];exact q
 ·obtain⟨its,r,pl,hz⟩:=I.tuple hq;refine SeqAt.notIn_tupleAt (eqU x) pl (fun w hw=>q6r rx fx r fs w (by simpa using hw)) ⟨.bl _,H,I,rfl,?_⟩
  rw[show its.toArray.any (eqU x)=its.any (eqU x) by simp,q7g r fs];exact q
theorem x3e:CallR X (.type "tuple") (fun xs H Q=>∃p ys,xs=[.ref p]/\((SqL X.K H p ys/\∀l,H l=none->Q (.ref l) (upd H l (.tup ys)))\/(SqT X.K H p ys/\Q (.ref p) H))):=by
 intro pins s σ H xs us Q I r h;obtain⟨p,ys,rfl,h⟩:=h;obtain⟨u,rfl,rx⟩:=vals1 r;cases rx;rcases h with⟨hq,q⟩|⟨hq,q⟩
 ·obtain⟨its,r',pl,hz⟩:=I.list hq;have hlen:=r'.length;refine call_tuple_list pl.isList (fun h' kp=>?_) (by grind)
  have I1:Inv X pins σ H {s with heap:=h'}:=I.kept (t':=s.toks) kp
  have I2:Inv X pins σ (upd H h'.objs.size (.tup ys)) {s with heap:=h'.push {cls:=.type "tuple", data:=.seq its.toArray}}:=
   I1.laid (t':=s.toks) (fun b o e=>Heap.get?_push_of_some _ e) (w0b _) (show ObjOk X.prog X.w _ _ _ (.tup ys)from⟨hz,its,r',IsTup.new _ _,_,Heap.get?_push_size _ rfl,rfl⟩)
  exact⟨.ref h'.objs.size,_,I2,rfl,q _ (I1.hok.fresh (w0b _))⟩
 ·obtain⟨its,r',pl,hz⟩:=I.tuple hq;exact call_tuple_same pl ⟨.ref p,H,I,rfl,q⟩
def tyV(K:PySem.W.Frag)(T:String)(x:V)(H:Hp):Prop:=match x with
 |.str _=>T="str"
 |.int _=>T="int"
 |.ref p=>(T="list" /\ ∃xs,SqL K H p xs)\/(T="tuple" /\ ∃o,K.lookup p=some o/\o.cls=.type "tuple" /\ o.dict=none) \/
   (T="dict" /\ ((∃kvs,H p=some (.dK kvs))\/∃sh kvs kas,H p=some (.dT sh kvs kas)))\/(T="set" /\ ∃S n,H p=some (.set S n))
 |_=>False
theorem x84{pins:List (Addr×Obj)}{σ:St}{H:Hp}{T:String}(I:Inv X pins σ H s)(r:RelV x v)(ty:tyV X.K T x H):
  s.TypeIs v T/\∀a,v=.ref a->∃ob,s.heap.get? a=some ob/\ob.dict=none:=by
 cases x with
 |str z=>
  obtain⟨t,rfl⟩:=r;cases(show T="str" from ty)
  grind [typeIs_str]
 |int i=>
  obtain⟨t,rfl⟩:=r;cases(show T="int" from ty)
  grind [typeIs_int]
 |ref p=>
  cases r;rcases ty with⟨rfl,xs,hq⟩|⟨rfl,o,hk,hc,hd⟩|⟨rfl,hk⟩|⟨rfl,S,n,hk⟩
  ·obtain⟨its,_,pl,_⟩:=I.list hq;refine⟨pl.isList.typeIs,fun a e=>?_⟩
   cases e;obtain⟨o,n,e,c,hd,_⟩:=pl;exact⟨o,e,hd⟩
  ·refine⟨⟨o,I.kIn p o hk,hc⟩,fun a e=>?_⟩
   cases e;exact⟨o,I.kIn _ o hk,hd⟩
  ·have z:∃o,s.heap.get? p=some o/\o.ExactDict:=by
    rcases hk with⟨kvs,hk⟩|⟨sh,kvs,kas,hk⟩
    ·obtain⟨_,_,_,_,o,_,_,e,ex,_⟩:=I.hok p _ hk;exact⟨o,e,ex⟩
    ·obtain⟨_,_,_,_,_,o,_,_,e,ex,_⟩:=I.hok p _ hk;exact⟨o,e,ex⟩
   obtain⟨o,e,ex⟩:=z;refine⟨⟨o,e,ex.1⟩,fun a e2=>?_⟩
   cases e2;exact⟨o,e,ex.2.1⟩
  ·obtain⟨o,_,_,_,e,ex,_⟩:=I.hok p _ hk;refine⟨⟨o,e,ex.1⟩,fun a e2=>?_⟩
   cases e2;exact⟨o,e,ex.2.1⟩
 |_=>exact False.elim ty
def tBM0(K:PySem.W.Frag)(T:String)(r:V->List V->Hp->VK->Prop)(to:TE):TE:=fun σ H Q=>to σ H fun x H1=>tyV K T x H1/\r x [] H1 Q
def tBM(K:PySem.W.Frag)(T:String)(r:V->List V->Hp->VK->Prop)(to:TE)(t:TA):TE:=fun σ H Q=>to σ H fun x H1=>tyV K T x H1/\t σ H1 fun xs H2=>r x xs H2 Q
variable{o e:Expr}{es:List Expr}{to:TE}{t:TA}{name:Str}{apos cpos:Pos}{T id:String}{r:V->List V->Hp->VK->Prop}
theorem z0i(pa:PlainAttrs T)(slot:Slot T name id)(hty:typeOf (.builtin id)=pure (.type "method_descriptor"))(hm:MtR X id r)(ho:PE X o to)
  (hbase:attributeBase o name X.env (eval o X.env)=eval o X.env:=by rfl)(hline:(apos.endLine==cpos.line)=true:=by rfl):PE X (.Call (.Attribute o name apos) [] [] cpos) (tBM0 X.K T r to):=by
 intro pins s σ H Q I h;refine wpAny_Call_method0_late hbase hline (thn (ho pins s σ H _ I h) fun v s1 ⟨x,H1,I1,r1,ty,q1⟩=>?_)
 obtain⟨h1,h2⟩:=x84 I1 r1 ty;exact⟨T,id,pa,slot,hty,h1,h2,Calls.callWith_builtin rfl (PySem.evalArgs_none (hm pins s1 σ H1 x [] v [] Q I1 r1 .nil q1))⟩
theorem x3s(pa:PlainAttrs T)(slot:Slot T name id)(hty:typeOf (.builtin id)=pure (.type "method_descriptor"))(hm:MtR X id r)(ho:PE X o to)(ha:PA X (e::es) t)
  (hbase:attributeBase o name X.env (eval o X.env)=eval o X.env:=by rfl)
  (hfew:((backTo cpos (starEach (e::es) X.env)).all (fun x=>!x.1)&&(backToKw cpos (keywordEach [] X.env)).all (fun x=>x.1.isSome)
   && decide ((e::es).length+([]:List Keyword).length+(if([]:List Keyword).isEmpty then 0 else 1)<30))=true:=by rfl)
  (hline:(apos.endLine==cpos.line)=true:=by rfl)(hs:starEach (e::es) X.env=(false,eval e X.env)::starEach es X.env:=by rfl)(hplain:(backTo cpos (starEach es X.env)).any (·.1)=false:=by rfl):
  PE X (.Call (.Attribute o name apos) (e::es) [] cpos) (tBM X.K T r to t):=by
 intro pins s σ H Q I h;refine wpAny_Call_method_late hbase hfew hline rfl (thn (ho pins s σ H _ I h) fun v s1 ⟨x,H1,I1,r1,ty,q1⟩=>?_)
 obtain⟨h1,h2⟩:=x84 I1 r1 ty;refine⟨T,id,pa,slot,hty,h1,h2,?_⟩;have hA:=ha cpos pins s1 σ H1 _ I1 q1;rw[hs]at hA |-
 refine Calls.callWith_builtin (by grind) (Calls.evalArgs_plain ?_);exact thn hA fun us s2 ⟨vs,H2,I2,r2,q2⟩=>hm pins s2 σ H2 x vs v us Q I2 r1 r2 q2
/- xs.append(e),list.index on a module's tuple .. are MtR facts of 06m -/
end
def MtM(X:Cx)(id:String)(r:V->List V->Hp->VK->Prop):Prop:=
 ∀(pins:List (Addr×Obj))(s:Shared)(σ:St)(H:Hp)(x:V)(xs:List V)(v:Value)(us:List Value)(Q:VK),Inv X pins σ H s->RelV x v->Vals xs us->r x xs H Q ->
  wpAny (model X.prog X.w) X.A (call (.builtin id) (v::us)) (EP X pins σ Q) X.xe s
theorem Vals.one(h:Vals [x] us):∃u,us=[u]/\RelV x u:=vals1 h
theorem Vals.two{y:V}(h:Vals [x,y] us):∃u v,us=[u,v]/\RelV x u/\RelV y v:=vals2 h
theorem Vals.zero:∀{us:List Value},Vals [] us->us=[]
 |_,.nil=>rfl
theorem Vals.dropLast(h:Vals xs us):Vals xs.dropLast us.dropLast:=by
 induction h with
 |nil=>exact .nil
 |cons r t ih=>
  cases t with
  |nil=>exact .nil
  |cons q t'=>exact .cons r ih
section
variable{pins:List (Addr×Obj)}{σ:St}{H:Hp}{l b:Addr}{ys zs:List V}
theorem Inv.lset{its its':List Value}{f:Array Value->Array Value}{t':Nat}(I:Inv X pins σ H s)(hH:H l=some (.lst xs))
  (e:s.heap.get? l=some {cls:=.type "list", data:=.seq its.toArray n})(hf:f its.toArray=its'.toArray)(hv:Vals ys its')(hz:ys.length<=sizeLine):
  Inv X pins σ (upd H l (.lst ys)) {s with heap:=s.heap.update l (Obj.mapSeq f),toks:=t'}:=by
 have q:=PySem.IsL.update e f;rw[hf]at q;refine I.write (x:=l) (e:=l) (by rw[hH];exact trivial) (.inl rfl) (fun b' u hb hu=>(Heap.get?_update_other s.heap (Obj.mapSeq f) (Ne.symm hb)).trans hu) ⟨_,q⟩ ?_
 exact⟨hz,its',_,hv,q⟩
theorem Inv.lnew{its:List Value}{t':Nat}(I:Inv X pins σ H s)(hv:Vals ys its)(hz:ys.length<=sizeLine):
  Inv X pins σ (upd H s.heap.objs.size (.lst ys)) {s with heap:=s.heap.push {cls:=.type "list", data:=.seq its.toArray},toks:=t'}:=
 I.laid (fun _ _ q=>Heap.get?_push_of_some _ q) (w0b _) ⟨hz,its,0,hv,Heap.get?_push_size _ rfl⟩
theorem Inv.fresh(I:Inv X pins σ H s):H s.heap.objs.size=none:=I.hok.fresh (w0b _)
theorem Inv.lstM(I:Inv X pins σ H s)(hH:H l=some (.lst xs)):xs.length<=sizeLine/\∃(its:List Value)(n:Nat),Vals xs its/\xs.length=its.length/\s.heap.get? l=some {cls:=.type "list", data:=.seq its.toArray n}:=by
 obtain⟨z,its,n,r,e⟩:=I.hok l _ hH
 grind [Vals.length]
theorem notLongL(h:n<=sizeLine):Builtin.List.listTooLong n=false:=by
 grind [Builtin.List.listTooLong]
end
def rAppend:V->List V->Hp->VK->Prop:=fun x vs H Q=>∃l xs y,x=.ref l/\vs=[y]/\H l=some (.lst xs)/\xs.length<sizeLine/\Q .non (upd H l (.lst (xs++[y])))
theorem q8i:MtM X "list.append" rAppend:=by
 intro pins s σ H x vs v us Q I rx rv h;obtain⟨l,xs,y,rfl,rfl,hH,hz,q⟩:=h;cases rx;obtain⟨u,rfl,ru⟩:=rv.one;obtain⟨z,its,n,r,hl,e⟩:=I.lstM hH;refine call_meets F.slot_list_append ⟨_,e,rfl⟩ F.entry_list_append (F.args_list_append_2 _ _) (PySem.list_append l its.toArray n u (by grind)) ⟨e,?_⟩;refine⟨.non,_,I.lset (its':=its++[u]) hH e (by simp) (r.append (.cons ru .nil)) ?_,rfl,q⟩
 grind
def rPop:V->List V->Hp->VK->Prop:=fun x vs H Q=>∃l xs y,x=.ref l/\vs=[]/\H l=some (.lst xs)/\xs[xs.length-1]?=some y/\Q y (upd H l (.lst xs.dropLast))
theorem z0j:MtM X "list.pop" rPop:=by
 intro pins s σ H x vs v us Q I rx rv h;obtain⟨l,xs,y,rfl,rfl,hH,hy,q⟩:=h;cases rx;have hus:=rv.zero;subst hus;obtain⟨z,its,n,r,hl,e⟩:=I.lstM hH;obtain⟨u,hu,ru⟩:=r.get hy
 have hy':its.toArray[its.toArray.size-1]?=some u:=by
  grind
 refine call_meets F.slot_list_pop ⟨_,e,rfl⟩ F.entry_list_pop (F.args_list_pop_1 _) (MeetsSeq.list_pop_last l its.toArray n u hy' (by grind)) ⟨e,?_⟩;refine⟨y,_,I.lset (its':=its.dropLast) hH e ?_ r.dropLast ?_,ru,q⟩
 all_goals grind
end L2
namespace Att
open PySem PySem.W PySem.Calls PyProof.Rows
theorem x0u{P:Params}{h:Heap}:∀(ns:List Int)(vs:List Value),WellAll P h vs (ns.map WData.int)->IntsAre vs ns:=by
 intro ns
 induction ns with
 |nil=>
  intro vs w;rw[w3y]at w;cases w;exact .nil
 |cons n ns ih=>
  intro vs w;rw[w0g]at w;cases w with
  |cons a b=>
   cases a;exact .cons _ _ (ih _ b)
theorem x85{l:OpenLaw}{n:Nat}(hn:l.most=some n){P:Params}{h:Heap}{args:List WData}{vals:List Value}
  (hpre:l.row.toRowW.claim.pre args=true)(hwl:WellAll P h vals args):
  ∃a vs ns,vals=[Value.ref a]/\args=[WData.list (ns.map WData.int)]/\h.get? a=some {cls:=.type "list", data:=.seq vs.toArray}/\IntsAre vs ns/\ns.length<=n:=by
 have hsh:WShape.hasAll [] args [.list .int]=true:=(pre_splitW hpre).1;have hc:l.pre.holds [] {args:=args}=true:=(pre_splitW hpre).2;obtain⟨d,r,rfl,h1,h2⟩:=hasAllW_cons hsh;obtain rfl:=hasAllW_nil h2;obtain⟨xs,rfl,h3⟩:=hasW_list h1;obtain⟨ns,rfl⟩:=items_int h3
 have hlen:ns.length<=n:=by
  unfold OpenLaw.pre at hc
  have h4:(WTm.not (.lt (.lit (.int (n:Int))) (.len (.arg 0)))).holds [] {args:=[.list (ns.map .int)]}=true:=by
   have h4:=(holds_andW hc).1
   grind
  have h5:=condW_of h4 (w_not (w_lt w_lit (w_len_list (w_arg rfl))))
  grind
 cases hwl with
 |cons w1 w2=>
  cases w2;cases w1 with
  |list ho hall=>grind [x0u]
theorem x86(l:OpenLaw)(args:List WData):l.row.toRowW.claim.post args (.bool true) args=true:=
 postW_of (r:=l.row.toRowW) (X:=(true==true))
  (show WShape.has [] (.bool true) .bool=true by first|rfl|decide|simp[WShape.has,WShape.arms,WShape.armsAll])
  (show(WTm.eq .res (.lit (.bool true))).value [] {args:=args,res:=some (.bool true),after:=args}=some (.bool (true==true))from w_eq_bool (w_res rfl) w_lit) rfl
theorem attach_call{l:OpenLaw}{n:Nat}{q:Program}{loose:List Str}{XP:(Str->Option Value)->Heap->Prop}{YP:World->Heap->Prop}{d:DefRec}
  (hn:l.most=some n)(hdf:d.params.defaults=[])
  (call:∀(w:World)(s₀ s₁:Shared)(mg mb:Str->Option Value)(fa:Addr)(o:Obj)(pm cd doc:Value)(a:Addr)(vs:List Value)(ns:List Int),
   Ground q loose [] XP w s₀ mg mb s₁.heap->YP w s₁.heap ->
   s₁.heap.get? fa=some o->o.data=.func (docDef d.name d.params d.body d.scope pm cd doc)->s₁.heap.CodeRec cd d.name->mg d.name=some (.ref fa) ->
   s₁.heap.get? a=some {cls:=.type "list", data:=.seq vs.toArray}->IntsAre vs ns->ns.length<=n->s₁.gens=#[] ->
   codeAny (model l.prog w) callerA (.call (.ref fa) ⟨[.ref a],[]⟩) (fun r s'=>r=.ok (.ret (.bool true))/\OldK s₁.heap s'.heap/\s'.os=s₁.os/\AllBare s'.gens) s₁):
  WalkO q loose XP YP l.row.toRowW d [] (fun f vs=>PySem.call f vs):=by
 intro w s₀ s₁ mg mb G Y fa o pm cd doc dV kV ho hd hcd hD hmg hg args vals as hpre hlay hrd hwl hlo;obtain rfl:dV=.none:=Dflts.none hD hdf;obtain rfl:kV=.none:=Dflts.noKw hD;obtain⟨a,vs,ns,rfl,rfl,hobj,hints,hlen⟩:=x85 hn hpre hwl;refine enter_call (codeAny_mono (call w s₀ s₁ mg mb fa o pm cd doc a vs ns G Y ho (fd_plain hd) hcd hmg hobj hints hlen hg) fun r s' hq=>?_)
 obtain⟨rfl,h2,h3,h4⟩:=hq;exact⟨.inl ⟨.bool true,.bool true,[],rfl,fun _=>rfl,.bool true,x86 l _,fun _=>⟨List.Pairwise.nil,fun _ hm=>(nomatch hm)⟩⟩,h2,h3,h4⟩
section
variable{prog:Program}{w:World}{A:Around}{E:Value->Shared->Prop}{s:Shared}{K:Frag}
def ledger(h:Heap)(L d:Addr):List (Addr×Obj):=(List.range h.objs.size).filterMap fun a=>if a=L\/a=d then none else(h.get? a).map fun o=>(a,o)
end
end Att
namespace L2
open PySem PySem.Spec PyProof.Rows
theorem x2j:∀{vs:List Value}{ns:List Int},IntsAre vs ns->Vals (ns.map V.int) vs
 |_,_,.nil=>.nil
 |_,_,.cons n t h=>.cons ⟨t,rfl⟩ (x2j h)
def Only(H:Hp):Prop:=∀b,H b=none\/∃o xs,H b=some (.frz o (.lst xs))
theorem y2i{P:Program}{w:World}{K:PySem.W.Frag}{mg mb:Str->Option Value}{CX:CXT}{k:Nat}{fa a:Addr}{fd:FuncData}{x:Str}{sp:Sp}{s₁:Shared}{vs:List Value}{ns:List Int}
  (KX:K.In s₁.heap)(hns:s₁.heap.Ns mainGlobals mg)(hb:s₁.heap.Ns builtinsNs mb)(hbb:∀x:Str,x≠"__name__"->mb x=bootBuiltins x)(hlim:s₁.heap.NoLimit)(hg:s₁.gens=#[])
  (ha:s₁.heap.get? a=some {cls:=.type "list", data:=.seq vs.toArray})(hi:IntsAre vs ns)(hl:ns.length<=sizeLine)(hr:Room k callerA)
  (F:∀base:Heap,K.In base->base.Ns mainGlobals mg->FnOk P w K mg base CX k fa fd [x] sp)(hbind:∀(s:Shared)(u:Value),BindsTo s fd ⟨[u],[]⟩ [(x,u)])
  (hsp:∀H:Hp,Only H->SqL K H a (ns.map V.int)->sp [.ref a] H (fun v _=>v=.bl true) fun _ _ _=>False)
  (hCX:∀H e s',CX [] H s₁ (fun _ _ _=>False) e s'->False)(hNM:noMark K=true):
  codeAny (model P w) callerA (.call (.ref fa) ⟨[.ref a],[]⟩) (fun r s'=>r=.ok (.ret (.bool true))/\OldK s₁.heap s'.heap/\s'.os=s₁.os/\AllBare s'.gens) s₁:=by
 have rv:=x2j hi;have lenV:=hi.length
 have core:∀H:Hp,Only H->SqL K H a (ns.map V.int)->HOk P w H s₁.heap->(∀b,H b≠none->b=a)->(H a≠none->K.lookup a=none) ->
   codeAny (model P w) callerA (.call (.ref fa) ⟨[.ref a],[]⟩) (fun r s'=>r=.ok (.ret (.bool true))/\OldK s₁.heap s'.heap/\s'.os=s₁.os/\AllBare s'.gens) s₁:=by
  intro H hO hS hok hA hK;have base_of:∀{b:Addr}{o:Obj},s₁.heap.get? b=some o->H b=none->(hidT s₁.heap H).get? b=some o:=fun e n=>y2a e n
  have noA:∀{b:Addr}{o:Obj}{es:Array DictEntry}{ep:Nat},s₁.heap.get? b=some o->o.data=.dict es ep->H b=none:=fun {b o es ep} e d=>by
   grind
  have nsK:∀{b:Addr}{m:Str->Option Value},s₁.heap.Ns b m->(hidT s₁.heap H).Ns b m:=fun {b m} ⟨o,es,ep,e,d,r⟩=>⟨o,es,ep,base_of e (noA e d),d,r⟩
  have hKb:K.In (hidT s₁.heap H):=fun b o e=>base_of (KX b o e) (by
   grind)
  have hM:Mod K mg (hidT s₁.heap H):=⟨hKb,nsK hns,⟨mb,nsK hb,hbb⟩,let ⟨mc,h1,h2⟩:=hlim;⟨mc,nsK h1,h2⟩⟩;have e0:Env0 P w K mg (hidT s₁.heap H) callerA [] s₁ H:=⟨rfl,hM,fun b o e=>y5t e,Nat.le_of_eq (x8q _ _),trivial,fun b hb=>absurd (show b∈([]:List Addr)from hb) (by simp),hok,.of_eq hg,.vac hNM⟩
  refine codeAny_mono ((F _ hKb (nsK hns)).run callerA [] s₁ H ⟨[.ref a],[]⟩ [.ref a] [.ref a] _ _ hr e0 (hbind s₁ (.ref a)) (.cons rfl .nil) (hsp H hO hS)) fun r s' h=>?_
  cases r with
  |error e=>exact(hCX H e s' h).elim
  |ok fl=>
   cases fl with
   |next=>exact False.elim h
   |brk=>exact False.elim h
   |cont=>exact False.elim h
   |ret u=>
    obtain⟨v,H',os,bare,un,hok',r',q⟩:=h;have q':v=.bl true:=q;subst q';obtain rfl:u=Value.bool true:=r';refine⟨rfl,OldK.of_keep fun b o e=>?_,os,bare⟩
    cases q:H b with
    |none=>exact un.keep b o e q (by intro z;exact absurd (show b∈([]:List Addr)from z) (by simp)) (by simp)
    |some u=>
     rcases hO b with z|⟨ob,xs,z⟩
     ·rw[q]at z;cases z
     ·have z2:=un.frzs b ob _ z;obtain⟨e1,_⟩:=hok b _ z;obtain⟨e2,_⟩:=hok' b _ z2
      grind
 cases hk:K.lookup a with
 |some o=>
  have e:=KX a o hk;rw[ha]at e;cases e;refine core (fun _=>none) (fun _=>.inl rfl) (.inr ⟨_,vs.toArray,_,hk,rfl,rfl,rfl,by grind,by simpa using rv⟩) (fun b u z=>by grind) (fun b z=>absurd rfl z) fun z=>absurd rfl z
 |none=>
  refine core (fun b=>if b=a then some (.frz {cls:=.type "list", data:=.seq vs.toArray} (.lst (ns.map V.int)))else none) (fun b=>?_) (.inl (.inr ⟨{cls:=.type "list", data:=.seq vs.toArray},if_pos rfl⟩)) (fun b u z=>?_) (fun b z=>?_) fun _=>hk
  ·grind
  ·by_cases hb:b=a
   ·have z':=(if_pos hb).symm.trans z;cases z';subst hb;exact⟨ha,by grind,vs,_,rv,ha⟩
   grind
  grind
noncomputable abbrev KOf{K:PySem.W.Frag}{h:Heap}(_:K.In h):PySem.W.Frag:=K
theorem x6i{l:PySem.W.OpenLaw}{n k:Nat}{q:Program}{loose:List Str}{XP:(Str->Option Value)->Heap->Prop}{YP:World->Heap->Prop}{d:DefRec}{K:Params->PySem.W.Frag}{CX:World->CXT}{sp:World->Sp}{x:Str}
  (hn:l.most=some n)(hn2:n<=sizeLine)(hdf:d.params.defaults=[])(hr:Room k callerA)
  (hY:∀(w:World)(h:Heap),YP w h->(K w.params).In h)
  (F:∀(w:World)(mg:Str->Option Value)(fa:Addr)(h:Heap),(K w.params).In h->h.Ns mainGlobals mg->mg d.name=some (.ref fa) ->
   ∃fd:FuncData,(∀(s:Shared)(u:Value),BindsTo s fd ⟨[u],[]⟩ [(x,u)]) /\
    ∀base:Heap,(K w.params).In base->base.Ns mainGlobals mg->FnOk l.prog w (K w.params) mg base (CX w) k fa fd [x] (sp w))
  (hsp:∀(w:World)(H:Hp)(a:Addr)(ns:List Int),ns.length<=n->Only H->SqL (K w.params) H a (ns.map V.int)->sp w [.ref a] H (fun v _=>v=.bl true) fun _ _ _=>False)
  (hCX:∀(w:World)(H:Hp)(s:Shared)(e:Value)(s':Shared),CX w [] H s (fun _ _ _=>False) e s'->False)(hNM:∀w:World,noMark (K w.params)=true):
  PySem.W.WalkO q loose XP YP l.row.toRowW d [] (fun f vs=>PySem.call f vs):=by
 refine Att.attach_call hn hdf fun w s₀ s₁ mg mb fa o pm cd doc a vs ns G Y ho hd hcd hmg hobj hints hlen hg=>?_
 have KX:=hY w _ Y;obtain⟨fd,hb,hF⟩:=F w mg fa _ KX G.T.g hmg;exact y2i KX G.T.g G.T.b G.T.builtins G.T.nolimit hg hobj hints (w0v hlen hn2) hr hF hb (fun H hO hS=>hsp w H a ns hlen hO hS) (fun H e s'=>hCX w H s₁ e s') (hNM w)
end L2
/- THE LAST THEOREM (shape; LID, My.* are yours):
   My.Adr: a structure of the addresses that your layer names (classes, functions); My.Txt K t: a structure (Prop) of the equations over K;
   My.txt_mk : {K} {implicit addresses ..} (e1 : nsIn K mainGlobals "law" = some (some (.ref f))) (e2 : K.lookup f = some ⟨oc, od, .func (fnOf "law" "law" params body scope dV kV doc pm an cdv ct), sl⟩) (e3 : codeIn K cdv "law" = true) .. : ∃ t, My.Txt K t
set_option maxRecDepth 100000 in
set_option maxHeartbeats 0 in
theorem PySem.Challenge.cw_LID_holds : PySem.Challenge.rw_LID.Holds := by
 w_on; o_law; k_head; (case hw => w_witness2)
 k_fill
 refine L2.x6i (l := PySem.Challenge.rw_LID) (n := 63) (k := 40) (x := "script") (CX := fun w => ..) (sp := fun _ => My.sp_law) rfl (by decide) rfl ⟨rfl, by decide, by decide⟩ (fun w h Y => PySem.W.kIn_of Y) ?F ?S ?C
 case F =>
  intro w mg fa h KX G hmg
  have T : ∃ t, My.Txt (L2.KOf KX) t := by
   dsimp only [L2.KOf]                          -- K must stand as «<heap const> w.params» for k_is;refine' My.txt_mk ?e1 ?e2 ?e3 ..
   (case e1 => PySem.W.k_is)                    -- in the order: a name -> its address -> its object -> its parts
   (case e2 => PySem.W.k_is)
   ..
  obtain ⟨t, T⟩ := T;have e0 := hmg.symm.trans (mg_of KX G T.law);cases e0                                       -- fa is the law's own address;exact ⟨_, fun s u => .of_eq rfl, fun base kb nb => My.law_fn T kb nb⟩     -- if «.of_eq rfl» comes too early: refine' ⟨_, ?b, fun base kb nb => My.law_fn T kb nb⟩; exact fun s u => .of_eq rfl
 case S => exact fun w H a ns hl hO hS => ..
 case C => exact ..
(the tactic k_is has no namespace: write k_is) -/
namespace L2
open PySem PySem.Spec PyProof.Rows
variable{f:Addr}{X:Cx}{fd:FuncData}{H H':Hp}{es ifs:List Expr}{ps:List Str}{pos:Pos}{K:PySem.W.Frag}{σ:St}{x:Str}{t:TA}
def defArgs(s:Stmt):Arguments:=match s with
 |.FunctionDef _ a _ _ _ _ _ _ _ _=>a
 |_=>{posonlyargs:=[],args:=[],vararg:=none,kwonlyargs:=[],kw_defaults:=[],kwarg:=none,defaults:=[]}
def defBody(s:Stmt):List Stmt:=match s with
 |.FunctionDef _ _ b _ _ _ _ _ _ _=>b
 |_=>[]
def defScope(s:Stmt):Scope:=match s with
 |.FunctionDef _ _ _ _ _ _ sc _ _ _=>sc
 |_=>{kind:=.function,names:=[],isGenerator:=false,isCoroutine:=false}
noncomputable abbrev CX0:CXT:=fun _ _ _ _ _ _=>False
noncomputable abbrev E0:XK:=fun _ _ _=>False
structure Fun(K:PySem.W.Frag)(x qual:Str)(st:Stmt)(f:Addr)(fd:FuncData):Prop where
 ex:∃(oc:Value)(od:Option Addr)(kV doc pm:Value)(an:Option Addr)(cdv ct:Value)(osl:Array (Option Value)),
  fd=PySem.W.fnOf x qual (defArgs st) (defBody st) (defScope st) .none kV doc pm an cdv ct/\K.lookup f=some ⟨oc,od,.func fd,osl⟩/\PySem.W.codeIn K cdv qual=true
 kp:keepIn K (.ref f)=true
section
variable{P:Program}{w:World}{mg:Str->Option Value}{base:Heap}
theorem Fun.binds{qual:Str}{st:Stmt}{ps:List Str}(F:Fun K x qual st f fd)
  (h:∀(kV doc pm:Value)(an:Option Addr)(cdv ct:Value)(us:List Value),us.length=ps.length->bindArgs (PySem.W.fnOf x qual (defArgs st) (defBody st) (defScope st) .none kV doc pm an cdv ct) ⟨us,[]⟩=pure (ps.zip us)):Binds K fd ps []:=by
 grind [ex,Binds.all]
theorem q0k{qual:Str}{st:Stmt}{oc:Value}{od an:Option Addr}{osl:Array (Option Value)}{kV doc pm cdv ct:Value}(l:K.lookup f=some ⟨oc,od,.func (PySem.W.fnOf x qual (defArgs st) (defBody st) (defScope st) .none kV doc pm an cdv ct),osl⟩)
  (c:PySem.W.codeIn K cdv qual=true)(k:keepIn K (.ref f)=true):Fun K x qual st f (PySem.W.fnOf x qual (defArgs st) (defBody st) (defScope st) .none kV doc pm an cdv ct):=⟨⟨oc,od,kV,doc,pm,an,cdv,ct,osl,rfl,l,c⟩,k⟩
end
theorem pv(i:Nat)(hN:X.N[i]?=some x:=by rfl)(hv:Vis X.env.scope x:=by walk_at "1")(hd:(x==("__debug__":Str))=false:=by decide)
  (hcd:(x==("__classdict__":Str))=false:=by decide):PE X (.Name x pos) (tVar i):=y9u hN hv hd hcd
def Same(H H':Hp):Prop:=∀b o,H b=some o->H' b=some o
theorem Same.refl(H:Hp):Same H H:=fun _ _ h=>h
theorem Same.trans{H1 H2:Hp}(a:Same H H1)(b:Same H1 H2):Same H H2:=fun c o h=>b c o (a c o h)
theorem Same.free(e:Same H H'){l:Addr}(h:H' l=Option.none):H l=Option.none:=by
 cases q:H l with
 |none=>rfl
 |some o=>
  rw[e l o q]at h;cases h
theorem Same.seq{a:Addr}{xs:List V}(e:Same H H')(h:SqL K H a xs):SqL K H' a xs:=by
 rcases h with(h|⟨o,h⟩)|h
 ·exact .inl (.inl (e _ _ h))
 ·exact .inl (.inr ⟨o,e _ _ h⟩)
 ·exact .inr h
set_option maxHeartbeats 4000000
theorem ObjOk.get(x:ObjOk P w H h a o):∃ob,h.get? a=some ob:=by
 cases o with
 |lst xs=>obtain⟨_,_,_,_,e⟩:=x;exact⟨_,e⟩
 |tup xs=>obtain⟨_,_,_,p,_⟩:=x;obtain⟨o,e,_⟩:=p;exact⟨o,e⟩
 |dK kvs=>obtain⟨_,_,_,_,o,_,_,e,_⟩:=x;exact⟨_,e⟩
 |dT sh kvs kas=>obtain⟨_,_,_,_,_,o,_,_,e,_⟩:=x;exact⟨_,e⟩
 |set S n=>obtain⟨o,_,_,_,e,_⟩:=x;exact⟨_,e⟩
 |ins C dx fs=>obtain⟨_,_,_,e,_⟩:=x;exact⟨_,e⟩
 |own y=>obtain⟨_,e⟩:=x;exact⟨_,e⟩
 |xd fs=>obtain⟨_,⟨_,_,_,e,_⟩,_⟩:=x;exact⟨_,e⟩
 |rng lo hi=>obtain⟨_,_,_,e⟩:=x;exact⟨_,e⟩
 |frz ob u=>obtain⟨e,_⟩:=x;exact⟨_,e⟩
 |tbl ps=>rcases x with⟨_,_,_,_,e,_⟩|⟨_,_,_,_,_,_,_,_,_,_,_,_,e⟩<;>exact⟨_,e⟩
 |met f y=>exact⟨_,(show h.get? a=some _ from x)⟩
 |ext φ=>obtain⟨_,⟨_,e⟩,_⟩:=x;exact⟨_,e⟩
structure Fly(outer:List Env)(H H':Hp)(h h':Heap)(e:Addr)(cls:Value)(B:Heap):Prop where
 fl:∃a0,Heap.FlyingW B outer e cls a0 h'
 old:∀b o,h.get? b=some o->H b=none->b∉frs outer->B.get? b=some o
 trk:∀b u o,H' b=some u->h'.get? b=some o->B.get? b=some o
 all:∀b o,h.get? b=some o->b∈frs outer\/∃o',B.get? b=some o'
 new:h.get? e=none
def CX1(P:Program)(w:World):CXT:=fun outer H s E ev s'=>∃(e:Addr)(cls:Value)(H':Hp)(B:Heap),
 ev=.ref e/\s'.os=s.os/\AllBare s'.gens/\Un (frs outer) [] H H' s.heap s'.heap/\HOk P w H' s'.heap/\Fly outer H H' s.heap s'.heap e cls B/\E cls none H'
def PassX(CX:CXT)(X:Cx)(EE:L2.St->XK):Prop:=∀(pins:List (Addr×Obj))(σ:St)(H:Hp)(s:Shared)(e:Value)(s':Shared),Inv X pins σ H s->CX X.stack H s (EE σ) e s'->X.xe e s'
theorem y57
  (I:Inv (cxOf CX P w K mg base N qual scope f cd A outer s₀ H₀ E) pins σ H s)(J:Inv (cxOf CX P w K mg base N qual scope f cd A outer s₀ H₀ E) pins σ H' s')
  (old:∀b o,s.heap.get? b=some o->H b=none->b∉frs (envOfC qual scope s₀.heap.objs.size f cd::outer)->B.get? b=some o)
  (trk:∀b u o,H' b=some u->s'.heap.get? b=some o->B.get? b=some o)
  (all:∀b o,s.heap.get? b=some o->b∈frs (envOfC qual scope s₀.heap.objs.size f cd::outer)\/∃o',B.get? b=some o')
  (new:s.heap.get? e=none)
  (fl:Heap.FlyingW B outer e cls a0 h'')(up:s'.heap.UpToSlots h'')(hE:E cls none H'):
  CX1 P w outer H₀ s₀ E (.ref e) {s' with heap:=h''}:=by
 have neL:∀b o,s₀.heap.get? b=some o->b∉frs outer->b∉frs (envOfC qual scope s₀.heap.objs.size f cd::outer):=fun b o q nb hb=>by
  rcases w0d.mp (show b∈s₀.heap.objs.size::frs outer from hb)with z|z
  ·exact absurd (Heap.lt_size q) (by grind)
  ·exact nb z
 have ex0:∀b:Addr,b∉([]:List Addr):=fun b z=>nomatch z
 have slot:∀b o,s₀.heap.get? b=some o->b∈frs outer->∃sl,h''.get? b=some {o with slots:=sl}:=fun b o q hb=>by
  obtain⟨sl,e1⟩:=J.base.slot b o q (J.ok.frf b hb) hb (ex0 b);obtain⟨_,o2,e2,nd⟩:=J.funs.mem hb
  rw[e1]at e2;cases e2;obtain⟨sl',e3⟩:=up b _ e1 nd;exact⟨sl',e3⟩
 refine⟨e,cls,H',B,rfl,J.os,J.bare,⟨fun b o q n hb hx=>?_,fun b o q n hb hx=>slot b o q hb,fun b o q n hx=>J.base.free b o q n hx,fun b o q hx=>?_,J.base.tups,J.base.frzs,J.base.tbls⟩,fun a o q=>?_,⟨⟨a0,fl⟩,fun b o q n hb=>?_,fun b u o q z=>?_,fun b o q=>?_,?_⟩,hE⟩
 ·exact fl.1 b o (old b o (I.base.keep b o q n hb hx) (I.base.free b o q n hx) (neL b o q hb))
 ·by_cases hb:b∈frs outer
  ·grind
  ·obtain⟨o1,e1⟩:=I.base.there b o q hx;rcases all b o1 e1 with z|⟨o',z⟩
   ·grind
   ·exact⟨o',fl.1 b o' z⟩
 ·refine(J.hok a o q).stay (fun b u hb z=>?_) (fun _ z=>z) fun _ _ _ z=>z
  rcases hb with rfl|hb
  ·exact fl.1 _ _ (trk b o u q z)
  ·exact fl.1 _ _ (trk b _ u hb z)
 ·exact old b o (I.base.keep b o q n hb (ex0 b)) (I.base.free b o q n (ex0 b)) (neL b o q hb)
 ·obtain⟨o1,e1⟩:=(J.hok b u q).get;have e2:=trk b u o1 q e1;have e3:=fl.1 b o1 e2
  grind
 ·obtain⟨o1,e1⟩:=I.base.there b o q (ex0 b)
  grind
 ·cases q:s₀.heap.get? e with
  |none=>rfl
  |some o=>
   obtain⟨o1,e1⟩:=I.base.there e o q (ex0 e)
   grind
theorem pass1:PassX (CX1 P w) (cxOf (CX1 P w) P w K mg base N qual scope f cd A outer s₀ H₀ E) (fun _=>E):=by
 intro pins σ H s ev s' I hx;obtain⟨e,cls,H',B,rfl,hos,hg,un,hok,fly,hE⟩:=hx;have J:=I.call' (ch:=[]) hos un hok hg (fun b hb=>nomatch hb)
 obtain⟨a0,fl⟩:=fly.fl;refine wpAny_leaves_onW (base:=B) I.ok.frames rfl fl fun h'' fl2 up=>?_
 exact y57 I J fly.old fly.trk fly.all fly.new fl2 up hE
theorem passE:PassX (CX1 P w) X (fun _=>E0):=fun _ _ _ _ _ _ _ h=>by
 obtain⟨_,_,_,_,_,_,_,_,_,_,z⟩:=h;exact False.elim z
def tCallX(sp:Sp)(dvs:List V)(EE:L2.St->XK)(t:TA):TE:=fun σ H Q=>t σ H fun vs H1=>sp (vs++dvs) H1 Q (EE σ)
section
variable{CX:CXT}{k:Nat}{C:Addr}{sp:Sp}{dvs:List V}{ds:List Value}{EE:L2.St->XK}{m:Str}{p:Pos}{e o:Expr}{ta:TE}
theorem y58(F:FnOk X.prog X.w X.K X.mg X.base CX k f fd ps sp)(hr:Room k X.A)(hb:Binds X.K fd ps ds)(hd:Vals dvs ds)(hx:PassX CX X EE)
  (I:Inv X pins σ H s)(r:Vals vs us)(h:sp (vs++dvs) H Q (EE σ)):wpAny (model X.prog X.w) X.A (call (.ref f) us) (EP X pins σ Q) X.xe s:=by
 have r2:Vals (vs++dvs) (us++ds):=r.append hd;have hl:(us++ds).length=ps.length:=by rw[<- r2.length];exact F.len _ _ _ _ h
 refine wpAny_call (codeAny_mono (F.run X.A X.stack s H ⟨us,[]⟩ (us++ds) (vs++dvs) Q (EE σ) hr I.env0 (hb s us I.kIn hl) r2 h) fun r s' hq=>?_)
 cases r with
 |error e=>exact hx pins σ H s e s' I hq
 |ok fl=>
  cases fl with
  |ret u=>exact I.after hq
  |next=>exact False.elim hq
  |brk=>exact False.elim hq
  |cont=>exact False.elim hq
theorem y2j(F:FnOk X.prog X.w X.K X.mg X.base CX k f fd ps sp)(hr:Room k X.A)(hg:Gl X x)(hm:X.mg x=some (.ref f))(hk:keepIn X.K (.ref f)=true)(hb:Binds X.K fd ps ds)(hd:Vals dvs ds)(hx:PassX CX X EE)
  (ha:PA X (e::es) t)(hdb:(x==("__debug__":Str))=false:=by decide)(he:starEach (e::es) X.env=(false,eval e X.env)::starEach es X.env:=by rfl)(hpl:(backTo pos (starEach es X.env)).any (·.1)=false:=by rfl):
  PE X (.Call (.Name x p) (e::es) [] pos) (tCallX sp dvs EE t):=by
 intro pins s σ H Q I h;refine wpAny_Call_Name_kw (x6g I hg hm ?_ hdb);refine PySem.W.callWith_K (h₀:=X.base) I.ok.mod.kin hk (thn (ha pos pins s σ H _ I h) fun us s1 ⟨vs,H1,I1,r,q⟩=>⟨I1.kIn,?_⟩) he hpl
 grind [y58]
end
theorem Fun.okX{st:Stmt}(F:Fun K x qual st f fd)(S:FnScope N ps (defScope st))(len:∀vs H Q E,sp vs H Q E->vs.length=ps.length)
  (hbody:∀(cdv:Value)(A:Around)(outer:List Env)(s:Shared)(H:Hp)(vs:List V)(Q:VK)(E:XK),Room k (A.deeper (envOfC qual (defScope st) s.heap.objs.size f cdv))->sp vs H Q E ->
   ∃t,PSs (cxOf (CX1 P w) P w K mg base N qual (defScope st) f cdv A outer s H E) (defBody st) t/\t {nx:=fun _ H'=>Q .non H',rt:=Q} (start N vs) H):FnOk P w K mg base (CX1 P w) (k+1) f fd ps sp:=by
 obtain⟨oc,od,kV,doc,pm,an,cdv,ct,osl,rfl,lk,hcd⟩:=F.ex;exact z4f lk hcd S len fun A outer s H vs Q E hr hsp=>hbody cdv A outer s H vs Q E hr hsp
def excO(e:Addr)(cls:Value):HO:=.ext fun h=>∃o vs,h.get? e=some o/\o.cls=cls/\o.data=.fields vs
structure RoomH(k:Nat)(A:Around):Prop where
 dp:A.depth+3*k+5<recursionLimit
 un:A.units+16*k+200<cLine
 gd:A.guards=some []
structure FnOkH(P:Program)(w:World)(K:PySem.W.Frag)(mg:Str->Option Value)(base:Heap)(k:Nat)(f:Addr)(fd:FuncData)(ps:List Str)(sp:Sp):Prop where
 len:∀vs H Q E,sp vs H Q E->vs.length=ps.length
 run:∀(A:Around)(outer:List Env)(s:Shared)(H:Hp)(args:Args)(us:List Value)(vs:List V)(Q:VK),RoomH k A->Env0 P w K mg base A outer s H->BindsTo s fd args (ps.zip us)->Vals vs us->sp vs H Q E0 ->
  codeAny (model P w) A (.call (.ref f) args) (CR CX0 outer P w H s Q E0) s
noncomputable abbrev Cx.cp(X:Cx)(Nc:List Str)(scope:Scope)(cl:List (Str×Addr))(C:Addr)(s₀:Shared)(H₀:Hp)(ex:List Addr):Cx:=
 {X with N:=Nc,s₀:=s₀,H₀:=H₀,env:=compEnvC scope cl C X.env,outer:=X.stack,ex:=ex,fn:=fun _=>false,pn:=[],xe:=fun _ _=>False}
theorem q6s:∀(names:List (Str×NameKind))(acc:List (Str×Addr)),(∀x∈names,x.2=.free->∃c,env.cells.lookup x.1=some c) ->
  ∃cl,(forIn names acc fun(x:Str×NameKind) (r:List (Str×Addr))=>(if(x.2==NameKind.free)=true then(cellOf env x.1 >>= fun a=>pure (ForInStep.yield ((x.1,a)::r)))else pure (ForInStep.yield r):Sem (ForInStep (List (Str×Addr)))))=pure cl /\
   (∀x c,cl.lookup x=some c->acc.lookup x=some c\/env.cells.lookup x=some c)/\(∀x,((x,NameKind.free)∈names\/(acc.lookup x).isSome=true)->(cl.lookup x).isSome=true)
 |[],acc,_=>⟨acc,rfl,fun x c h=>.inl h,fun x h=>h.elim (fun z=>nomatch z) id⟩
 |(n,k)::r,acc,h=>by
  by_cases hk:k=.free
  ·subst hk;obtain⟨c,hc⟩:=h (n,.free) w0f rfl;obtain⟨cl,e1,e2,e3⟩:=q6s r ((n,c)::acc) fun x hx=>h x (w0c _ hx)
   refine⟨cl,?_,fun x d hd=>?_,fun x hx=>?_⟩
   ·rw[w2e];have:cellOf env n=pure c:=by unfold cellOf;rw[hc]
    grind
   all_goals grind
  ·obtain⟨cl,e1,e2,e3⟩:=q6s r acc fun x hx=>h x (w0c _ hx)
   grind
theorem x0v(h:∀x∈scope.names,x.2=.free->∃c,env.cells.lookup x.1=some c):
  ∃cl,closureFor scope env=pure cl/\(∀x c,cl.lookup x=some c->env.cells.lookup x=some c)/\∀x,(x,NameKind.free)∈scope.names->∃c,cl.lookup x=some c:=by
 obtain⟨cl,e1,e2,e3⟩:=q6s scope.names [] h
 grind [Option.isSome_iff_exists,closureFor]
theorem q8j{env : Env} : ∀ {names : List (Str × NameKind)} {x : Str}, (∀ y ∈ names, y.2 ≠ .cell) ->
    ((names.map fun (n, k) => if (k == NameKind.free && env.scope.kind == .function && env.kindOf n == some .cell) then (n, NameKind.cell) else (n, k)).lookup x = some .cell \/
     (names.map fun (n, k) => if (k == NameKind.free && env.scope.kind == .function && env.kindOf n == some .cell) then (n, NameKind.cell) else (n, k)).lookup x = some .free) -> (x, NameKind.free) ∈ names
  | [], x, _, h => by grind
  | (n, k) :: r, x, hc, h => by
    have ih := @q8j env r x fun y hy => hc y (w0c _ hy)
    grind
theorem x2k{prog:Program}{w:World}{A:Around}{R:Result->Shared->Prop}{s:Shared}{elt target iter:Expr}{scope:Scope}{it acc:Value}{env:Env}(I:Nat->Shared->Prop)
  (turn:∀n s,I n s->wpAny (model prog w) A (pyNext it) (fun r s1=>match r with
   |none=>R (.ok .next) s1
   |some v=>wpAny (model prog w) A (letOwnedTupleGo target it v) (fun _ s2=>wpAny (model prog w) A (assign target env v) (fun _ s3=>
     wpAny (model prog w) A (forIn ifs true fun c r=>if r=true then do let ok <- isTrue c env (eval c env);pure (ForInStep.yield ok)else pure (ForInStep.yield r)) (fun ok s4=>
      if ok=true then wpAny (model prog w) A (eval elt env) (fun x s5=>wpAny (model prog w) A (call (.builtin "list.append") [acc,x]) (fun _ s6=>∃m,m<n/\I m s6) (fun _ _=>False) s5) (fun _ _=>False) s4
      else ∃m,m<n/\I m s4) (fun _ _=>False) s3) (fun _ _=>False) s2) (fun _ _=>False) s1) (fun _ _=>False) s)
  (n:Nat)(h:I n s):codeAny (model prog w) A (.compLoop (.ListComp elt [⟨target,iter,ifs,0⟩] scope pos) 0 it acc env) R s:=by
 refine codeAny_loop rfl I (fun n s hI=>?_) n h
 show wpAny _ A ((compTurn (.ListComp elt [⟨target,iter,ifs,0⟩] scope pos) 0 it acc env).onRaise (fun x=>do noteFrame x env;theTreesLotGoes x)) _ _ s
 refine wpAny_noted ?_;rw[compTurn_list];refine wpAny_bind (wpAny_standAt (wpAny_bind (wpAny_mono (turn n s hI) (fun r s1 h1=>?_) fun _ _ z=>z.elim)))
 cases r with
 |none=>exact wpAny_pure h1
 |some v=>
  refine wpAny_bind (wpAny_mono h1 (fun _ s2 h2=>?_) fun _ _ z=>z.elim)
  refine wpAny_bind (wpAny_mono h2 (fun _ s3 h3=>?_) fun _ _ z=>z.elim)
  refine wpAny_bind (wpAny_mono h3 (fun ok s4 h4=>?_) fun _ _ z=>z.elim)
  cases ok with
  |false=>exact wpAny_pure ⟨rfl,h4⟩
  |true=>exact wpAny_bind (wpAny_bind (wpAny_mono h4 (fun x s5 h5=>wpAny_bind (wpAny_mono h5 (fun _ s6 h6=>wpAny_pure (wpAny_pure ⟨rfl,h6⟩)) fun _ _ z=>z.elim)) fun _ _ z=>z.elim))
def pj(js:List Nat)(σ:St):St:=js.map fun j=>(σ[j]?).getD none
theorem z0k{i:Nat}(h:(pj js σ)[i]?=some (some v)):∃j,js[i]?=some j/\σ[j]?=some (some v):=by
 grind [pj]
def PTs(X:Cx)(ifs:List Expr)(t:TT):Prop:=
 ∀(pins:List (Addr×Obj))(s:Shared)(σ:St)(H:Hp)(Q:Bool->Hp->Prop),Inv X pins σ H s->t σ H Q ->
  wpAny (model X.prog X.w) X.A (forIn ifs true fun c r=>if r=true then do let ok <- isTrue c X.env (eval c X.env);pure (ForInStep.yield ok)else pure (ForInStep.yield r)) (TP X pins σ Q) X.xe s
def tYes:TT:=fun _ H Q=>Q true H
theorem y59:PTs X [] tYes:=fun pins s σ H Q I h=>wpAny_tests_nil ⟨H,I,h⟩
theorem y6a{t:TT}(h:PT X c t):PTs X [c] t:=fun pins s σ H Q I hq=>wpAny_tests_one (h pins s σ H Q I hq)
def Kp(σ σ':St):Prop:=∀(i:Nat) v,σ[i]?=some (some v)->σ'[i]?=some (some v)
theorem Kp.one:Kp (List.replicate 1 none++σ) (some v::σ):=fun i u h=>by
 grind
def tComp(wi:TI)(nl:Nat)(js:List Nat)(g:TG)(tc:TT)(te:TE):TE:=fun σ H Q=>wi σ H fun J H1=>∀D,H1 D=none->∃W:Nat->Nat->Hp->Prop,(∃m,W 0 m (upd H1 D (.lst [])))/\∀i m H2,W i m H2 ->
 (J.stop i H2/\Q (.ref D) H2)\/(J.go i H2/\∀x H3,J.yld i H2 x H3->g x (List.replicate nl none++pj js σ) H3 fun σ4 H4=>Kp (List.replicate nl none++pj js σ) σ4/\tc σ4 H4 fun b H5=>
  if b=true then te σ4 H5 fun y H6=>∃ys,H6 D=some (.lst ys)/\ys.length<sizeLine/\∃m',m'<m/\W (i+1) m' (upd H6 D (.lst (ys++[y])))else ∃m',m'<m/\W (i+1) m' H5)
section
variable{elt target iter:Expr}{scope:Scope}{wi:TI}{g:TG}{tc:TT}{te:TE}
theorem x4b
  (I:Inv X pins σ H s)(hfp:∀b∈fp,FpOk X pins H b)(hob:∀b∈fp,∃o,s.heap.get? b=some o/\∀v,o.data≠.cell v)
  (hk:scope.kind=.function)(hcell:∀y∈scope.names,y.2≠.cell)(hcl:∀x c,cl.lookup x=some c->X.env.cells.lookup x=some c)(hcf:∀x,(x,NameKind.free)∈scope.names->∃c,cl.lookup x=some c)
  (hj:∀(i j:Nat) y,Nf[i]?=some y->js[i]?=some j->X.N[j]?=some y)(hlen:js.length=Nf.length)
  (hNf:∀y∈Nf,(y,NameKind.free)∈scope.names/\Vis X.env.scope y/\X.env.kindOf y≠some .local)
  (hvis:∀y∈Nf,(relabel scope X.env).names.lookup y=some .cell\/(relabel scope X.env).names.lookup y=some .free)
  (hn:h1.Ns (s.heap.objs.size+1) mC)(hs:Heap.SameBut (s.heap.objs.size+1) ((s.heap.push {cls:=.type "list", dict:=none,data:=.seq ([]:List Value).toArray}).push {cls:=.type "dict", data:=.dict #[]}) h1):
  Inv (X.cp (Nl++Nf) scope cl (s.heap.objs.size+1) {s with heap:=s.heap.push {cls:=.type "list", dict:=none,data:=.seq ([]:List Value).toArray}} (upd H s.heap.objs.size (.lst [])) fp) [] (List.replicate Nl.length none++pj js σ) (upd H s.heap.objs.size (.lst [])) {s with heap:=h1,toks:=tk}:=by
 have fD:H s.heap.objs.size=none:=I.hok.fresh (w0b _);have up1:∀b u,s.heap.get? b=some u->(s.heap.push {cls:=.type "list", dict:=none,data:=.seq ([]:List Value).toArray}).get? b=some u:=fun b u q=>Heap.get?_push_of_some _ q
 have szp:(s.heap.push {cls:=.type "list", dict:=none,data:=.seq ([]:List Value).toArray}).objs.size=s.heap.objs.size+1:=Heap.size_push ..
 have up2:∀b u,(s.heap.push {cls:=.type "list", dict:=none,data:=.seq ([]:List Value).toArray}).get? b=some u->h1.get? b=some u:=fun b u q=>by
  have hlt:=Heap.lt_size q;rw[szp]at hlt;exact(hs.2 b (w0u hlt)).trans (Heap.get?_push_of_some _ q)
 have up:∀b u,s.heap.get? b=some u->h1.get? b=some u:=fun b u q=>up2 b u (up1 b u q)
 have ltOf:∀b o,s.heap.get? b=some o->b≠s.heap.objs.size:=fun b o q=>w0u (Heap.lt_size q)
 have fr0:∀b o,s.heap.get? b=some o->H b=none->upd H s.heap.objs.size (.lst []) b=none:=fun b o q n=>by grind [q0f]
 have hasC:∀x,((relabel scope X.env).names.lookup x=some .cell\/(relabel scope X.env).names.lookup x=some .free)->∃c,cl.lookup x=some c:=fun x hx=>hcf x (q8j hcell hx)
 have hokD:HOk X.prog X.w (upd H s.heap.objs.size (.lst [])) (s.heap.push {cls:=.type "list", dict:=none,data:=.seq ([]:List Value).toArray}):=
  I.hok.laid up1 (w0b _) ⟨w1c _,[],_,.nil,Heap.get?_push_size _ rfl⟩
 have cellK:∀x c,cl.lookup x=some c->∃v,s.heap.IsCell c v:=fun x c e=>I.cell x c (hcl x c e)
 have cellUp:∀c v,s.heap.IsCell c v->h1.IsCell c v:=fun c v ⟨o,q,r⟩=>⟨o,up _ _ q,r⟩
 refine⟨⟨I.ok.mod,hk,I.ok.glob,I.ok.blt,(by show(s.heap.push _).objs.size<=_;rw[szp];exact w0b _),fun x y c e1 e2=>I.ok.inj x y c (hcl x c e1) (hcl y c e2),fun x hx=>hasC x hx,(fun x c z=>nomatch z),I.ok.hd,I.ok.frames,.inl rfl,fun b hb=>⟨?_,fun x c e=>?_⟩,fun b o q=>?_,?_,fun b o q hb=>?_,fun b hb hb2=>?_,?_,fun b hb=>?_,(I.ok.tab.un I.base).laid fD⟩,
  rfl,I.bare,Un.kept up2,⟨mC,hn,fun i y v e1 e2 e3=>?_⟩,fun x c e=>?_,?_,fun x c e=>?_,fun p hp=>(by cases hp),hokD.kept up2,?_⟩
 ·obtain⟨o,q,_⟩:=hob b hb;exact w0u (w1n (Heap.lt_size q))
 ·exact(hfp b hb).2.2.2.2.1 x c (hcl x c e)
 ·obtain⟨q1,q2⟩:=I.bs b o q
  grind
 ·show X.base.objs.size<=(s.heap.push _).objs.size;rw[szp];exact Nat.le_succ_of_le (w0v I.ok.bsz I.sz)
 ·rcases(hfp b hb).2.2.2.1 with z|z
  ·exact I.ok.noex b o q z
  ·obtain⟨q1,_⟩:=I.ok.bs b o q;exact absurd (Heap.lt_size q1) (w4t.mpr z)
 ·rcases w0d.mp (I.stkSub b hb2)with z|z
  ·exact(hfp b hb).2.1 z
  ·exact(hfp b hb).2.2.1 z
 ·exact I.stack.of_keeps fun b o q _=>⟨o,up1 _ _ q,rfl⟩
 ·obtain⟨_,o,q,_⟩:=I.stack.mem hb;exact fr0 b o q (I.stkFree b hb)
 ·-- the names
  have e2':(List.replicate Nl.length none++pj js σ)[i]?=some (some v):=e2;have e1':(Nl++Nf)[i]?=some y:=e1
  by_cases hi:i<Nl.length
  ·grind
  ·have hi':Nl.length<=i:=w4t.mp hi;rw[w1d (by simpa using hi')]at e2';rw[w1d hi']at e1';rw[List.length_replicate]at e2';obtain⟨j,ej,eσ⟩:=z0k e2';have hNy:=hj _ _ _ e1' ej;obtain⟨hfr,hv,hnl⟩:=hNf y (w1m e1');obtain⟨m,hm,hl⟩:=I.loc;obtain⟨u,r,l⟩:=hl j y v hNy eσ hv;refine⟨u,r,?_⟩;rcases l with⟨k,_⟩|⟨k,c,ec,z⟩
   ·exact absurd k hnl
   ·obtain⟨c',ec'⟩:=hcf y hfr;have:=hcl y c' ec';rw[ec]at this;cases this;exact .inr ⟨hvis y (w1m e1'),c,ec',cellUp _ _ z⟩
 ·obtain⟨v,z⟩:=cellK x c e
  grind
 ·show upd H s.heap.objs.size (.lst []) (s.heap.objs.size+1)=none;rw[q0f (w4j _)];exact I.hok.fresh (w5h _)
 ·obtain⟨v,o,q,_⟩:=cellK x c e;exact fr0 c o q (I.freeC x c (hcl x c e))
 grind [pj]
theorem x87{σ':St}
  (I:Inv X pins σ H s)(hfp:∀b∈fp,FpOk X pins H b)
  (J:Inv (X.cp Nc scope cl (s.heap.objs.size+1) {s with heap:=s.heap.push {cls:=.type "list", dict:=none,data:=.seq ([]:List Value).toArray}} (upd H s.heap.objs.size (.lst [])) fp) [] σ' H' s')
  (hs:Heap.SameBut (s.heap.objs.size+1) s'.heap h'):Inv X pins σ H' {s' with heap:=h'}:=by
 have fD:H s.heap.objs.size=none:=I.hok.fresh (w0b _);have up1:∀b u,s.heap.get? b=some u->(s.heap.push {cls:=.type "list", dict:=none,data:=.seq ([]:List Value).toArray}).get? b=some u:=fun b u q=>Heap.get?_push_of_some _ q
 have neC:∀b o,s.heap.get? b=some o->b≠s.heap.objs.size+1:=fun b o q=>w0u (w1n (Heap.lt_size q))
 have fr0:∀b o,s.heap.get? b=some o->H b=none->upd H s.heap.objs.size (.lst []) b=none:=fun b o q n=>by rw[q0f (w0u (Heap.lt_size q))];exact n
 have old:∀b u,H b=some u->upd H s.heap.objs.size (.lst []) b=some u:=fun b u q=>by rw[q0f (q0o q fD)];exact q
 have B:Un (frs X.stack) fp (upd H s.heap.objs.size (.lst [])) H' (s.heap.push {cls:=.type "list", dict:=none,data:=.seq ([]:List Value).toArray}) s'.heap:=J.base;have hC:H' (s.heap.objs.size+1)=none:=J.free;refine I.call' (s':={s' with heap:=h'}) (ch:=fp) (J.os.trans rfl) ⟨fun b o q n hb hx=>?_,fun b o q n hb hx=>?_,fun b o q n hx=>B.free b o (up1 _ _ q) (fr0 b o q n) hx,fun b o q hx=>?_,fun b xs q=>B.tups b xs (old _ _ q),fun b o u q=>B.frzs b o u (old _ _ q),fun b ps q=>B.tbls b ps (old _ _ q)⟩ (fun a o q=>?_) J.bare fun b hb=>?_
 ·exact(hs.2 b (neC b o q)).trans (B.keep b o (up1 _ _ q) (fr0 b o q n) hb hx)
 ·obtain⟨sl,z⟩:=B.slot b o (up1 _ _ q) (fr0 b o q n) hb hx;exact⟨sl,(hs.2 b (neC b o q)).trans z⟩
 ·obtain⟨o',z⟩:=B.there b o (up1 _ _ q) hx;exact⟨o',(hs.2 b (neC b o q)).trans z⟩
 ·refine(J.hok a o q).stay (fun c v hc z=>(hs.2 c ?_).trans z) (fun _ z=>z) fun _ _ _ z=>z
  grind
 ·obtain⟨_,f1,f2,f3,f4,f5⟩:=hfp b hb
  grind
theorem y6b{Nl Nf:List Str}{js:List Nat}(hc:X.calm=true)(hi:PI X target iter wi)
  (hk:scope.kind=.function)(hcell:∀y∈scope.names,y.2≠.cell)(hnames:∀x∈scope.names,x.2=.local->scope.names.lookup x.1=some .local)
  (hfree:∀x∈scope.names,x.2=.free->X.env.kindOf x.1=some .cell\/X.env.kindOf x.1=some .free)
  (hj:∀(i j:Nat) y,Nf[i]?=some y->js[i]?=some j->X.N[j]?=some y)(hlen:js.length=Nf.length)
  (hNf:∀y∈Nf,(y,NameKind.free)∈scope.names/\Vis X.env.scope y/\X.env.kindOf y≠some .local)
  (hvis:∀y∈Nf,(relabel scope X.env).names.lookup y=some .cell\/(relabel scope X.env).names.lookup y=some .free)
  (hg:∀cl C s₀ H₀ ex,PG (X.cp (Nl++Nf) scope cl C s₀ H₀ ex) target g)(ht:∀cl C s₀ H₀ ex,PTs (X.cp (Nl++Nf) scope cl C s₀ H₀ ex) ifs tc)(he:∀cl C s₀ H₀ ex,PE (X.cp (Nl++Nf) scope cl C s₀ H₀ ex) elt te)
  (hs:∀x,foldedSetIterable iter X.env x=pure x:=by intro _;rfl):
  PE X (.ListComp elt [⟨target,iter,ifs,0⟩] scope pos) (tComp wi Nl.length js g tc te):=by
 intro pins s σ H Q I h;obtain⟨cl,hclos,hcl,hcf⟩:=x0v (scope:=scope) (env:=X.env) fun x hx hf=>I.ok.has x.1 (hfree x hx hf)
 rw[eval_ListComp];refine wpAny_comprehension_free (use:=none) rfl hs hclos hk hnames (thn (hi pins s σ H _ I h) fun v s1 h1=>thn h1 fun itv s2 h2=>?_)
 obtain⟨it,fp,tn,J,H2,e,I2,T,st2,f2,rd⟩:=h2;subst e;refine wpAny_newObj_type (wpAny_newFunctionEnv hcell (by intro y hy;simp at hy) (fun h₁ hns₁ hsb₁=>?_) hk)
 dsimp only at hns₁ hsb₁ |-
 have szp:(s2.heap.push {cls:=.type "list", dict:=none,data:=.seq ([]:List Value).toArray}).objs.size=s2.heap.objs.size+1:=Heap.size_push ..;rw[szp]at hns₁ hsb₁ |-
 have fD:H2 s2.heap.objs.size=none:=I2.hok.fresh (w0b _);obtain⟨W,⟨m0,w0⟩,turn⟩:=rd s2.heap.objs.size fD;have obj2:=T.obj 0 s2.heap st2;have IS:=x4b (Nl:=Nl) (Nf:=Nf) (js:=js) (cl:=cl) (tk:=s2.toks+([]:List (Str×Value)).length) I2 f2 obj2 hk hcell hcl hcf hj hlen hNf hvis hns₁ hsb₁
 have upS:∀b u,s2.heap.get? b=some u->h₁.get? b=some u:=fun b u q=>by
  have hlt:=Heap.lt_size q;exact(hsb₁.2 b (w0u (w1n hlt))).trans (Heap.get?_push_of_some _ (Heap.get?_push_of_some _ q))
 have stS:tn 0 h₁:=T.keep 0 s2.heap h₁ st2 fun b hb o q=>upS b o q
 have noD:∀b∈fp,upd H2 s2.heap.objs.size (.lst []) b=none:=fun b hb=>by
  obtain⟨o,q,_⟩:=obj2 b hb;rw[q0f (w0u (Heap.lt_size q))];exact(f2 b hb).1
 have stat:∀{H':Hp},(∀b∈fp,H' b=none)->∀b∈fp,FpOk (X.cp (Nl++Nf) scope cl (s2.heap.objs.size+1) {s2 with heap:=s2.heap.push {cls:=.type "list", dict:=none,data:=.seq ([]:List Value).toArray}} (upd H2 s2.heap.objs.size (.lst [])) fp) [] H' b:=fun hn b hb=>by
  refine⟨hn b hb,(IS.ok.exf b hb).1,IS.ok.exfs b hb,.inl hb,(IS.ok.exf b hb).2,fun p hp=>(by cases hp)⟩
 have loop:∀s4:Shared,s4={s2 with heap:=h₁,toks:=s2.toks+([]:List (Str×Value)).length} ->
   codeAny (model X.prog X.w) X.A (.compLoop (.ListComp elt [⟨target,iter,ifs,0⟩] scope pos) 0 (.ref it) (.ref s2.heap.objs.size) (compEnvC scope cl (s2.heap.objs.size+1) X.env))
    (compPost (model X.prog X.w) X.A X.xe none (EP X pins σ Q) (.ref s2.heap.objs.size) (s2.heap.objs.size+1)) s4:=by
  rintro s4 rfl;refine x2k (fun n s'=>∃i H',Inv (X.cp (Nl++Nf) scope cl (s2.heap.objs.size+1) {s2 with heap:=s2.heap.push {cls:=.type "list", dict:=none,data:=.seq ([]:List Value).toArray}} (upd H2 s2.heap.objs.size (.lst [])) fp) [] (List.replicate Nl.length none++pj js σ) H' s'/\tn i s'.heap/\(∀b∈fp,H' b=none)/\W i n H') ?_ m0 ⟨0,_,IS,stS,noD,w0⟩
  rintro n s3 ⟨i,H3,I3,st3,fr3,w3⟩;rcases turn i n H3 w3 with⟨stop,qn⟩|⟨go,step⟩
  ·refine thn (T.done (X.cp (Nl++Nf) scope cl (s2.heap.objs.size+1) {s2 with heap:=s2.heap.push {cls:=.type "list", dict:=none,data:=.seq ([]:List Value).toArray}} (upd H2 s2.heap.objs.size (.lst [])) fp) rfl rfl rfl hc i [] s3 _ H3 _ I3 (stat fr3) st3 stop) fun r s5 ⟨hr,I5⟩=>?_
   subst hr;obtain⟨m5,hn5,_⟩:=I5.loc;refine⟨m5,hn5,fun h' hs'=>⟨.ref s2.heap.objs.size,H3,x87 I2 f2 I5 hs',rfl,qn⟩⟩
  ·refine thn (T.item (X.cp (Nl++Nf) scope cl (s2.heap.objs.size+1) {s2 with heap:=s2.heap.push {cls:=.type "list", dict:=none,data:=.seq ([]:List Value).toArray}} (upd H2 s2.heap.objs.size (.lst [])) fp) rfl rfl rfl hc i [] s3 _ H3 _ I3 (stat fr3) st3 go) fun r s5 ⟨u,hr,h5⟩=>?_
   subst hr;refine thn h5 fun _ s6 ⟨x,H6,I6,r6,y6,st6,fr6⟩=>?_
   have I6':=I6.pinned (stat fr6) (T.obj _ _ st6);refine thn (hg _ _ _ _ _ _ s6 _ H6 x u _ I6' r6 (step x H6 y6)) fun _ s7 ⟨σ7,H7,I7,kp,q7⟩=>?_
   refine thn (ht _ _ _ _ _ _ s7 σ7 H7 _ I7 q7) fun ok s8 ⟨H8,I8,q8⟩=>?_
   have again:∀{σ9:St}{H9:Hp}{s9:Shared},Inv (X.cp (Nl++Nf) scope cl (s2.heap.objs.size+1) {s2 with heap:=s2.heap.push {cls:=.type "list", dict:=none,data:=.seq ([]:List Value).toArray}} (upd H2 s2.heap.objs.size (.lst [])) fp) ([]++pinsAt fp s6.heap) σ9 H9 s9 ->
     Kp (List.replicate Nl.length none++pj js σ) σ9->(∃m',m'<n/\W (i+1) m' H9)->∃m,m<n/\∃i H',Inv (X.cp (Nl++Nf) scope cl (s2.heap.objs.size+1) {s2 with heap:=s2.heap.push {cls:=.type "list", dict:=none,data:=.seq ([]:List Value).toArray}} (upd H2 s2.heap.objs.size (.lst [])) fp) [] (List.replicate Nl.length none++pj js σ) H' s9/\tn i s9.heap/\(∀b∈fp,H' b=none)/\W i m H':=fun {σ9 H9 s9} I9 hw ⟨m',hm,w9⟩=>by
    refine⟨m',hm,i+1,H9,I9.unpinned.weak (by rw[I9.len,<- IS.len]) hw,T.keep _ _ _ st6 fun b hb o q=>(I9.pin (b,o) (w0e _ (w0e _ (q23 hb q)))).1,fun b hb=>?_,w9⟩
    obtain⟨o,q,d⟩:=T.obj _ _ st6 b hb;exact(I9.pin (b,o) (w0e _ (w0e _ (q23 hb q)))).2.1
   cases ok with
   |false=>exact again I8 kp (by simpa using q8)
   |true=>
    have q8':=by simpa only[if_true]using q8
    refine thn (he _ _ _ _ _ _ s8 σ7 H8 _ I8 q8') fun y s9 ⟨yv,H9,I9,r9,ys,hD,hz,q9⟩=>?_
    refine thn (q8i _ s9 σ7 H9 (.ref s2.heap.objs.size) [yv] (.ref s2.heap.objs.size) [y] (fun v H'=>v=.non/\H'=upd H9 s2.heap.objs.size (.lst (ys++[yv]))) I9 rfl (.cons r9 .nil) ⟨_,ys,yv,rfl,rfl,hD,hz,rfl,rfl⟩) fun _ s10 ⟨_,H10,I10,_,_,e10⟩=>?_
    subst e10;exact again I10 kp q9
 exact codeAny_compStart_list (loop _ rfl) (T.self X.A 0 _ _ _ stS (loop _ rfl))
end
theorem q6t{env:Env}:∀{names:List (Str×NameKind)}{x:Str},names.lookup x=some .free ->
  (names.map fun(n,k)=>if(k==NameKind.free&&env.scope.kind==.function&&env.kindOf n==some .cell)then(n,NameKind.cell)else(n,k)).lookup x=some .cell \/
  (names.map fun(n,k)=>if(k==NameKind.free&&env.scope.kind==.function&&env.kindOf n==some .cell)then(n,NameKind.cell)else(n,k)).lookup x=some .free
 |[],x,h=>by cases h
 |(n,k)::r,x,h=>by
  have ih:=@q6t env r x
  grind
def compOk(sc scope:Scope)(N Nf:List Str)(js:List Nat):Bool:=
 scope.kind==.function&&scope.names.all (fun y=>y.2 != .cell)&&scope.names.all (fun y=>y.2 != .local||scope.names.lookup y.1==some .local) &&
 scope.names.all (fun y=>y.2 != .free||sc.names.lookup y.1==some .cell||sc.names.lookup y.1==some .free)&&js.length==Nf.length &&
 (List.range js.length).all (fun i=>match js[i]?,Nf[i]? with|some j,some y=>N[j]?==some y|_,_=>true) &&
 Nf.all (fun y=>scope.names.lookup y==some .free&&(sc.names.lookup y==some .cell||sc.names.lookup y==some .free))
theorem x4c{elt target iter:Expr}{scope sc:Scope}{wi:TI}{g:TG}{tc:TT}{te:TE}{Nl Nf N:List Str}{js:List Nat}(hc:X.calm=true)(hi:PI X target iter wi)
  (ok:compOk sc scope N Nf js=true)
  (hg:∀cl C s₀ H₀ ex,PG (X.cp (Nl++Nf) scope cl C s₀ H₀ ex) target g)(ht:∀cl C s₀ H₀ ex,PTs (X.cp (Nl++Nf) scope cl C s₀ H₀ ex) ifs tc)(he:∀cl C s₀ H₀ ex,PE (X.cp (Nl++Nf) scope cl C s₀ H₀ ex) elt te)
  (hsc:X.env.scope=sc:=by rfl)(hN:X.N=N:=by rfl)(hs:∀x,foldedSetIterable iter X.env x=pure x:=by intro _;rfl):
  PE X (.ListComp elt [⟨target,iter,ifs,0⟩] scope pos) (tComp wi Nl.length js g tc te):=by
 unfold compOk at ok;simp only[w0p,w1s,beq_iff_eq,bne_iff_ne,w3c,w2n]at ok;obtain⟨⟨⟨⟨⟨⟨k1,k2⟩,k3⟩,k4⟩,k5⟩,k6⟩,k7⟩:=ok;have kind:∀x,X.env.kindOf x=sc.names.lookup x:=fun x=>by rw[<- hsc];rfl
 refine y6b hc hi k1 k2 (fun x hx hl=>(k3 x hx).resolve_left fun z=>z hl) (fun x hx hf=>?_) (fun i j y e1 e2=>?_) k5 (fun y hy=>?_) (fun y hy=>?_) hg ht he hs
 ·grind
 ·grind
 ·obtain⟨z1,z2⟩:=k7 y hy;refine⟨PySem.mem_of_lookup z1,?_,?_⟩
  ·rw[hsc];rcases z2 with z|z
   ·exact .inr (.inl z)
   ·exact .inr (.inr z)
  grind
 ·exact q6t (k7 y hy).1
abbrev TF:=Str->St->Hp->(Str->Hp->Prop)->Prop
def PF(X:Cx)(es:List Expr)(t:TF):Prop:=∀(acc:Str)(pins:List (Addr×Obj))(s:Shared)(σ:St)(H:Hp)(Q:Str->Hp->Prop),Inv X pins σ H s->t acc σ H Q ->
 Joins (model X.prog X.w) X.A X.xe (evalEach es X.env) acc (fun out s'=>out.length<=sizeLine/\∃H',Inv X pins σ H' s'/\Q out H') s
theorem y2k(hc:X.calm=true):CallR X (.builtin "all") (fun xs H Q=>∃p ys,xs=[.ref p]/\SqL X.K H p ys/\(∀y∈ys,∃b,y=.bl b)/\Q (.bl (ys.all fun y=>decide (y=.bl true))) H):=by
 intro pins s σ H xs us Q I r h;obtain⟨p,ys,rfl,hq,hb,q⟩:=h;obtain⟨u,rfl,rx⟩:=vals1 r;cases rx;obtain⟨its,r',pl,hz⟩:=I.list hq;have hl:=pl.isList;have hlt:p<s.heap.objs.size:=by obtain⟨_,e,_⟩:=hl;exact Heap.lt_size e
 have hh:X.A.in1.handled=none:=I.ok.hd hc;refine call_all_walk (wpAny_pyIter_list hl ⟨s.heap.objs.size,[s.heap.objs.size,p],[s.heap.objs.size],_,_,_,fun i=>decide (ys[i]?=some (.bl true)),rfl,Walks.list hh s.heap.objs.size p (w0u hlt) its.toArray,⟨⟨_,Heap.get?_push_size _ rfl,rfl,rfl⟩,hl.push _⟩,?_,fun h' tk kp=>?_⟩)
 ·intro i v s1 Q1 E1 hv hQ;have hv':its[i]?=some v:=by simpa using hv
  have hi:i<ys.length:=by grind [Vals.length]
  obtain⟨u,hu,ru⟩:=r'.get (w0a hi);rw[hv']at hu;cases hu;obtain⟨b,eb⟩:=hb ys[i] (w1l hi);rw[eb]at ru;cases ru;refine wpAny_truthy_bool ?_
  simp_all
 ·have e:(List.range its.toArray.size).all (fun i=>decide (ys[i]?=some (V.bl true)))=ys.all fun y=>decide (y=.bl true):=by
   rw[w2s,w1s,w1s];constructor
   ·intro hA y hy;obtain⟨i,hi,rfl⟩:=w3s hy;have z:=hA i (by grind [Vals.length])
    grind
   grind [Vals.length,List.getElem_mem]
  refine⟨.bl _,H,I.kept (t':=tk) fun b o hbo=>kp b o (fun z=>?_) (Heap.get?_push_of_some _ hbo),rfl,e ▸ q⟩
  rw[w1g]at z;exact absurd (Heap.lt_size hbo) (by grind)
namespace RevT
open AutoSeq1 (wpAny_loadPart')
end RevT
open PySem PySem.Spec PyProof.Rows
variable{X:Cx}{e:Expr}{EE:L2.St->XK}{es:List Expr}{K:PySem.W.Frag}
structure ExcCls(K:PySem.W.Frag)(D:Addr):Prop where
 ga:findIn K (.ref D) "__getattribute__"=some (some (.builtin "BaseException.__getattribute__"))
 gt:findIn K (.ref D) "__getattr__"=some none
 cl:findIn K (.ref D) "__class__"=some (some (.builtin "object.__class__"))
 gs:specialIn K (.builtin "object.__class__") "__get__"=some (some (.builtin "getset_descriptor.__get__"))
 tk:takesIn K (.builtin "object.__class__")=some true
 mo:PySem.W.mroIn K D (.type "object")=some true
 mb:PySem.W.mroIn K D (.type "BaseException")=some true
 cd:(PySem.W.clsIn K D).isSome=true
def excClsIn(K:PySem.W.Frag)(D:Addr):Bool:=
 findIn K (.ref D) "__getattribute__"==some (some (.builtin "BaseException.__getattribute__"))&&findIn K (.ref D) "__getattr__"==some none &&
 findIn K (.ref D) "__class__"==some (some (.builtin "object.__class__"))&&specialIn K (.builtin "object.__class__") "__get__"==some (some (.builtin "getset_descriptor.__get__")) &&
 takesIn K (.builtin "object.__class__")==some true&&PySem.W.mroIn K D (.type "object")==some true&&PySem.W.mroIn K D (.type "BaseException")==some true&&(PySem.W.clsIn K D).isSome
theorem ExcCls.of(h:excClsIn K D=true):ExcCls K D:=by
 unfold excClsIn at h;simp only[w0p,beq_iff_eq]at h;obtain⟨⟨⟨⟨⟨⟨⟨h1,h2⟩,h3⟩,h4⟩,h5⟩,h6⟩,h7⟩,h8⟩:=h;exact⟨h1,h2,h3,h4,h5,h6,h7,h8⟩
def ExcAt(e D:Addr)(h:Heap):Prop:=∃o vs,h.get? e=some o/\o.cls=.ref D/\o.data=.fields vs
section
variable{A:Around}{s:Shared}{e:Addr}
open PySem.W Builtin Builtin.ObjectAttr Builtin.Getset_descriptor
theorem x0w(p:ExcAt e D h):Looks M h (typeOf (.ref e)) (.ref D):=by
 obtain⟨o,vs,h1,h2,h3⟩:=p;exact h2 ▸ (Looks.ld h1).andThen .now
theorem y2l(X:K.In h)(C:ExcCls K D):Looks M h (find (.ref e) (.ref D) "__class__") (.bind (.builtin "getset_descriptor.__get__") (.builtin "object.__class__")):=by
 have L1:=looks_findIn (M:=M) X C.cl;have L2:Looks M h (getOf (some (.builtin "object.__class__"))) (some (.builtin "getset_descriptor.__get__")):=looks_specialIn X C.gs;have L3:=looks_takesIn (M:=M) X C.tk;refine L1.andThen (L2.andThen ?_);exact(show Looks M h (dataDescriptor? (some (.builtin "object.__class__")) (some (.builtin "getset_descriptor.__get__"))) (some (.builtin "getset_descriptor.__get__", .builtin "object.__class__"))from L3.andThen .now).andThen (Looks.tag .now)
theorem y6c(X:K.In s.heap)(p:ExcAt e D s.heap)(hm:mroIn K D (.type "object")=some true)
  (h:R (.ok (.ret (.ref D))) s):codeAny (model prog w) A (.call (.builtin "getset_descriptor.__get__") ⟨[.builtin "object.__class__", .ref e,tp],[]⟩) R s:=by
 obtain⟨hh,g,dr,t,os⟩:=s;have L0:=x0w (M:=model prog w) p;have L1:=looks_mroIn (M:=model prog w) X hm;refine codeAny_call_builtin KF.slot_gs.plain KF.entry_gs (KF.slot_gs.check _ _ _ _ _ _ _ _ KF.type_class (KF.args_gs _ _ _) ?_);unfold Builtin.«getset_descriptor.__get__» descrGet;rw[dga_obj];refine wpAny_bind (wpAny_pure ?_);unfold descrGetter descrCheckInstance descrNameAndClass isInstance;simp only[KF.owner_class]
 repeat lk
 refine⟨Code.quiet_builtin _ (by decide +kernel),codeAny_builtin KF.entry_class ?_⟩;unfold Builtin.«object.__class__» shownTypeOf
 repeat lk
 exact h
theorem x88{t:Nat}{os:OsState}(X:K.In h)(p:ExcAt e D h)(hm:mroIn K D (.type "BaseException")=some true)(hq:Q () ⟨h,g,d,t,os⟩):
  wpAny M A (checkBuiltinCall "BaseException.__getattribute__" ⟨[.ref e,nameV],[]⟩) Q E ⟨h,g,d,t,os⟩:=by
 have hk:builtinKind "BaseException.__getattribute__"=some .slot:=by decide +kernel
 have hsplit:splitId "BaseException.__getattribute__"=some ("BaseException", "__getattribute__"):=by decide +kernel
 have L0:=x0w (M:=M) p;have L1:=looks_mroIn (M:=M) X hm;have LI:Looks M h (isInstance (.ref e) (.type "BaseException")) true:=L0.andThen L1;have ha:=PySem.F.args_bexc_ga (.ref e) nameV;simp only[checkBuiltinCall,hk,hsplit];refine wpAny_bind (LI.at ?_);rw[if_neg (by decide)];unfold argsOk at ha
 grind [wpAny_pure]
theorem x89(X:K.In s.heap)(p:ExcAt e D s.heap)(C:ExcCls K D)(h:Q (some (.ref D)) {s with toks:=s.toks+1}):wpAny (model prog w) A (getAttr? (.ref e) "__class__") Q E s:=by
 obtain⟨hh,g,d,t,os⟩:=s;have L0:=x0w (M:=model prog w) p;have L1:=looks_findIn (M:=model prog w) X C.ga;have L2:=looks_findIn (M:=model prog w) X C.gt;have L3:=y2l (M:=model prog w) (e:=e) X C;unfold getAttr? getAttrBy? getAttrBy;refine wpAny_bind (wpAny_mkText (wpAny_bind (wpAny_attempt (wpAny_holding (wpAny_bind (L0.at (wpAny_bind (L1.at ?_))))))));have hx2:(Value.builtin "BaseException.__getattribute__"==Value.builtin "object.__getattribute__")=false:=by decide +kernel
 have hx1:(onTheHeap (Value.ref D)&&Value.builtin "BaseException.__getattribute__"==Value.builtin "object.__getattribute__")=false:=by rw[hx2];rfl
 dsimp only;rw[if_neg (by rw[hx1];decide)];unfold getAttrByItsOwn hookBefore;rw[if_pos (by rfl)];refine wpAny_bind (L2.at ?_);refine wpAny_bind (wpAny_attempt (wpAny_holding ?_));unfold callGetattribute;rw[if_neg (by decide)];unfold boundAndCalled;have f3:=PySem.F.excAttr_ValueError.ga.bind (.ref e);refine wpAny_bind (wpAny_of_eq f3 ?_);refine wpAny_call (codeAny_call_builtin PySem.F.excAttr_ValueError.ga.plain F.entry_bexc_ga (x88 (K:=K) (D:=D) X p C.mb ?_));unfold Builtin.«object.__getattribute__»;refine wpAny_bind (wpAny_of_eq (a:=(Value.ref e,[Value.str (Str.ofString "__class__") t])) (by rfl) ?_);dsimp only;refine wpAny_bind (wpAny_of_eq (a:=Str.ofString "__class__") (by rfl) ?_);refine wpAny_bind (L0.at (wpAny_bind (L3.at ?_)));dsimp only;unfold bindTo;refine wpAny_bind (wpAny_holding (wpAny_call (y6c (K:=K) (D:=D) X p C.mo ?_)));dsimp only;refine wpAny_pure ?_;dsimp only;refine wpAny_of_eq (a:=Value.ref D) (by rfl) ?_;exact wpAny_pure h
theorem y2m(C:ExcCls K D):KitX K (.ref e) (.ref D) (ExcAt e D) where
 ty:=fun _ _ _ p=>x0w p
 it:=fun M h X p=>by
  have hcD:=C.cd;unfold clsIn at hcD;split at hcD
  ·rename_i c' d' cd' sl' ho;intro A' Q' E' s' k q;unfold isType loadHead;exact wpAny_bind (wpAny_loadPart (k _ _ (X _ _ ho)) (wpAny_pure q))
  ·cases hcD
 ne:=fun h tp dd its n sl X htp=>by
  refine Bool.eq_false_iff.mpr fun q=>?_
  have e1:D=tp:=Value.ref.inj (beq_iff_eq.mp q);subst e1;have hcD:=C.cd;unfold clsIn at hcD;split at hcD
  ·rename_i c' d' cd' sl' ho;have z:=(X _ _ ho).symm.trans htp;cases z
  ·cases hcD
 ca:=fun X p k=>x89 X p C k
end
def ClsV:V->Value->Prop
 |.ty n,c=>c=.type n
 |.ref a,c=>c=.ref a
 |_,_=>False
structure Cal(P:Program)(w:World)(K:PySem.W.Frag)(mg:Str->Option Value)(base:Heap)(k:Nat)(x:Str)(ps:List Str)(sp:Sp):Prop where
 ex:∃f fd,FnOk P w K mg base (CX1 P w) k f fd ps sp/\mg x=some (.ref f)/\keepIn K (.ref f)=true/\Binds K fd ps []
structure CalH(P:Program)(w:World)(K:PySem.W.Frag)(mg:Str->Option Value)(base:Heap)(k:Nat)(x:Str)(ps:List Str)(sp:Sp):Prop where
 ex:∃f fd,FnOkH P w K mg base k f fd ps sp/\mg x=some (.ref f)/\keepIn K (.ref f)=true/\Binds K fd ps []
structure At(K:PySem.W.Frag)(mg:Str->Option Value)(x:Str)(st:Stmt)(ps:List Str):Prop where
 ex:∃f fd,Fun K x x st f fd/\mg x=some (.ref f)/\Binds K fd ps []
theorem At.cal{st:Stmt}(F:At K mg x st ps)(S:FnScope N ps (defScope st))(len:∀vs H Q E,sp vs H Q E->vs.length=ps.length)
  (hbody:∀(f:Addr)(cdv:Value)(A:Around)(outer:List Env)(s:Shared)(H:Hp)(vs:List V)(Q:VK)(E:XK),Room k (A.deeper (envOfC x (defScope st) s.heap.objs.size f cdv))->sp vs H Q E ->
   ∃t,PSs (cxOf (CX1 P w) P w K mg base N x (defScope st) f cdv A outer s H E) (defBody st) t/\t {nx:=fun _ H'=>Q .non H',rt:=Q} (start N vs) H):Cal P w K mg base (k+1) x ps sp:=by
 obtain⟨f,fd,F,m,b⟩:=F.ex;exact⟨f,fd,F.okX S len (hbody f),m,F.kp,b⟩
section
variable{k:Nat}{ps:List Str}{sp:Sp}{x:Str}{p pos:Pos}{t:TA}
theorem x4d(C:Cal X.prog X.w X.K X.mg X.base k x ps sp)(hr:Room k X.A)(hx:PassX (CX1 X.prog X.w) X EE)(ha:PA X (e::es) t)(hg:Gl X x:=by rfl)
  (hdb:(x==("__debug__":Str))=false:=by decide)(he:starEach (e::es) X.env=(false,eval e X.env)::starEach es X.env:=by rfl)(hpl:(backTo pos (starEach es X.env)).any (·.1)=false:=by rfl):
  PE X (.Call (.Name x p) (e::es) [] pos) (tCallX sp [] EE t):=by
 obtain⟨f,fd,F,m,kp,b⟩:=C.ex;exact y2j F hr hg m kp b .nil hx ha hdb he hpl
end
section
variable{te:TE}{t:TA}{pos pos' p:Pos}{x:Str}
theorem x0x(i:Nat)(hN:X.N.Nodup)(he:PE X e te)(hi:X.N[i]?=some x:=by rfl)(hx:Loc X.env.scope x:=by walk_at "3")(hs:swapsWith e (some (.Name x pos')) pos.line X.env=pure false:=by rfl)(hf:X.fn x=true\/X.env.scope.names.lookup x=some .local:=by walk_at "2"):
  PS X (.Assign [.Name x pos'] e pos) (tAsg te (gName i)):=y95 hN hi hx he hs hf
theorem q2q(i:Nat)(hN:X.N.Nodup)(hi:X.N[i]?=some x:=by rfl)(hx:Loc X.env.scope x:=by walk_at "3")(hf:X.fn x=true\/X.env.scope.names.lookup x=some .local:=by walk_at "2"):PG X (.Name x pos) (gName i):=y5y hN hi hx hf
theorem z0l{o:Expr}{to:TE}{apos:Pos}(ho:PE X o to)(ha:PA X (e::es) t)(hbase:attributeBase o "append" X.env (eval o X.env)=eval o X.env:=by rfl)
  (hfew:((backTo pos (starEach (e::es) X.env)).all (fun x=>!x.1)&&(backToKw pos (keywordEach [] X.env)).all (fun x=>x.1.isSome)&&decide ((e::es).length+([]:List Keyword).length+(if([]:List Keyword).isEmpty then 0 else 1)<30))=true:=by rfl)
  (hline:(apos.endLine==pos.line)=true:=by rfl)(hs:starEach (e::es) X.env=(false,eval e X.env)::starEach es X.env:=by rfl)(hplain:(backTo pos (starEach es X.env)).any (·.1)=false:=by rfl):
  PE X (.Call (.Attribute o "append" apos) (e::es) [] pos) (tBM X.K "list" rAppend to t):=x3s PySem.F.plainAttrs_list PySem.F.slot_list_append PySem.F.type_list_append q8i ho ha hbase hfew hline hs hplain
end
theorem q24(h:H p=none)(o):Same H (upd H p o):=fun b u q=>by rw[q0f (q0o q h)];exact q
theorem Same.tup(e:Same H H')(h:SqT K H a xs):SqT K H' a xs:=by
 rcases h with(h|⟨o,h⟩)|h
 ·exact .inl (.inl (e _ _ h))
 ·exact .inl (.inr ⟨o,e _ _ h⟩)
 ·exact .inr h
noncomputable abbrev fnO(o:Obj)(q:Str)(c:Addr):HO:=.frz o (.tbl #[.bool false,.str q 0,.ref c])
noncomputable abbrev celO(o:Obj):HO:=.frz o (.ext fun _=>True)
noncomputable abbrev Cs:=List (Addr×Obj)
structure LamScope(ps Nf:List Str)(sc:Scope):Prop where
 kind:sc.kind=.function
 co:sc.isCoroutine=false
 gen:sc.isGenerator=false
 nd:ps.Nodup
 nocell:∀y∈sc.names,y.2≠.cell
 par:∀x∈ps,sc.names.lookup x=some .local
 fr:∀y∈Nf,sc.names.lookup y=some .free
structure LamCells(cl:List (Str×Addr))(Nf:List Str)(sc:Scope)(zs:List V)(h:Heap)(cs:Cs):Prop where
 inj:∀x y c,cl.lookup x=some c->cl.lookup y=some c->x=y
 has:∀x,(x,NameKind.free)∈sc.names->∃c,cl.lookup x=some c
 all:∀x c,cl.lookup x=some c->∃o,cs.lookup c=some o
 cel:∀c o,cs.lookup c=some o->h.get? c=some o/\∃v,o.data=.cell v
 val:∀(i:Nat) y z,Nf[i]?=some y->zs[i]?=some z->∃c o u,cl.lookup y=some c/\cs.lookup c=some o/\o.data=.cell (some u)/\RelV z u
def BMain(h:Heap)(mg:Str->Option Value):Prop:=∃bm ob,mg "__builtins__"=some (.ref bm)/\bm≠builtinsNs/\h.get? bm=some ob/\ob.cls=.type "module" /\ ob.dict=some builtinsNs/\ob.data=.plain
structure Maker(X:Cx):Prop where
 ex:∃c P a,X.env.code=.ref c/\PySem.W.codeHdIn X.K c P=true/\(a,markO P (X.env.qual++"<lambda>"))∈X.K
 bm:BMain X.base X.mg
structure CellsOf(clos:List (Str×Addr))(Nf:List Str)(scope:Scope)(js:List Nat)(σ:St)(H:Hp)(cs:Cs):Prop where
 inj:∀x y c,clos.lookup x=some c->clos.lookup y=some c->x=y
 has:∀x,(x,NameKind.free)∈scope.names->∃c,clos.lookup x=some c
 all:∀x c,clos.lookup x=some c->∃o,cs.lookup c=some o
 cel:∀c o,cs.lookup c=some o->H c=none/\∃v,o.data=.cell v
 val:∀(i:Nat) y j z,Nf[i]?=some y->js[i]?=some j->σ[j]?=some (some z)->∃c o u,clos.lookup y=some c/\cs.lookup c=some o/\o.data=.cell (some u)/\RelV z u
set_option maxHeartbeats 1000000
def Sh.isN:Sh->Bool
 |.many .int=>true
 |_=>false
def Sh.isI:Sh->Bool
 |.int=>true
 |.str=>true
 |_=>false
end L2
namespace D
open PySem L2
variable{G H:Hp}{EE:L2.St->XK}{es:List Expr}{pos pos':Pos}{K:PySem.W.Frag}{σ:St}
noncomputable abbrev Sv:=Int ⊕ Bool
inductive Dd where
 |k (kvs:List (Key×Sv))
structure Lm where
 qual:Str
 params:Arguments
 body:Expr
 scope:Scope
 nf:List Str
set_option genInjectivity true in
inductive W where
 |non|bl (b:Bool)|int (i:Int)|str (x:Str)|tup (xs:List W)|lst (xs:List W)|exc (c:Value)|dic (kvs:Dd)|dw (fz:Bool) (sh:Sh) (ks:List Kx) (ws:List W)|fn (i:Nat) (l:Lm) (ws:List W)
inductive SK where
 |old (w:W)|new (w:W)|acc (ws:List W)|thro (us ws vs:List W)|tn (us:List W) (wss:List (List W))|pt (us ws:List W) (w:W)|fz (w:W)|fzo (w:W)
inductive S where
 |no|fr (w:W)|own (io:Option Nat) (ws:List W)|dic (kvs:Dd)|thr (us ws vs:List W)|nest (wss:List (List W))|dw (sh:Sh) (ks:List Kx) (ws:List W)|x (k:SK)
def SK.plain:SK->Option W
 |.old w=>some w
 |.new w=>some w
 |_=>none
def SK.look:SK->Option W
 |.old w=>some w
 |.new w=>some w
 |.acc ws=>some (.lst ws)
 |_=>none
def sV:Sv->V
 |.inl i=>.int i
 |.inr b=>.bl b
def kvV{κ:Type}(kvs:List (κ×Sv)):List (κ×V):=kvs.map fun p=>(p.1,sV p.2)
def dO:Dd->HO
 |.k kvs=>.dK (kvV kvs)
def isDic:HO->Bool
 |.dK _=>true
 |_=>false
theorem q3k(h:isDic u=false):dO d≠u:=fun z=>by
 subst z;cases d<;>cases h
def KeysG(G:Hp):List Kx->List Addr->Prop
 |[],[]=>True
 |k::ks,b::bs=>KRep G k (.ref b)/\KeysG G ks bs
 |[],_::_=>False
 |_::_,[]=>False
theorem KeysG.mono(e:Same G G'):∀{ks:List Kx}{bs:List Addr},KeysG G ks bs->KeysG G' ks bs
 |[],[],_=>trivial
 |k::ks,b::bs,h=>⟨KRep.keeps (fun _ _ _ z=>e _ _ z) k h.1,KeysG.mono e h.2⟩
 |[],_::_,h=>h.elim
 |_::_,[],h=>h.elim
def kxK:Kx->Key
 |.int i=>.inl i
 |.str x=>.inr x
 |_=>.inl 0
def keyI:Sh->Kx->Prop
 |.int,k=>∃i,k=.int i
 |.str,k=>∃x,k=.str x
 |_,_=>False
def dwO(sh:Sh)(kvs:List (Kx×V))(kas:List Addr):HO:=if sh.isI=true then .dK (kvs.map fun p=>(kxK p.1,p.2))else .dT sh kvs kas
def isDT:HO->Bool
 |.dK _=>true
 |.dT _ _ _=>true
 |_=>false
theorem q53(h:isDT u=false):dwO sh kvs kas≠u:=fun z=>by
 subst z;unfold dwO at h;split at h<;>cases h
theorem z4g(h:sh.isI=false):dwO sh kvs kas=.dT sh kvs kas:=if_neg (by grind)
def KeysS(sh:Sh)(G:Hp)(ks:List Kx)(kas:List Addr):Prop:=if sh.isI=true then ∀k∈ks,keyI sh k else KeysG G ks kas
theorem KeysS.mono(e:Same G G')(h:KeysS sh G ks bs):KeysS sh G' ks bs:=by
 unfold KeysS at h |-
 split at h
 ·grind
 ·rename_i hi;rw[if_neg hi];exact h.mono e
def DAt(fz:Bool)(G:Hp)(a:Addr)(sh:Sh)(kvs:List (Kx×V))(kas:List Addr):Prop:=if fz=true then ∃o,G a=some (.frz o (dwO sh kvs kas))else G a=some (dwO sh kvs kas)
theorem DAt.ex(h:DAt fz G a sh kvs kas):∃o,G a=some o:=by
 grind [DAt]
theorem DAt.mono(e:Same G G')(h:DAt fz G a sh kvs kas):DAt fz G' a sh kvs kas:=by
 cases fz with
 |true=>obtain⟨o,h⟩:=h;exact⟨o,e _ _ h⟩
 |false=>exact e _ _ h
structure FnCells(G:Hp)(cl:List (Str×Addr))(l:Lm)(zs:List V)(cs:Cs):Prop where
 inj:∀x y c,cl.lookup x=some c->cl.lookup y=some c->x=y
 has:∀x,(x,NameKind.free)∈l.scope.names->∃c,cl.lookup x=some c
 all:∀x c,cl.lookup x=some c->∃o,cs.lookup c=some o
 cel:∀c o,cs.lookup c=some o->G c=some (celO o)/\∃v,o.data=.cell v
 val:∀(i:Nat) y z,l.nf[i]?=some y->zs[i]?=some z->∃c o u,cl.lookup y=some c/\cs.lookup c=some o/\o.data=.cell (some u)/\RelV z u
 len:zs.length=l.nf.length
theorem FnCells.mono(e:Same G G')(h:FnCells G cl l zs cs):FnCells G' cl l zs cs:=⟨h.inj,h.has,h.all,fun c o q=>⟨e _ _ (h.cel c o q).1,(h.cel c o q).2⟩,h.val,h.len⟩
def FnAtG(G:Hp)(l:Lm)(cl:List (Str×Addr))(f:Addr):Prop:=∃pm c' ctv,G f=some (fnO (PySem.W.kla_obj "<lambda>" l.qual l.params l.body l.scope cl pm c' ctv) l.qual c')
inductive RefTo(v:V)(P Q:Addr->List V->Prop):Prop where
 |mk (a:Addr) (xs:List V) (h:v=.ref a) (p:P a xs) (q:Q a xs):RefTo v P Q
inductive ConsOf(xs:List V)(P:V->Prop)(Q:List V->Prop):Prop where
 |mk (x:V) (r:List V) (h:xs=x::r) (p:P x) (q:Q r):ConsOf xs P Q
mutual
def Rep(K:PySem.W.Frag)(G:Hp):W->V->Prop
 |.non,v=>v=.non
 |.bl b,v=>v=.bl b
 |.int i,v=>v=.int i
 |.str x,v=>v=.str x
 |.tup ws,v=>RefTo v (SqT K G) fun _ xs=>Reps K G ws xs
 |.lst ws,v=>RefTo v (SqL K G) fun _ xs=>Reps K G ws xs
 |.exc c,v=>∃e,v=.ref e/\G e=some (excO e c)
 |.dic kvs,v=>∃e,v=.ref e/\G e=some (dO kvs)
 |.dw fz sh ks ws,v=>∃a kvs kas,v=.ref a/\DAt fz G a sh kvs kas/\kvs.map (·.1)=ks/\KeysS sh G ks kas/\Reps K G ws (kvs.map (·.2))
 |.fn _ l ws,v=>∃f cl zs cs,v=.ref f/\FnAtG G l cl f/\FnCells G cl l zs cs/\Reps K G ws zs
def Reps(K:PySem.W.Frag)(G:Hp):List W->List V->Prop
 |[],xs=>xs=[]
 |w::ws,xs=>ConsOf xs (Rep K G w) (Reps K G ws)
end
mutual
theorem Rep.mono{K:PySem.W.Frag}{G G':Hp}(e:Same G G'):∀(w:W){v:V},Rep K G w v->Rep K G' w v
 |.non,v,h=>h
 |.bl b,v,h=>h
 |.int i,v,h=>h
 |.str x,v,h=>h
 |.tup ws,v,h=>by
  obtain⟨a,xs,rfl,q,r⟩:=h;exact⟨a,xs,rfl,e.tup q,Reps.mono e ws r⟩
 |.lst ws,v,h=>by
  obtain⟨a,xs,rfl,q,r⟩:=h;exact⟨a,xs,rfl,e.seq q,Reps.mono e ws r⟩
 |.exc c,v,h=>by
  obtain⟨a,rfl,q⟩:=h;exact⟨a,rfl,e _ _ q⟩
 |.dic kvs,v,h=>by
  obtain⟨a,rfl,q⟩:=h;exact⟨a,rfl,e _ _ q⟩
 |.dw fz sh ks ws,v,h=>by
  obtain⟨a,kvs,kas,rfl,h1,h2,h3,h4⟩:=h;exact⟨a,kvs,kas,rfl,h1.mono e,h2,h3.mono e,Reps.mono e ws h4⟩
 |.fn i l ws,v,h=>by
  obtain⟨f,cl,zs,cs,rfl,⟨pm,c',ctv,h1⟩,h2,h3⟩:=h;exact⟨f,cl,zs,cs,rfl,⟨pm,c',ctv,e _ _ h1⟩,h2.mono e,Reps.mono e ws h3⟩
theorem Reps.mono{K:PySem.W.Frag}{G G':Hp}(e:Same G G'):∀(ws:List W){xs:List V},Reps K G ws xs->Reps K G' ws xs
 |[],xs,h=>h
 |w::ws,xs,h=>by
  obtain⟨x,r,rfl,h1,h2⟩:=h;exact⟨x,r,rfl,Rep.mono e w h1,Reps.mono e ws h2⟩
end
theorem Reps.length:∀{ws:List W}{xs:List V},Reps K G ws xs->xs.length=ws.length
 |[],xs,h=>by cases h;rfl
 |w::ws,xs,h=>by
  obtain⟨x,r,rfl,_,h2⟩:=h;simp[Reps.length h2]
theorem Reps.get:∀{ws:List W}{xs:List V}{i:Nat}{w:W},Reps K G ws xs->ws[i]?=some w->∃x,xs[i]?=some x/\Rep K G w x
 |[],xs,i,w,h,e=>by simp at e
 |w'::ws,xs,0,w,h,e=>by
  obtain⟨x,r,rfl,h1,h2⟩:=h
  grind
 |w'::ws,xs,i+1,w,h,e=>by
  obtain⟨x,r,rfl,h1,h2⟩:=h;obtain⟨y,e1,e2⟩:=Reps.get (i:=i) h2 (by simpa using e)
  grind
theorem Reps.getV:∀{ws:List W}{xs:List V}{i:Nat}{x:V},Reps K G ws xs->xs[i]?=some x->∃w,ws[i]?=some w/\Rep K G w x:=fun {ws xs i x} h e=>by
 have hl:=h.length;have hi:i<xs.length:=(w0n.mp e).1;have e2:ws[i]?=some ws[i]:=w0a (by omega);obtain⟨y,e3,r⟩:=h.get e2
 grind
theorem Reps.append:∀{ws ws':List W}{xs xs':List V},Reps K G ws xs->Reps K G ws' xs'->Reps K G (ws++ws') (xs++xs')
 |[],ws',xs,xs',h,h'=>by cases h;exact h'
 |w::ws,ws',xs,xs',h,h'=>by
  obtain⟨x,r,rfl,h1,h2⟩:=h;exact⟨x,r++xs',rfl,h1,Reps.append h2 h'⟩
theorem Reps.one(h:Rep K G w x):Reps K G [w] [x]:=⟨x,[],rfl,h,rfl⟩
theorem Reps.take:∀(n:Nat){ws:List W}{xs:List V},Reps K G ws xs->Reps K G (ws.take n) (xs.take n)
 |0,_,_,_=>rfl
 |n+1,[],_,h=>by cases h;rfl
 |n+1,w::ws,_,h=>by
  obtain⟨x,r,rfl,h1,h2⟩:=h;exact⟨x,r.take n,rfl,h1,Reps.take n h2⟩
theorem Reps.drop:∀(n:Nat){ws:List W}{xs:List V},Reps K G ws xs->Reps K G (ws.drop n) (xs.drop n)
 |0,_,_,h=>h
 |n+1,[],_,h=>by cases h;rfl
 |n+1,w::ws,_,h=>by
  obtain⟨x,r,rfl,h1,h2⟩:=h;exact Reps.drop n h2
theorem Reps.dropLast(h:Reps K G ws xs):Reps K G ws.dropLast xs.dropLast:=by
 rw[w4m,w4m,h.length];exact h.take _
structure Zt where
 H:Hp
 G:Hp
 io:List Addr
variable{Z:Zt}
def FzAt(Z:Zt)(G H:Hp)(l:Addr)(o:Obj)(ys:List V):Prop:=H l=some (.frz o (.lst ys))/\G l=none/\Z.H l=none
def NestIn(K:PySem.W.Frag)(Z:Zt)(G H:Hp):List Addr->List (List W)->Prop
 |[],[]=>True
 |l::ls,ws::wss=>(∃o ys,FzAt Z G H l o ys/\Reps K G ws ys)/\NestIn K Z G H ls wss
 |[],_::_=>False
 |_::_,[]=>False
inductive NestOk(K:PySem.W.Frag)(Z:Zt)(G H:Hp)(wss:List (List W))(v:Option V):Prop where
 |mk (a:Addr) (ls:List Addr) (h1:v=some (.ref a)) (h2:G a=some (.lst (ls.map V.ref))) (h3:ls.Nodup) (h4:NestIn K Z G H ls wss):NestOk K Z G H wss v
theorem NestIn.move(sg:Same G G')(hf:∀l o ys,H l=some (.frz o (.lst ys))->G l=none->Z.H l=none->H' l=some (.frz o (.lst ys))/\G' l=none/\Z'.H l=none):∀{ls:List Addr}{wss:List (List W)},NestIn K Z G H ls wss->NestIn K Z' G' H' ls wss
 |[],[],_=>trivial
 |l::ls,ws::wss,⟨⟨o,ys,⟨h1,h2,h3⟩,h4⟩,h⟩=>⟨⟨o,ys,hf l o ys h1 h2 h3,Reps.mono sg ws h4⟩,h.move sg hf⟩
 |[],_::_,h=>h.elim
 |_::_,[],h=>h.elim
theorem NestOk.move(q:NestOk K Z G H wss v)(sg:Same G G')(hf:∀l o ys,H l=some (.frz o (.lst ys))->G l=none->Z.H l=none->H' l=some (.frz o (.lst ys))/\G' l=none/\Z'.H l=none):NestOk K Z' G' H' wss v:=by
 obtain⟨a,ls,h1,h2,h3,h4⟩:=q;exact⟨a,ls,h1,sg _ _ h2,h3,h4.move sg hf⟩
def LNd(ws:List W)(xs:List V):Prop:=(∀w∈ws,∃us,w=.lst us)->xs.Nodup
mutual
def RepN(K:PySem.W.Frag)(Z:Zt)(G:Hp):W->V->Prop
 |.non,v=>v=.non
 |.bl b,v=>v=.bl b
 |.int i,v=>v=.int i
 |.str x,v=>v=.str x
 |.tup ws,v=>RefTo v (SqT K G) fun _ xs=>RepNs K Z G ws xs
 |.lst ws,v=>RefTo v (fun a xs=>G a=some (.lst xs)) fun a xs=>Z.H a=none/\RepNs K Z G ws xs/\LNd ws xs
 |.exc _,_=>False
 |.dic _,_=>False
 |.dw fz sh ks ws,v=>∃a kvs kas,v=.ref a/\DAt fz G a sh kvs kas/\Z.H a=none/\kvs.map (·.1)=ks/\KeysS sh G ks kas/\RepNs K Z G ws (kvs.map (·.2))
 |.fn _ _ _,_=>False
def RepNs(K:PySem.W.Frag)(Z:Zt)(G:Hp):List W->List V->Prop
 |[],xs=>xs=[]
 |w::ws,xs=>ConsOf xs (RepN K Z G w) (RepNs K Z G ws)
end
mutual
theorem RepN.rep{K:PySem.W.Frag}{Z:Zt}{G:Hp}:∀(w:W){v:V},RepN K Z G w v->Rep K G w v
 |.non,_,h=>h
 |.bl _,_,h=>h
 |.int _,_,h=>h
 |.str _,_,h=>h
 |.tup ws,_,⟨a,xs,e,q,r⟩=>⟨a,xs,e,q,RepNs.reps ws r⟩
 |.lst ws,_,⟨a,xs,e,q,_,r,_⟩=>⟨a,xs,e,.inl (.inl q),RepNs.reps ws r⟩
 |.exc _,_,h=>h.elim
 |.dic _,_,h=>h.elim
 |.dw _ _ _ ws,_,⟨a,kvs,kas,e,q,_,h1,h2,r⟩=>⟨a,kvs,kas,e,q,h1,h2,RepNs.reps ws r⟩
 |.fn _ _ _,_,h=>h.elim
theorem RepNs.reps{K:PySem.W.Frag}{Z:Zt}{G:Hp}:∀(ws:List W){vs:List V},RepNs K Z G ws vs->Reps K G ws vs
 |[],_,h=>h
 |w::ws,_,⟨x,r,e,p,q⟩=>⟨x,r,e,RepN.rep w p,RepNs.reps ws q⟩
end
mutual
theorem RepN.move{K:PySem.W.Frag}{Z Z':Zt}{G G':Hp}(sg:Same G G')(hz:∀a o,G a=some o->Z.H a=none->Z'.H a=none):∀(w:W){v:V},RepN K Z G w v->RepN K Z' G' w v
 |.non,_,h=>h
 |.bl _,_,h=>h
 |.int _,_,h=>h
 |.str _,_,h=>h
 |.tup ws,_,⟨a,xs,e,q,r⟩=>⟨a,xs,e,sg.tup q,RepNs.move sg hz ws r⟩
 |.lst ws,_,⟨a,xs,e,q,n,r,nd⟩=>⟨a,xs,e,sg _ _ q,hz _ _ q n,RepNs.move sg hz ws r,nd⟩
 |.exc _,_,h=>h.elim
 |.dic _,_,h=>h.elim
 |.dw _ _ _ ws,_,⟨a,kvs,kas,e,q,n,h1,h2,r⟩=>⟨a,kvs,kas,e,q.mono sg,(let ⟨_,z⟩:=q.ex;hz _ _ z n),h1,h2.mono sg,RepNs.move sg hz ws r⟩
 |.fn _ _ _,_,h=>h.elim
theorem RepNs.move{K:PySem.W.Frag}{Z Z':Zt}{G G':Hp}(sg:Same G G')(hz:∀a o,G a=some o->Z.H a=none->Z'.H a=none):∀(ws:List W){vs:List V},RepNs K Z G ws vs->RepNs K Z' G' ws vs
 |[],_,h=>h
 |w::ws,_,⟨x,r,e,p,q⟩=>⟨x,r,e,RepN.move sg hz w p,RepNs.move sg hz ws q⟩
end
def RepsX(K:PySem.W.Frag)(Z:Zt)(G:Hp)(sh:Sh)(ws:List W)(vs:List V):Prop:=if sh.isN=true then RepNs K Z G ws vs else Reps K G ws vs
theorem RepsX.reps(h:RepsX K Z G sh ws vs):Reps K G ws vs:=by
 grind [RepsX,RepNs.reps]
theorem RepsX.of(hs:sh.isN=false)(h:Reps K G ws vs):RepsX K Z G sh ws vs:=by
 simp_all [RepsX]
theorem RepsX.move(h:RepsX K Z G sh ws vs)(sg:Same G G')(hz:∀a o,G a=some o->Z.H a=none->Z'.H a=none):RepsX K Z' G' sh ws vs:=by
 unfold RepsX at h |-
 split at h
 ·rename_i q;rw[if_pos q];grind [RepNs.move]
 ·rename_i q;rw[if_neg q];exact Reps.mono sg ws h
inductive DwOk(K:PySem.W.Frag)(Z:Zt)(G H:Hp)(sh:Sh)(ks:List Kx)(ws:List W)(v:Option V):Prop where
 |mk (a:Addr) (kvs:List (Kx×V)) (kas:List Addr) (h1:v=some (.ref a)) (h2:H a=some (dwO sh kvs kas)) (h3:G a=none) (h4:Z.H a=none) (h5:kvs.map (·.1)=ks) (h6:KeysS sh G ks kas) (h7:RepsX K Z G sh ws (kvs.map (·.2))):DwOk K Z G H sh ks ws v
theorem DwOk.move{Z':Zt}{G' H':Hp}{sh:Sh}{ks:List Kx}{ws:List W}{v:Option V}(q:DwOk K Z G H sh ks ws v)(sg:Same G G')(hf:∀a kvs kas,H a=some (dwO sh kvs kas)->G a=none->Z.H a=none->H' a=some (dwO sh kvs kas)/\G' a=none/\Z'.H a=none)(hz:∀a o,G a=some o->Z.H a=none->Z'.H a=none:=by intro _ _ _ z;exact z):DwOk K Z' G' H' sh ks ws v:=by
 obtain⟨a,kvs,kas,h1,h2,h3,h4,h5,h6,h7⟩:=q;obtain⟨k1,k2,k3⟩:=hf a kvs kas h2 h3 h4;exact⟨a,kvs,kas,h1,k1,k2,k3,h5,h6.mono sg,h7.move sg hz⟩
inductive AccOk(K:PySem.W.Frag)(Z:Zt)(G H:Hp)(ws:List W)(v:Option V):Prop where
 |mk (a:Addr) (o:Obj) (xs:List V) (h1:v=some (.ref a)) (h2:FzAt Z G H a o xs) (h3:RepNs K Z G ws xs) (h4:LNd ws xs):AccOk K Z G H ws v
inductive ThroOk(K:PySem.W.Frag)(Z:Zt)(G H:Hp)(us ws vs:List W)(v:Option V):Prop where
 |mk (t l:Addr) (o:Obj) (xs ys zs:List V) (h1:v=some (.ref t)) (h2:Z.G t=some (.tup (xs++.ref l::zs))) (h3:G t=some (.tup (xs++.ref l::zs))) (h4:FzAt Z G H l o ys) (h5:Reps K Z.G us xs/\Reps K Z.G ws ys/\Reps K Z.G vs zs) (h6:Reps K G us xs/\Reps K G ws ys/\Reps K G vs zs):ThroOk K Z G H us ws vs v
inductive TnOk(K:PySem.W.Frag)(Z:Zt)(G H:Hp)(us:List W)(wss:List (List W))(v:Option V):Prop where
 |mk (t l:Addr) (o:Obj) (ls:List Addr) (xs:List V) (h1:v=some (.ref t)) (h2:G t=some (.tup (xs++[.ref l]))) (h3:FzAt Z G H l o (ls.map V.ref)) (h4:ls.Nodup/\l∉ls) (h5:Reps K G us xs) (h6:NestIn K Z G H ls wss):TnOk K Z G H us wss v
inductive PtOk(K:PySem.W.Frag)(Z:Zt)(G H:Hp)(us ws:List W)(w:W)(v:Option V):Prop where
 |mk (p t l:Addr) (o:Obj) (xs ys:List V) (x:V) (h1:v=some (.ref p)) (h2:G p=some (.tup [.ref t,x])) (h3:G t=some (.tup (xs++[.ref l]))) (h4:FzAt Z G H l o ys) (h5:Reps K G us xs) (h6:Reps K G ws ys) (h7:Rep K G w x):PtOk K Z G H us ws w v
inductive ConsF(xs:List V)(as:List Addr)(P:V->List Addr->Prop)(Q:List V->List Addr->Prop):Prop where
 |mk (x:V) (r:List V) (b c:List Addr) (h:xs=x::r) (h':as=b++c) (p:P x b) (q:Q r c):ConsF xs as P Q
inductive LstF(as:List Addr)(a:Addr)(Q:List Addr->Prop):Prop where
 |mk (bs:List Addr) (h:as=a::bs) (q:Q bs):LstF as a Q
mutual
def RepF(K:PySem.W.Frag)(Z:Zt)(G H:Hp):W->V->List Addr->Prop
 |.non,v,as=>v=.non/\as=[]
 |.bl b,v,as=>v=.bl b/\as=[]
 |.int i,v,as=>v=.int i/\as=[]
 |.str x,v,as=>v=.str x/\as=[]
 |.tup ws,v,as=>RefTo v (SqT K G) fun _ xs=>RepFs K Z G H ws xs as
 |.lst ws,v,as=>RefTo v (fun a xs=>∃o,FzAt Z G H a o xs) fun a xs=>LstF as a (RepFs K Z G H ws xs)
 |.exc _,_,_=>False
 |.dic _,_,_=>False
 |.dw _ _ _ _,_,_=>False
 |.fn _ _ _,_,_=>False
def RepFs(K:PySem.W.Frag)(Z:Zt)(G H:Hp):List W->List V->List Addr->Prop
 |[],xs,as=>xs=[]/\as=[]
 |w::ws,xs,as=>ConsF xs as (RepF K Z G H w) (RepFs K Z G H ws)
end
mutual
theorem RepF.move{K:PySem.W.Frag}{Z Z':Zt}{G G' H H':Hp}(sg:Same G G'):∀(w:W){v:V}{as:List Addr},(∀l o ys,l∈as->FzAt Z G H l o ys->FzAt Z' G' H' l o ys)->RepF K Z G H w v as->RepF K Z' G' H' w v as
 |.non,_,_,_,h=>h
 |.bl _,_,_,_,h=>h
 |.int _,_,_,_,h=>h
 |.str _,_,_,_,h=>h
 |.tup ws,_,_,hf,⟨a,xs,e,q,r⟩=>⟨a,xs,e,sg.tup q,RepFs.move sg ws hf r⟩
 |.lst ws,_,_,hf,⟨a,xs,e,⟨o,q⟩,⟨bs,e2,r⟩⟩=>by
  subst e2;exact⟨a,xs,e,⟨o,hf _ _ _ (w0f ..) q⟩,bs,rfl,RepFs.move sg ws (fun l o ys z=>hf l o ys (w0c _ z)) r⟩
 |.exc _,_,_,_,h=>h.elim
 |.dic _,_,_,_,h=>h.elim
 |.dw _ _ _ _,_,_,_,h=>h.elim
 |.fn _ _ _,_,_,_,h=>h.elim
theorem RepFs.move{K:PySem.W.Frag}{Z Z':Zt}{G G' H H':Hp}(sg:Same G G'):∀(ws:List W){vs:List V}{as:List Addr},(∀l o ys,l∈as->FzAt Z G H l o ys->FzAt Z' G' H' l o ys)->RepFs K Z G H ws vs as->RepFs K Z' G' H' ws vs as
 |[],_,_,_,h=>h
 |w::ws,_,_,hf,⟨x,r,b,c,e,e2,p,q⟩=>by
  subst e2;exact⟨x,r,b,c,e,rfl,RepF.move sg w (fun l o ys z=>hf l o ys (w0x _ z)) p,RepFs.move sg ws (fun l o ys z=>hf l o ys (w0e _ z)) q⟩
end
mutual
theorem RepF.rep{K:PySem.W.Frag}{Z:Zt}{G G' H:Hp}(sg:Same G G')(hf:∀l o ys,FzAt Z G H l o ys->G' l=some (.frz o (.lst ys))):∀(w:W){v:V}{as:List Addr},RepF K Z G H w v as->Rep K G' w v
 |.non,_,_,h=>h.1
 |.bl _,_,_,h=>h.1
 |.int _,_,_,h=>h.1
 |.str _,_,_,h=>h.1
 |.tup ws,_,_,⟨a,xs,e,q,r⟩=>⟨a,xs,e,sg.tup q,RepFs.reps sg hf ws r⟩
 |.lst ws,_,_,⟨a,xs,e,⟨o,q⟩,⟨bs,_,r⟩⟩=>⟨a,xs,e,.inl (.inr ⟨o,hf _ _ _ q⟩),RepFs.reps sg hf ws r⟩
 |.exc _,_,_,h=>h.elim
 |.dic _,_,_,h=>h.elim
 |.dw _ _ _ _,_,_,h=>h.elim
 |.fn _ _ _,_,_,h=>h.elim
theorem RepFs.reps{K:PySem.W.Frag}{Z:Zt}{G G' H:Hp}(sg:Same G G')(hf:∀l o ys,FzAt Z G H l o ys->G' l=some (.frz o (.lst ys))):∀(ws:List W){vs:List V}{as:List Addr},RepFs K Z G H ws vs as->Reps K G' ws vs
 |[],_,_,h=>h.1
 |w::ws,_,_,⟨x,r,b,c,e,_,p,q⟩=>⟨x,r,e,RepF.rep sg hf w p,RepFs.reps sg hf ws q⟩
end
mutual
theorem RepF.fzs{K:PySem.W.Frag}{Z:Zt}{G H:Hp}:∀(w:W){v:V}{as:List Addr},RepF K Z G H w v as->∀{l:Addr},l∈as->∃o ys,FzAt Z G H l o ys
 |.non,_,_,h,_,m=>by rw[h.2]at m;cases m
 |.bl _,_,_,h,_,m=>by rw[h.2]at m;cases m
 |.int _,_,_,h,_,m=>by rw[h.2]at m;cases m
 |.str _,_,_,h,_,m=>by rw[h.2]at m;cases m
 |.tup ws,_,_,⟨a,xs,e,q,r⟩,_,m=>RepFs.fzs ws r m
 |.lst ws,_,_,⟨a,xs,e,⟨o,q⟩,⟨bs,e2,r⟩⟩,l,m=>by
  subst e2;rcases w0d.mp m with rfl|m
  ·exact⟨o,xs,q⟩
  ·exact RepFs.fzs ws r m
 |.exc _,_,_,h,_,_=>h.elim
 |.dic _,_,_,h,_,_=>h.elim
 |.dw _ _ _ _,_,_,h,_,_=>h.elim
 |.fn _ _ _,_,_,h,_,_=>h.elim
theorem RepFs.fzs{K:PySem.W.Frag}{Z:Zt}{G H:Hp}:∀(ws:List W){vs:List V}{as:List Addr},RepFs K Z G H ws vs as->∀{l:Addr},l∈as->∃o ys,FzAt Z G H l o ys
 |[],_,_,h,_,m=>by rw[h.2]at m;cases m
 |w::ws,_,_,⟨x,r,b,c,e,e2,p,q⟩,l,m=>by
  subst e2;rcases w0z.mp m with m|m
  ·exact RepF.fzs w p m
  ·exact RepFs.fzs ws q m
end
inductive FzOk(K:PySem.W.Frag)(Z:Zt)(G H:Hp)(w:W)(v:Option V):Prop where
 |mk (u:V) (as:List Addr) (h1:v=some u) (h2:as.Nodup) (h3:RepF K Z G H w u as):FzOk K Z G H w v
inductive FzoOk(K:PySem.W.Frag)(Z:Zt)(G H:Hp)(w:W)(v:Option V):Prop where
 |mk (u:V) (as:List Addr) (h1:v=some u) (h2:as.Nodup) (h3:RepF K Z Z.G H w u as) (h4:RepF K Z G H w u as):FzoOk K Z G H w v
def XOk(K:PySem.W.Frag)(Z:Zt)(G H:Hp):SK->Option V->Prop
 |.old w,v=>∃u,v=some u/\Rep K Z.G w u/\Rep K G w u
 |.new w,v=>∃u,v=some u/\RepN K Z G w u
 |.acc ws,v=>AccOk K Z G H ws v
 |.thro us ws vs,v=>ThroOk K Z G H us ws vs v
 |.tn us wss,v=>TnOk K Z G H us wss v
 |.pt us ws w,v=>PtOk K Z G H us ws w v
 |.fz w,v=>FzOk K Z G H w v
 |.fzo w,v=>FzoOk K Z G H w v
theorem XOk.move(q:XOk K Z G H k v)(sg:Same G G')(hf:∀l o ys,H l=some (.frz o (.lst ys))->G l=none->Z.H l=none->H' l=some (.frz o (.lst ys))/\G' l=none/\Z.H l=none):XOk K Z G' H' k v:=by
 cases k with
 |old w=>obtain⟨u,h1,h2,h3⟩:=q;exact⟨u,h1,h2,Rep.mono sg w h3⟩
 |new w=>obtain⟨u,h1,h2⟩:=q;exact⟨u,h1,RepN.move sg (fun _ _ _ z=>z) w h2⟩
 |acc ws=>obtain⟨a,o,xs,h1,⟨h2,h3,h4⟩,h5,h6⟩:=q;exact⟨a,o,xs,h1,hf _ _ _ h2 h3 h4,RepNs.move sg (fun _ _ _ z=>z) ws h5,h6⟩
 |tn us wss=>obtain⟨t,l,o,ls,xs,h1,h2,⟨h3,h4,h5⟩,h6,h7,h8⟩:=q;exact⟨t,l,o,ls,xs,h1,sg _ _ h2,hf _ _ _ h3 h4 h5,h6,Reps.mono sg us h7,h8.move sg hf⟩
 |pt us ws w=>obtain⟨p,t,l,o,xs,ys,x,h1,h2,h3,⟨h4,h5,h6⟩,h7,h8,h9⟩:=q;exact⟨p,t,l,o,xs,ys,x,h1,sg _ _ h2,sg _ _ h3,hf _ _ _ h4 h5 h6,Reps.mono sg us h7,Reps.mono sg ws h8,Rep.mono sg w h9⟩
 |fz w=>obtain⟨u,as,h1,h2,h3⟩:=q;exact⟨u,as,h1,h2,RepF.move sg w (fun l o ys _ ⟨k1,k2,k3⟩=>hf l o ys k1 k2 k3) h3⟩
 |fzo w=>obtain⟨u,as,h1,h2,h3,h4⟩:=q;exact⟨u,as,h1,h2,RepF.move (.refl _) w (fun l o ys hm k=>⟨(hf l o ys k.1 (let ⟨_,_,z⟩:=RepF.fzs w h4 hm;z.2.1) k.2.2).1,k.2.1,k.2.2⟩) h3,RepF.move sg w (fun l o ys _ ⟨k1,k2,k3⟩=>hf l o ys k1 k2 k3) h4⟩
 |thro us ws vs=>obtain⟨t,l,o,xs,ys,zs,h1,h2,h3,⟨h4,h5,h6⟩,h7,h8,h9,h10⟩:=q;exact⟨t,l,o,xs,ys,zs,h1,h2,sg _ _ h3,hf _ _ _ h4 h5 h6,h7,Reps.mono sg us h8,Reps.mono sg ws h9,Reps.mono sg vs h10⟩
def IoOk(Z:Zt):Option Nat->Addr->Prop
 |none,a=>Z.H a=none
 |some j,a=>Z.io[j]?=some a
theorem IoOk.io(h:IoOk Z b a):a∈Z.io\/Z.H a=none:=by
 cases b with
 |none=>exact .inr h
 |some j=>exact .inl (w1m h)
inductive OwnOk(K:PySem.W.Frag)(Z:Zt)(G H:Hp)(b:Option Nat)(ws:List W)(v:Option V):Prop where
 |mk (a:Addr) (xs:List V) (h1:v=some (.ref a)) (h2:H a=some (.lst xs)) (h3:G a=none) (h4:IoOk Z b a) (h5:Reps K G ws xs):OwnOk K Z G H b ws v
inductive DicOk(Z:Zt)(G H:Hp)(kvs:Dd)(v:Option V):Prop where
 |mk (a:Addr) (h1:v=some (.ref a)) (h2:H a=some (dO kvs)) (h3:G a=none) (h4:Z.H a=none):DicOk Z G H kvs v
inductive ThrOk(K:PySem.W.Frag)(Z:Zt)(G H:Hp)(us ws vs:List W)(v:Option V):Prop where
 |mk (t l:Addr) (o:Obj) (xs ys zs:List V) (h1:v=some (.ref t)) (h2:G t=some (.tup (xs++.ref l::zs))) (h3:H l=some (.frz o (.lst ys))) (h4:G l=none) (h5:Z.H l=none) (h6:Reps K G us xs/\Reps K G ws ys/\Reps K G vs zs):ThrOk K Z G H us ws vs v
def SlotOk(K:PySem.W.Frag)(Z:Zt)(G H:Hp):S->Option V->Prop
 |.no,_=>True
 |.fr w,v=>∃u,v=some u/\Rep K G w u
 |.own b ws,v=>OwnOk K Z G H b ws v
 |.dic kvs,v=>DicOk Z G H kvs v
 |.thr us ws vs,v=>ThrOk K Z G H us ws vs v
 |.nest wss,v=>NestOk K Z G H wss v
 |.dw sh ks ws,v=>DwOk K Z G H sh ks ws v
 |.x k,v=>XOk K Z G H k v
structure Rel(K:PySem.W.Frag)(Z:Zt)(G:Hp)(σ:St)(H:Hp)(e:List S):Prop where
 sub:Same G H
 slot:∀(i:Nat)(s:S),e[i]?=some s->SlotOk K Z G H s (σ[i]?.getD none)
 len:e.length=σ.length
 dis:∀(i j:Nat)(b b':Option Nat)(ws ws':List W)(a:Addr),e[i]?=some (.own b ws)->e[j]?=some (.own b' ws')->σ[i]?=some (some (.ref a))->σ[j]?=some (some (.ref a))->i=j
 ent:∀a o,Z.H a=some o->a∉Z.io->H a=some o
 ion:∀a∈Z.io,H a≠none
 gen:∀a,Z.H a≠none->G a=Z.G a
inductive AtG(K:PySem.W.Frag)(Z:Zt)(σ:St)(H:Hp)(P:Hp->List S->Prop):Prop where
 |mk (G:Hp) (e:List S) (r:Rel K Z G σ H e) (h:P G e):AtG K Z σ H P
structure Grow(G H G' H':Hp):Prop where
 hh:Same H H'
 gg:Same G G'
 sub:Same G' H'
 new:∀a,H a≠none->G' a=G a
theorem Grow.refl(s:Same G H):Grow G H G H:=⟨.refl _,.refl _,s,fun _ _=>rfl⟩
theorem Grow.trans(x:Grow G H G1 H1)(y:Grow G1 H1 G2 H2):Grow G H G2 H2:=
 ⟨x.hh.trans y.hh,x.gg.trans y.gg,y.sub,fun a h=>by
  rw[y.new a,x.new a h];cases q:H a with
  |none=>exact absurd q h
  |some o=>rw[x.hh a o q];simp⟩
theorem x9a(e:Same H H')(h:H a≠none):H' a≠none:=by
 cases q:H a with
 |none=>exact absurd q h
 |some o=>rw[e a o q];simp
theorem Grow.laid(s:Same G H)(h:H D=none)(o):Grow G H (upd G D o) (upd H D o) where
 hh:=q24 h o
 gg:=q24 (s.free h) o
 sub:=fun b u e=>by
  by_cases hb:b=D
  ·grind [q0j]
  ·rw[q0f hb]at e |-;exact s b u e
 new:=fun a ha=>by grind [q0f]
theorem Grow.hid(s:Same G H)(h:H D=none)(o):Grow G H G (upd H D o) where
 hh:=q24 h o
 gg:=.refl _
 sub:=fun b u e=>by
  have:=s b u e;rw[q0f (q0o this h)];exact this
 new:=fun a ha=>rfl
theorem Rel.grow(r:Rel K Z G σ H e)(g:Grow G H G' H'):Rel K Z G' σ H' e where
 sub:=g.sub
 slot:=fun i s h=>by
  have q:=r.slot i s h;cases s with
  |no=>trivial
  |fr w=>
   obtain⟨u,h1,h2⟩:=q;exact⟨u,h1,Rep.mono g.gg w h2⟩
  |own b ws=>
   obtain⟨a,xs,h1,h2,h3,h4,h5⟩:=q;exact⟨a,xs,h1,g.hh _ _ h2,by rw[g.new a (by rw[h2];simp)];exact h3,h4,Reps.mono g.gg ws h5⟩
  |dic kvs=>
   obtain⟨a,h1,h2,h3,h4⟩:=q;exact⟨a,h1,g.hh _ _ h2,by rw[g.new a (by rw[h2];simp)];exact h3,h4⟩
  |thr us ws vs=>
   obtain⟨t,l,o,xs,ys,zs,h1,h2,h3,h4,h5,h6,h7,h8⟩:=q;exact⟨t,l,o,xs,ys,zs,h1,g.gg _ _ h2,g.hh _ _ h3,by rw[g.new l (by rw[h3];simp)];exact h4,h5,Reps.mono g.gg us h6,Reps.mono g.gg ws h7,Reps.mono g.gg vs h8⟩
  |nest wss=>exact NestOk.move q g.gg fun l o ys h1 h2 h3=>⟨g.hh _ _ h1,by rw[g.new l (by rw[h1];simp)];exact h2,h3⟩
  |x k=>exact XOk.move q g.gg fun l o ys h1 h2 h3=>⟨g.hh _ _ h1,by rw[g.new l (by rw[h1];simp)];exact h2,h3⟩
  |dw sh ks ws=>exact DwOk.move q g.gg fun l o ys h1 h2 h3=>⟨g.hh _ _ h1,by rw[g.new l (by rw[h1];simp)];exact h2,h3⟩
 len:=r.len
 dis:=r.dis
 ent:=fun a o h n=>g.hh _ _ (r.ent a o h n)
 ion:=fun a h=>x9a g.hh (r.ion a h)
 gen:=fun a h=>by
  have:H a≠none:=by
   cases q:Z.H a with
   |none=>exact absurd q h
   |some o=>
    by_cases hi:a∈Z.io
    ·exact r.ion a hi
    ·rw[r.ent a o q hi];simp
  rw[g.new a this];exact r.gen a h
theorem Rel.own(r:Rel K Z G σ H e){i:Nat}(h:e[i]?=some (.own b ws)):∃a xs,σ[i]?=some (some (.ref a))/\H a=some (.lst xs)/\G a=none/\(IoOk Z b a)/\Reps K G ws xs:=by
 obtain⟨a,xs,h1,h2,h3,h4,h5⟩:=r.slot i _ h
 grind
theorem Rel.fr(r:Rel K Z G σ H e){i:Nat}(h:e[i]?=some (.fr w)):∃v,σ[i]?=some (some v)/\Rep K G w v:=by
 obtain⟨v,h1,h2⟩:=r.slot i _ h
 grind
theorem Rel.at(r:Rel K Z G σ H e){i:Nat}(h:e[i]?=some s)(hs:SlotOk K Z G H s (σ[i]?.getD none)->σ[i]?.getD none=some v):σ[i]?=some (some v):=by
 have h1:=hs (r.slot i _ h)
 grind
theorem Rel.plain(r:Rel K Z G σ H e){i:Nat}(h:e[i]?=some (.x k))(hk:k.plain=some w):∃v,σ[i]?=some (some v)/\Rep K G w v:=by
 have q:=r.slot i _ h;cases k with
 |old w'=>cases hk;obtain⟨v,h1,_,h2⟩:=q;grind
 |new w'=>cases hk;obtain⟨v,h1,h2⟩:=q;grind [RepN.rep]
 |_=>cases hk
theorem Rel.mut(r:Rel K Z G σ H e)(h:e[i]?=some (.own b ws))(ha:σ[i]?=some (some (.ref a)))(q:Reps K G ws' xs'):Rel K Z G σ (upd H a (.lst xs')) (e.set i (.own b ws')):=by
 obtain⟨a',xs,h1,h2,h3,h4,h5⟩:=r.own h;rw[ha]at h1;cases h1;have hi:i<e.length:=(w0n.mp h).1;refine⟨fun c o z=>?_,fun j s z=>?_,by simpa using r.len,fun j k b1 b2 w1 w2 c z1 z2 z3 z4=>?_,fun c o z n=>?_,fun c z=>?_,r.gen⟩
 ·rw[q0f (q0o z h3)];exact r.sub c o z
 ·by_cases hj:j=i
  ·subst hj;rw[w0m hi]at z;cases z;exact⟨a,xs',by rw[ha];rfl,q0j,h3,h4,q⟩
  ·rw[w0h (fun z=>hj z.symm)]at z
   have y:=r.slot j s z;cases s with
   |no=>trivial
   |fr w=>exact y
   |own b2 w2=>
    obtain⟨c,ys,y1,y2,y3,y4,y5⟩:=y;refine⟨c,ys,y1,?_,y3,y4,y5⟩;rw[q0f];exact y2;rintro rfl;obtain⟨c',_,z1,_⟩:=r.own z;rw[z1]at y1;cases y1;exact hj (r.dis j i _ _ _ _ _ z h z1 ha)
   |dic kvs=>
    obtain⟨c,y1,y2,y3,y4⟩:=y;refine⟨c,y1,?_,y3,y4⟩;rw[q0f (q0u y2 h2 (q3k rfl))];exact y2
   |thr us w2 vs=>
    obtain⟨t,l,o,xs2,ys,zs,y1,y2,y3,y4,y5,y6⟩:=y;refine⟨t,l,o,xs2,ys,zs,y1,y2,?_,y4,y5,y6⟩;rw[q0f (q0u y3 h2 (fun z=>nomatch z))];exact y3
   |nest wss=>exact NestOk.move y (.refl _) fun l o ys k1 k2 k3=>⟨by rw[q0f (q0u k1 h2 (fun z=>nomatch z))];exact k1,k2,k3⟩
   |x k=>exact XOk.move y (.refl _) fun l o ys k1 k2 k3=>⟨by rw[q0f (q0u k1 h2 (fun z=>nomatch z))];exact k1,k2,k3⟩
   |dw sh ks ws=>exact DwOk.move y (.refl _) fun l o ys k1 k2 k3=>⟨by rw[q0f (q0u k1 h2 (q53 rfl))];exact k1,k2,k3⟩
 ·have old:∀(k:Nat)(bb:Option Nat)(ww:List W),(e.set i (S.own b ws'))[k]?=some (.own bb ww)->∃b' w',e[k]?=some (.own b' w'):=fun k bb ww z=>by
   grind
  obtain⟨_,_,q1⟩:=old _ _ _ z1;obtain⟨_,_,q2⟩:=old _ _ _ z2;exact r.dis _ _ _ _ _ _ _ q1 q2 z3 z4
 ·by_cases hc:c=a
  ·grind [IoOk.io]
  ·rw[q0f hc];exact r.ent c o z n
 ·by_cases hc:c=a
  ·grind [q0j]
  ·rw[q0f hc];exact r.ion c z
theorem Rel.freeze(r:Rel K Z G σ H e)(h:e[i]?=some (.own none ws)):∃v G',σ[i]?=some (some v)/\Same G G'/\Rep K G' (.lst ws) v/\Rel K Z G' σ H (e.set i (.fr (.lst ws))):=by
 obtain⟨a,xs,h1,h2,h3,h4,h5⟩:=r.own h;have h4:Z.H a=none:=h4;have sg:Same G (upd G a (.lst xs)):=q24 h3 _;have hi:i<e.length:=(w0n.mp h).1;have rp:Rep K (upd G a (.lst xs)) (.lst ws) (.ref a):=⟨a,xs,rfl,SqL.of q0j,Reps.mono sg ws h5⟩;refine⟨.ref a,upd G a (.lst xs),h1,sg,rp,⟨fun c o z=>?_,fun j s z=>?_,by simpa using r.len,fun j k b1 b2 w1 w2 c z1 z2 z3 z4=>?_,r.ent,r.ion,fun c z=>?_⟩⟩
 ·by_cases hc:c=a
  ·grind [q0j]
  ·rw[q0f hc]at z;exact r.sub c o z
 ·by_cases hj:j=i
  ·subst hj;rw[w0m hi]at z;cases z;exact⟨.ref a,by rw[h1];rfl,rp⟩
  ·rw[w0h (fun z=>hj z.symm)]at z
   have y:=r.slot j s z;cases s with
   |no=>trivial
   |fr w=>
    obtain⟨u,y1,y2⟩:=y;exact⟨u,y1,Rep.mono sg w y2⟩
   |own b2 w2=>
    obtain⟨c,ys,y1,y2,y3,y4,y5⟩:=y;refine⟨c,ys,y1,y2,?_,y4,Reps.mono sg w2 y5⟩;rw[q0f];exact y3;rintro rfl;obtain⟨c',_,z1,_⟩:=r.own z;rw[z1]at y1;cases y1;exact hj (r.dis j i _ _ _ _ _ z h z1 h1)
   |dic kvs=>
    obtain⟨c,y1,y2,y3,y4⟩:=y;refine⟨c,y1,y2,?_,y4⟩;rw[q0f (q0u y2 h2 (q3k rfl))];exact y3
   |thr us w2 vs=>
    obtain⟨t,l,o,xs2,ys,zs,y1,y2,y3,y4,y5,y6,y7,y8⟩:=y;refine⟨t,l,o,xs2,ys,zs,y1,sg _ _ y2,y3,?_,y5,Reps.mono sg us y6,Reps.mono sg w2 y7,Reps.mono sg vs y8⟩;rw[q0f (q0u y3 h2 (fun z=>nomatch z))];exact y4
   |nest wss=>exact NestOk.move y sg fun l o ys k1 k2 k3=>⟨k1,by rw[q0f (q0u k1 h2 (fun z=>nomatch z))];exact k2,k3⟩
   |x k=>exact XOk.move y sg fun l o ys k1 k2 k3=>⟨k1,by rw[q0f (q0u k1 h2 (fun z=>nomatch z))];exact k2,k3⟩
   |dw sh ks ws=>exact DwOk.move y sg fun l o ys k1 k2 k3=>⟨k1,by rw[q0f (q0u k1 h2 (q53 rfl))];exact k2,k3⟩
 ·have old:∀(k:Nat)(bb:Option Nat)(ww:List W),(e.set i (S.fr (W.lst ws)))[k]?=some (.own bb ww)->e[k]?=some (.own bb ww):=fun k bb ww z=>by
   grind
  exact r.dis _ _ _ _ _ _ _ (old _ _ _ z1) (old _ _ _ z2) z3 z4
 ·by_cases hc:c=a
  ·grind
  ·rw[q0f hc];exact r.gen c z
def Free(σ:St)(e:List S)(a:Addr):Prop:=∀(j:Nat)(b:Option Nat)(ws:List W),e[j]?=some (.own b ws)->σ[j]?≠some (some (.ref a))
theorem Rel.set(r:Rel K Z G σ H e)(q:Rep K G w v):Rel K Z G (σ.set i (some v)) H (e.set i (.fr w)):=by
 refine⟨r.sub,fun j s z=>?_,by simpa using r.len,fun j k b1 b2 w1 w2 c z1 z2 z3 z4=>?_,r.ent,r.ion,r.gen⟩
 ·by_cases hj:j=i
  ·subst hj
   have hi:j<e.length:=by
    grind
   rw[w0m hi]at z;cases z;rw[w0m (by rw[<- r.len];exact hi)];exact⟨v,rfl,q⟩
  ·rw[w0h (fun z=>hj z.symm)]at z |-
   exact r.slot j s z
 ·have old:∀(k:Nat)(bb:Option Nat)(ww:List W),(e.set i (S.fr w))[k]?=some (.own bb ww)->k≠i/\e[k]?=some (.own bb ww):=fun k bb ww z=>by
   grind
  obtain⟨n1,q1⟩:=old _ _ _ z1;obtain⟨n2,q2⟩:=old _ _ _ z2;rw[w0h (fun z=>n1 z.symm)]at z3
  rw[w0h (fun z=>n2 z.symm)]at z4
  exact r.dis _ _ _ _ _ _ _ q1 q2 z3 z4
theorem Rel.setOwn(r:Rel K Z G σ H e)(h2:H a=some (.lst xs))(h3:G a=none)(h4:Z.H a=none)(hf:Free σ e a)(q:Reps K G ws xs):Rel K Z G (σ.set i (some (.ref a))) H (e.set i (.own none ws)):=by
 refine⟨r.sub,fun j s z=>?_,by simpa using r.len,fun j k b1 b2 w1 w2 c z1 z2 z3 z4=>?_,r.ent,r.ion,r.gen⟩
 ·by_cases hj:j=i
  ·subst hj
   have hi:j<e.length:=by
    grind
   rw[w0m hi]at z;cases z;rw[w0m (by rw[<- r.len];exact hi)];exact⟨a,xs,rfl,h2,h3,h4,q⟩
  ·rw[w0h (fun z=>hj z.symm)]at z |-
   exact r.slot j s z
 ·have both:∀(k:Nat)(bb:Option Nat)(ww:List W),(e.set i (S.own none ws))[k]?=some (.own bb ww)->(σ.set i (some (.ref a)))[k]?=some (some (.ref c))->(k=i/\c=a)\/(k≠i/\e[k]?=some (.own bb ww)/\σ[k]?=some (some (.ref c))/\c≠a):=fun k bb ww z y=>by
   by_cases hk:k=i
   ·grind
   ·rw[w0h (fun z=>hk z.symm)]at z y
    exact .inr ⟨hk,z,y,fun e=>hf k bb ww z (by rw[y,e])⟩
  rcases both _ _ _ z1 z3 with⟨e1,c1⟩|⟨n1,q1,p1,c1⟩<;>rcases both _ _ _ z2 z4 with⟨e2,c2⟩|⟨n2,q2,p2,c2⟩
  ·rw[e1,e2]
  ·exact absurd c1 c2
  ·exact absurd c2 c1
  ·exact r.dis _ _ _ _ _ _ _ q1 q2 p1 p2
inductive R(α:Type) where
 |ok (a:α) (e:List S)|ex (c:Value) (e:List S)|no
noncomputable abbrev Den(α:Type):=List S->R α
variable{dA:Den (List W)}
def R.bind{α β:Type}:R α->(α->List S->R β)->R β
 |.ok a e,k=>k a e
 |.ex c e,_=>.ex c e
 |.no,_=>.no
def R.holds(r:R α)(P:α->List S->Prop)(E:Value->List S->Prop):Prop:=match r with
 |.ok a e=>P a e
 |.ex c e=>E c e
 |.no=>False
theorem R.holds_bind{r:R α}{P:β->List S->Prop}:(r.bind k).holds P E↔r.holds (fun a e=>(k a e).holds P E) E:=by
 cases r<;>rfl
theorem R.holds.imp{r:R α}(h:r.holds P E)(p:∀a e,P a e->P' a e)(x:∀c e,E c e->E' c e):r.holds P' E':=by
 cases r with
 |ok a e=>exact p a e h
 |ex c e=>exact x c e h
 |no=>exact h
def ofOpt(o:Option α)(e:List S):R α:=match o with
 |some a=>.ok a e
 |none=>.no
theorem ofOpt_holds{P:α->List S->Prop}:(ofOpt o e).holds P E↔∃a,o=some a/\P a e:=by
 cases o with
 |none=>exact⟨fun h=>h.elim,fun⟨_,h,_⟩=>nomatch h⟩
 |some a=>exact⟨fun h=>⟨a,rfl,h⟩,fun⟨_,h,q⟩=>by cases h;exact q⟩
inductive SR where
 |nx (e:List S)|rt (s:S) (e:List S)|bk (e:List S)|ct (e:List S)|ex (c:Value) (e:List S)|no
section
variable(K:PySem.W.Frag)(Z:Zt)(EE:L2.St->XK)
abbrev XH(σ:St)(G:Hp):Value->List S->Prop:=fun c e'=>∀G' H',Rel K Z G' σ H' e'->Same G G'->EE σ c none H'
def liftE(d:Den W):TE:=fun σ H Q=>AtG K Z σ H fun G e=>(d e).holds (fun w e'=>∀G' v H',Rel K Z G' σ H' e'->Same G G'->Rep K G' w v->Q v H') (XH K Z EE σ G)
def liftA(d:Den (List W)):TA:=fun σ H Q=>AtG K Z σ H fun G e=>(d e).holds (fun ws e'=>∀G' vs H',Rel K Z G' σ H' e'->Same G G'->Reps K G' ws vs->Q vs H') (XH K Z EE σ G)
def liftT(d:Den Bool):TT:=fun σ H Q=>AtG K Z σ H fun G e=>(d e).holds (fun b e'=>∀G' H',Rel K Z G' σ H' e'->Same G G'->Q b H') (XH K Z EE σ G)
def liftF(d:Den (List W)):TE:=fun σ H Q=>AtG K Z σ H fun G e=>(d e).holds (fun ws e'=>∀G' a xs H',Rel K Z G' σ H' e'->Same G G'->H' a=some (.lst xs)->G' a=none->Z.H a=none->Free σ e' a->Reps K G' ws xs->Q (.ref a) H') (XH K Z EE σ G)
def PostS(D:Ends)(G:Hp):SR->Prop
 |.nx e'=>∀G' σ' H',Rel K Z G' σ' H' e'->Same G G'->D.nx σ' H'
 |.bk e'=>∀G' σ' H',Rel K Z G' σ' H' e'->Same G G'->D.bk σ' H'
 |.ct e'=>∀G' σ' H',Rel K Z G' σ' H' e'->Same G G'->D.ct σ' H'
 |.rt s e'=>∀G' σ' v H',Rel K Z G' σ' H' e'->Same G G'->SlotOk K Z G' H' s (some v)->D.rt v H'
 |.ex c e'=>∀G' σ' H',Rel K Z G' σ' H' e'->Same G G'->EE σ' c none H'
 |.no=>False
def liftS(d:List S->SR):TS:=fun D σ H=>AtG K Z σ H fun G e=>PostS K Z EE D G (d e)
end
section
variable(Z:Zt)(X:Cx)(EE:L2.St->XK)
def DE(e:Expr)(d:Den W):Prop:=PE X e (liftE X.K Z EE d)
def DF(e:Expr)(d:Den (List W)):Prop:=PE X e (liftF X.K Z EE d)
def DT(e:Expr)(d:Den Bool):Prop:=PT X e (liftT X.K Z EE d)
def DW(e:Expr)(d:Den Bool):Prop:=PW X e (liftT X.K Z EE d)
def DA(es:List Expr)(d:Den (List W)):Prop:=PA X es (liftA X.K Z EE d)
def DS(st:Stmt)(d:List S->SR):Prop:=PS X st (liftS X.K Z EE d)
def DSs(sts:List Stmt)(d:List S->SR):Prop:=PSs X sts (liftS X.K Z EE d)
end
theorem PE.mono(h:PE X e t)(i:∀σ H Q,t' σ H Q->t σ H Q):PE X e t':=fun pins s σ H Q I q=>h pins s σ H Q I (i σ H Q q)
theorem PT.mono(h:PT X e t)(i:∀σ H Q,t' σ H Q->t σ H Q):PT X e t':=fun pins s σ H Q I q=>h pins s σ H Q I (i σ H Q q)
theorem PW.mono(h:PW X e t)(i:∀σ H Q,t' σ H Q->t σ H Q):PW X e t':=fun wh pins s σ H Q I q=>h wh pins s σ H Q I (i σ H Q q)
theorem PA.mono(h:PA X es t)(i:∀σ H Q,t' σ H Q->t σ H Q):PA X es t':=fun p pins s σ H Q I q=>h p pins s σ H Q I (i σ H Q q)
theorem PS.mono(h:PS X st t)(i:∀D σ H,t' D σ H->t D σ H):PS X st t':=fun pins s σ H D I q=>h pins s σ H D I (i D σ H q)
theorem PSs.mono(h:PSs X st t)(i:∀D σ H,t' D σ H->t D σ H):PSs X st t':=fun pins s σ H D I q=>h pins s σ H D I (i D σ H q)
section
variable(K:PySem.W.Frag)
def Op2(r:R2)(f:W->W->Option W):Prop:=∀(G H:Hp)(x y:V)(wx wy w:W)(Q:VK),Same G H->Rep K G wx x->Rep K G wy y->f wx wy=some w->(∀G' v H',Grow G H G' H'->Rep K G' w v->Q v H')->r x y H Q
def Op1(r:V->Hp->VK->Prop)(f:W->Option W):Prop:=∀(G H:Hp)(x:V)(wx w:W)(Q:VK),Same G H->Rep K G wx x->f wx=some w->(∀G' v H',Grow G H G' H'->Rep K G' w v->Q v H')->r x H Q
def OpN(r:List V->Hp->VK->Prop)(f:List W->Option W):Prop:=∀(G H:Hp)(xs:List V)(ws:List W)(w:W)(Q:VK),Same G H->Reps K G ws xs->f ws=some w->(∀G' v H',Grow G H G' H'->Rep K G' w v->Q v H')->r xs H Q
end
def dC(w:W):Den W:=fun e=>.ok w e
def dVar(i:Nat):Den W:=fun e=>match e[i]? with
 |some (.fr w)=>.ok w e
 |some (.own none ws)=>.ok (.lst ws) (e.set i (.fr (.lst ws)))
 |some (.x k)=>match k.plain with
  |some w=>.ok w e
  |none=>.no
 |_=>.no
def dOp(f:W->W->Option W)(da db:Den W):Den W:=fun e=>(da e).bind fun x e1=>(db e1).bind fun y e2=>ofOpt (f x y) e2
def dUn(f:W->Option W)(da:Den W):Den W:=fun e=>(da e).bind fun x e1=>ofOpt (f x) e1
def dTest(da:Den W):Den Bool:=fun e=>(da e).bind fun x e1=>match x with
 |.bl k=>.ok k e1
 |_=>.no
def truW:W->Option Bool
 |.non=>some false
 |.bl b=>some b
 |.int i=>some (i != 0)
 |.str x=>if x.length<=16777216 then some ((x.length:Int) != 0)else none
 |.tup xs=>some (!xs.isEmpty)
 |.lst xs=>some (!xs.isEmpty)
 |.exc _=>none
 |.dic _=>none
 |.dw _ _ _ _=>none
 |.fn _ _ _=>none
def dTru(da:Den W):Den Bool:=fun e=>(da e).bind fun x e1=>ofOpt (truW x) e1
def dAnd(a b:Den Bool):Den Bool:=fun e=>(a e).bind fun x e1=>if x=true then b e1 else .ok false e1
def dOr(a b:Den Bool):Den Bool:=fun e=>(a e).bind fun x e1=>if x=true then .ok true e1 else b e1
def dNot(a:Den Bool):Den Bool:=fun e=>(a e).bind fun x e1=>.ok (!x) e1
def dAndV(a b:Den W):Den W:=fun e=>(a e).bind fun x e1=>match x with
 |.bl true=>b e1
 |.bl false=>.ok (.bl false) e1
 |_=>.no
def dOrV(a b:Den W):Den W:=fun e=>(a e).bind fun x e1=>match x with
 |.bl true=>.ok (.bl true) e1
 |.bl false=>b e1
 |_=>.no
def dIf(c:Den Bool)(a b:Den W):Den W:=fun e=>(c e).bind fun x e1=>if x=true then a e1 else b e1
def dNil:Den (List W):=fun e=>.ok [] e
def dCons(a:Den W)(r:Den (List W)):Den (List W):=fun e=>(a e).bind fun x e1=>(r e1).bind fun xs e2=>.ok (x::xs) e2
def dTup(a:Den (List W)):Den W:=fun e=>(a e).bind fun xs e1=>if xs.length<=16777216 then .ok (.tup xs) e1 else .no
def dLst(a:Den (List W)):Den (List W):=fun e=>(a e).bind fun xs e1=>if xs.length<=16777216 then .ok xs e1 else .no
def dFz(a:Den (List W)):Den W:=fun e=>(a e).bind fun xs e1=>.ok (.lst xs) e1
def dFn(f:List W->Option W)(a:Den (List W)):Den W:=fun e=>(a e).bind fun xs e1=>ofOpt (f xs) e1
section
variable{X:Cx}{a b c e:Expr}{da db:Den W}{ta:Den Bool}
theorem XH.trans{G1:Hp}(s:Same G G1){c:Value}{e:List S}(h:XH K Z EE σ G c e):XH K Z EE σ G1 c e:=fun G' H' r q=>h G' H' r (s.trans q)
theorem q0d{j pos}:DE Z X EE (.Constant (.int i) j pos) (dC (.int i)):=PE.mono y9v fun σ H Q ⟨G,e,r,h⟩=>h G (.int i) H r (.refl _) rfl
theorem q5x{j pos}:DE Z X EE (.Constant (.bool i) j pos) (dC (.bl i)):=PE.mono z39 fun σ H Q ⟨G,e,r,h⟩=>h G (.bl i) H r (.refl _) rfl
theorem q42{j pos}:DE Z X EE (.Constant .none j pos) (dC .non):=PE.mono y9w fun σ H Q ⟨G,e,r,h⟩=>h G .non H r (.refl _) rfl
theorem q0g{j pos}:DE Z X EE (.Constant (.str i) j pos) (dC (.str i)):=PE.mono x8s fun σ H Q ⟨G,e,r,h⟩=>h G (.str i) H r (.refl _) rfl
theorem x4e:∀σ H Q,liftE K Z EE (dVar i) σ H Q->tVar i σ H Q:=by
 rintro σ H Q ⟨G,e,r,h⟩;unfold dVar at h;split at h
 ·rename_i w hw;obtain⟨v,h1,h2⟩:=r.fr hw;exact⟨v,h1,h G v H r (.refl _) h2⟩
 ·rename_i ws hw;obtain⟨v,G',h1,h2,h3,h4⟩:=r.freeze hw;exact⟨v,h1,h G' v H h4 h2 h3⟩
 ·rename_i k hw;cases q:k.plain with
  |some w=>
   rw[q]at h;obtain⟨v,h1,h2⟩:=r.plain hw q;exact⟨v,h1,h G v H r (.refl _) h2⟩
  |none=>rw[q]at h;exact h.elim
 ·exact h.elim
theorem dv(i:Nat){x:Str}(hN:X.N[i]?=some x:=by rfl)(hv:Vis X.env.scope x:=by walk_at "1")(hd:(x==("__debug__":Str))=false:=by decide)
  (hcd:(x==("__classdict__":Str))=false:=by decide):DE Z X EE (.Name x pos) (dVar i):=PE.mono (pv i hN hv hd hcd) x4e
theorem q32(hf:Op2 K r f):∀σ H Q,liftE K Z EE (dOp f da db) σ H Q->tOp r (liftE K Z EE da) (liftE K Z EE db) σ H Q:=by
 rintro σ H Q ⟨G,e,rel,h⟩;simp only[dOp,R.holds_bind,ofOpt_holds]at h;refine⟨G,e,rel,h.imp (fun x e1 h G1 v1 H1 r1 s1 p1=>?_) fun _ _ h=>h⟩
 refine⟨G1,e1,r1,h.imp (fun y e2 h G2 v2 H2 r2 s2 p2=>?_) fun _ _ h=>XH.trans s1 h⟩
 obtain⟨w,hw,h⟩:=h;exact hf G2 H2 v1 v2 x y w Q r2.sub (Rep.mono s2 x p1) p2 hw fun G' v H' g p=>h G' v H' (r2.grow g) ((s1.trans s2).trans g.gg) p
theorem q7s(ho:OpR X (binaryOp op) r)(hf:Op2 X.K r f)(ha:DE Z X EE a da)(hb:DE Z X EE b db):DE Z X EE (.BinOp a op b pos) (dOp f da db):=PE.mono (y47 ho ha hb) (q32 hf)
theorem q8k(ho:OpR X (compareOp op) r)(hf:Op2 X.K r f)(ha:DE Z X EE a da)(hb:DE Z X EE b db)(hm:behindInMarks op b=false):DE Z X EE (.Compare a [op] [b] pos) (dOp f da db):=PE.mono (y52 ho ha hb hm) (q32 hf)
theorem x2l(h:liftT K Z EE (dTest da) σ H Q):liftE K Z EE da σ H (fun x H'=>∃k,x=.bl k/\Q k H'):=by
 obtain⟨G,e,rel,h⟩:=h;simp only[dTest,R.holds_bind]at h;refine⟨G,e,rel,h.imp (fun x e1 h G1 v1 H1 r1 s1 p1=>?_) fun _ _ h=>h⟩
 cases x with
 |bl k=>
  cases(show v1=V.bl k from p1);exact⟨k,rfl,h G1 H1 r1 s1⟩
 |_=>exact h.elim
theorem q54(ho:OpR X (compareOp op) r)(hf:Op2 X.K r f)(ha:DE Z X EE a da)(hb:DE Z X EE b db)(hm:behindInMarks op b=false):DT Z X EE (.Compare a [op] [b] pos) (dTest (dOp f da db)):=
 PT.mono (y53 ho ha hb hm) fun σ H Q h=>q32 hf σ H _ (x2l h)
theorem y6d(hf:Op1 K r f):∀σ H Q,liftE K Z EE (dUn f da) σ H Q->tUn r (liftE K Z EE da) σ H Q:=by
 rintro σ H Q ⟨G,e,rel,h⟩;simp only[dUn,R.holds_bind,ofOpt_holds]at h;refine⟨G,e,rel,h.imp (fun x e1 h G1 v1 H1 r1 s1 p1=>?_) fun _ _ h=>h⟩
 obtain⟨w,hw,h⟩:=h;exact hf G1 H1 v1 x w Q r1.sub p1 hw fun G' v H' g p=>h G' v H' (r1.grow g) (s1.trans g.gg) p
theorem z4h(ho:UnR X (unaryOp op) r)(hf:Op1 X.K r f)(ha:DE Z X EE a da):DE Z X EE (.UnaryOp op a pos) (dUn f da):=PE.mono (z4d ho ha) (y6d hf)
theorem z0m(s:Same G H)(h:Rep K G w v)(e:truW w=some k):TruV K v H k:=by
 cases w with
 |non=>cases(show v=.non from h);cases e;rfl
 |bl b=>cases(show v=.bl b from h);cases e;rfl
 |int i=>cases(show v=.int i from h);cases e;rfl
 |str x=>
  cases(show v=.str x from h);simp only[truW]at e;split at e
  ·cases e;exact⟨by grind [sizeLine_eq],rfl⟩
  ·cases e
 |tup ws=>
  obtain⟨p,xs,rfl,q,r⟩:=h;cases e;refine .inr (.inl ⟨xs,s.tup q,?_⟩);have:=r.length
  grind
 |lst ws=>
  obtain⟨p,xs,rfl,q,r⟩:=h;cases e;refine .inl ⟨xs,s.seq q,?_⟩;have:=r.length
  grind
 |exc _=>cases e
 |dic _=>cases e
 |dw _ _ _ _=>cases e
 |fn _ _ _=>cases e
theorem q55(ha:DE Z X EE a da)(he:∀whole,isTrue a X.env whole=(do let v <- whole;standAt a.pos;holding [v] (truthy v)):=by intro _;rfl):DT Z X EE a (dTru da):=by
 refine PT.mono (y2f ha he) ?_;rintro σ H Q ⟨G,e,rel,h⟩;simp only[dTru,R.holds_bind,ofOpt_holds]at h;refine⟨G,e,rel,h.imp (fun x e1 h G1 v1 H1 r1 s1 p1=>?_) fun _ _ h=>h⟩
 obtain⟨k,hk,h⟩:=h;exact⟨k,z0m r1.sub p1 hk,h G1 H1 r1 s1⟩
theorem y2n:∀σ H Q,liftT K Z EE (dAnd ta tb) σ H Q->tAnd (liftT K Z EE ta) (liftT K Z EE tb) σ H Q:=by
 rintro σ H Q ⟨G,e,rel,h⟩;simp only[dAnd,R.holds_bind]at h;refine⟨G,e,rel,h.imp (fun x e1 h G1 H1 r1 s1=>?_) fun _ _ h=>h⟩
 cases x with
 |true=>exact⟨G1,e1,r1,R.holds.imp (show(tb e1).holds _ _ from h) (fun y e2 h G2 H2 r2 s2=>h G2 H2 r2 (s1.trans s2)) fun _ _ h=>XH.trans s1 h⟩
 |false=>exact(show ∀G' H',_->_->Q false H' from h) G1 H1 r1 s1
theorem y6e:∀σ H Q,liftT K Z EE (dOr ta tb) σ H Q->tOr (liftT K Z EE ta) (liftT K Z EE tb) σ H Q:=by
 rintro σ H Q ⟨G,e,rel,h⟩;simp only[dOr,R.holds_bind]at h;refine⟨G,e,rel,h.imp (fun x e1 h G1 H1 r1 s1=>?_) fun _ _ h=>h⟩
 cases x with
 |false=>exact⟨G1,e1,r1,R.holds.imp (show(tb e1).holds _ _ from h) (fun y e2 h G2 H2 r2 s2=>h G2 H2 r2 (s1.trans s2)) fun _ _ h=>XH.trans s1 h⟩
 |true=>exact(show ∀G' H',_->_->Q true H' from h) G1 H1 r1 s1
theorem q4v(ha:DT Z X EE a ta):DW Z X EE (.BoolOp .And [a] pos) ta:=y5v ha
theorem q56(ha:DT Z X EE a ta):DW Z X EE (.BoolOp .Or [a] pos) ta:=y9z ha
theorem q3n{rest:List Expr}(ha:DT Z X EE a ta)(hb:DW Z X EE (.BoolOp .And (b::rest) pos) tb):DW Z X EE (.BoolOp .And (a::b::rest) pos) (dAnd ta tb):=PW.mono (y90 ha hb) y2n
theorem q4i{rest:List Expr}(ha:DT Z X EE a ta)(hb:DW Z X EE (.BoolOp .Or (b::rest) pos) tb):DW Z X EE (.BoolOp .Or (a::b::rest) pos) (dOr ta tb):=PW.mono (z4a ha hb) y6e
theorem dt_w(h:DW Z X EE a ta):DT Z X EE a ta:=PW.pt h
theorem q8l(ha:DT Z X EE a ta):DT Z X EE (.UnaryOp .Not a pos) (dNot ta):=by
 refine PT.mono (y91 ha) ?_;rintro σ H Q ⟨G,e,rel,h⟩;simp only[dNot,R.holds_bind]at h;exact⟨G,e,rel,h.imp (fun x e1 h G1 H1 r1 s1=>h G1 H1 r1 s1) fun _ _ h=>h⟩
theorem x0y{op}(h:DE Z X EE a da):DE Z X EE (.BoolOp op [a] pos) da:=y92 h
theorem x9b{rest:List Expr}(ha:DE Z X EE a da)(hb:DE Z X EE (.BoolOp .And (b::rest) pos) db):DE Z X EE (.BoolOp .And (a::b::rest) pos) (dAndV da db):=by
 refine PE.mono (y93 ha hb) ?_;rintro σ H Q ⟨G,e,rel,h⟩;simp only[dAndV,R.holds_bind]at h;refine⟨G,e,rel,h.imp (fun x e1 h G1 v1 H1 r1 s1 p1=>?_) fun _ _ h=>h⟩
 cases x with
 |bl k=>
  cases(show v1=V.bl k from p1);cases k with
  |true=>exact⟨true,rfl,⟨G1,e1,r1,R.holds.imp (show(db e1).holds _ _ from h) (fun y e2 h G2 v2 H2 r2 s2 p2=>h G2 v2 H2 r2 (s1.trans s2) p2) fun _ _ h=>XH.trans s1 h⟩⟩
  |false=>exact⟨false,rfl,(show ∀G' v H',_->_->v=V.bl false->Q v H' from h) G1 _ H1 r1 s1 rfl⟩
 |_=>exact h.elim
theorem y5a{rest:List Expr}(ha:DE Z X EE a da)(hb:DE Z X EE (.BoolOp .Or (b::rest) pos) db):DE Z X EE (.BoolOp .Or (a::b::rest) pos) (dOrV da db):=by
 refine PE.mono (z4b ha hb) ?_;rintro σ H Q ⟨G,e,rel,h⟩;simp only[dOrV,R.holds_bind]at h;refine⟨G,e,rel,h.imp (fun x e1 h G1 v1 H1 r1 s1 p1=>?_) fun _ _ h=>h⟩
 cases x with
 |bl k=>
  cases(show v1=V.bl k from p1);cases k with
  |false=>exact⟨false,rfl,⟨G1,e1,r1,R.holds.imp (show(db e1).holds _ _ from h) (fun y e2 h G2 v2 H2 r2 s2 p2=>h G2 v2 H2 r2 (s1.trans s2) p2) fun _ _ h=>XH.trans s1 h⟩⟩
  |true=>exact⟨true,rfl,(show ∀G' v H',_->_->v=V.bl true->Q v H' from h) G1 _ H1 r1 s1 rfl⟩
 |_=>exact h.elim
theorem y5b(hc:DT Z X EE c dc)(ha:DE Z X EE a da)(hb:DE Z X EE b db):DE Z X EE (.IfExp c a b pos) (dIf dc da db):=by
 refine PE.mono (y2b hc ha hb) ?_;rintro σ H Q ⟨G,e,rel,h⟩;simp only[dIf,R.holds_bind]at h;refine⟨G,e,rel,h.imp (fun x e1 h G1 H1 r1 s1=>?_) fun _ _ h=>h⟩
 cases x with
 |true=>exact⟨G1,e1,r1,R.holds.imp (show(da e1).holds _ _ from h) (fun y e2 h G2 v2 H2 r2 s2 p2=>h G2 v2 H2 r2 (s1.trans s2) p2) fun _ _ h=>XH.trans s1 h⟩
 |false=>exact⟨G1,e1,r1,R.holds.imp (show(db e1).holds _ _ from h) (fun y e2 h G2 v2 H2 r2 s2 p2=>h G2 v2 H2 r2 (s1.trans s2) p2) fun _ _ h=>XH.trans s1 h⟩
theorem q0b:DA Z X EE [] dNil:=PA.mono x0t fun σ H Q ⟨G,e,r,h⟩=>h G [] H r (.refl _) rfl
theorem q0a(ha:DE Z X EE e da)(hr:DA Z X EE es dA)(hs:starEach (e::es) X.env=(false,eval e X.env)::starEach es X.env:=by rfl):DA Z X EE (e::es) (dCons da dA):=by
 refine PA.mono (q5e ha hr hs) ?_;rintro σ H Q ⟨G,e,rel,h⟩;simp only[dCons,R.holds_bind]at h;refine⟨G,e,rel,h.imp (fun x e1 h G1 v1 H1 r1 s1 p1=>?_) fun _ _ h=>h⟩
 refine⟨G1,e1,r1,h.imp (fun xs e2 h G2 vs H2 r2 s2 p2=>?_) fun _ _ h=>XH.trans s1 h⟩
 exact h G2 (v1::vs) H2 r2 (s1.trans s2) ⟨v1,vs,rfl,Rep.mono s2 x p1,p2⟩
theorem q01{x1}(h:DA Z X EE es dA):DE Z X EE (.Tuple es x1 pos) (dTup dA):=by
 refine PE.mono (z0c h) ?_;rintro σ H Q ⟨G,e,rel,h⟩;simp only[dTup,R.holds_bind]at h;refine⟨G,e,rel,h.imp (fun ws e1 h G1 vs H1 r1 s1 p1=>?_) fun _ _ h=>h⟩
 split at h
 ·rename_i hl;refine⟨by rw[p1.length,sizeLine_eq];exact hl,fun p hp=>?_⟩
  have g:=Grow.laid r1.sub hp (.tup vs);exact(show ∀G' v H',_->_->Rep X.K G' (.tup ws) v->Q v H' from h) _ (.ref p) _ (r1.grow g) (s1.trans g.gg) ⟨p,vs,rfl,SqT.of q0j,Reps.mono g.gg ws p1⟩
 ·exact h.elim
theorem q96{e:List S}(r:Rel K Z G σ H e){p:Addr}(hp:H p=none):Free σ e p:=fun j b ws h q=>by
 obtain⟨a,xs,h1,h2,_⟩:=r.own h;rw[q]at h1;cases h1;rw[hp]at h2;cases h2
theorem q6u{e:List S}(r:Rel K Z G σ H e){p:Addr}(hp:H p=none):Z.H p=none:=by
 cases q:Z.H p with
 |none=>rfl
 |some o=>
  by_cases hi:p∈Z.io
  ·exact absurd hp (r.ion p hi)
  ·rw[r.ent p o q hi]at hp;cases hp
theorem x4f{e:List S}{ws:List W}{vs:List V}{Q:VK}{G0:Hp}(r:Rel K Z G σ H e)(s:Same G0 G)(p1:Reps K G ws vs)
  (h:∀G' a xs H',Rel K Z G' σ H' e->Same G0 G'->H' a=some (.lst xs)->G' a=none->Z.H a=none->Free σ e a->Reps K G' ws xs->Q (.ref a) H'):∀p,H p=none->Q (.ref p) (upd H p (.lst vs)):=fun p hp=>by
 have g:=Grow.hid r.sub hp (.lst vs);exact h G p vs _ (r.grow g) s q0j (r.sub.free hp) (q6u r hp) (q96 r hp) p1
theorem q08(h:DA Z X EE es dA):DF Z X EE (.List es pos) (dLst dA):=by
 refine PE.mono (z0d h) ?_;rintro σ H Q ⟨G,e,rel,h⟩;simp only[dLst,R.holds_bind]at h;refine⟨G,e,rel,h.imp (fun ws e1 h G1 vs H1 r1 s1 p1=>?_) fun _ _ h=>h⟩
 split at h
 ·rename_i hl;exact⟨by rw[p1.length,sizeLine_eq];exact hl,x4f r1 s1 p1 h⟩
 ·exact h.elim
theorem Rel.seen{e:List S}(r:Rel K Z G σ H e){a:Addr}{xs:List V}(h:H a=some (.lst xs))(hg:G a=none)(hz:Z.H a=none)(hf:Free σ e a):Same G (upd G a (.lst xs))/\Rel K Z (upd G a (.lst xs)) σ H e:=by
 have sg:Same G (upd G a (.lst xs)):=q24 hg _;refine⟨sg,⟨fun c o z=>?_,fun j s z=>?_,r.len,r.dis,r.ent,r.ion,fun c z=>?_⟩⟩
 ·by_cases hc:c=a
  ·subst hc;rw[q0j]at z;cases z;exact h
  ·rw[q0f hc]at z;exact r.sub c o z
 ·have y:=r.slot j s z;cases s with
  |no=>trivial
  |fr w=>
   obtain⟨u,y1,y2⟩:=y;exact⟨u,y1,Rep.mono sg w y2⟩
  |own b2 w2=>
   obtain⟨c,ys,y1,y2,y3,y4,y5⟩:=y;refine⟨c,ys,y1,y2,?_,y4,Reps.mono sg w2 y5⟩;rw[q0f];exact y3;rintro rfl;obtain⟨c',_,z1,_⟩:=r.own z;rw[z1]at y1;cases y1;exact hf j b2 w2 z z1
  |dic kvs=>
   obtain⟨c,y1,y2,y3,y4⟩:=y;refine⟨c,y1,y2,?_,y4⟩;rw[q0f (q0u y2 h (q3k rfl))];exact y3
  |thr us w2 vs=>
   obtain⟨t,l,o,xs2,ys,zs,y1,y2,y3,y4,y5,y6,y7,y8⟩:=y;refine⟨t,l,o,xs2,ys,zs,y1,sg _ _ y2,y3,?_,y5,Reps.mono sg us y6,Reps.mono sg w2 y7,Reps.mono sg vs y8⟩;rw[q0f (q0u y3 h (fun z=>nomatch z))];exact y4
  |nest wss=>exact NestOk.move y sg fun l o ys k1 k2 k3=>⟨k1,by rw[q0f (q0u k1 h (fun z=>nomatch z))];exact k2,k3⟩
  |x k=>exact XOk.move y sg fun l o ys k1 k2 k3=>⟨k1,by rw[q0f (q0u k1 h (fun z=>nomatch z))];exact k2,k3⟩
  |dw sh ks ws=>exact DwOk.move y sg fun l o ys k1 k2 k3=>⟨k1,by rw[q0f (q0u k1 h (q53 rfl))];exact k2,k3⟩
 ·by_cases hc:c=a
  ·subst hc;exact absurd hz z
  ·rw[q0f hc];exact r.gen c z
theorem q3l(h:DF Z X EE e dA):DE Z X EE e (dFz dA):=by
 refine PE.mono h ?_;rintro σ H Q ⟨G,e,rel,h⟩;simp only[dFz,R.holds_bind]at h;refine⟨G,e,rel,h.imp (fun ws e1 h G1 a xs H1 r1 s1 q1 q2 q3 q4 p1=>?_) fun _ _ h=>h⟩
 obtain⟨sg,rg⟩:=r1.seen q1 q2 q3 q4;exact(show ∀G' v H',_->_->Rep X.K G' (.lst ws) v->Q v H' from h) _ (.ref a) _ rg (s1.trans sg) ⟨a,xs,rfl,SqL.of q0j,Reps.mono sg ws p1⟩
theorem x6j(hf:OpN K r f):∀σ H Q,liftE K Z EE (dFn f dA) σ H Q->tCB r (liftA K Z EE dA) σ H Q:=by
 rintro σ H Q ⟨G,e,rel,h⟩;simp only[dFn,R.holds_bind,ofOpt_holds]at h;refine⟨G,e,rel,h.imp (fun ws e1 h G1 vs H1 r1 s1 p1=>?_) fun _ _ h=>h⟩
 obtain⟨w,hw,h⟩:=h;exact hf G1 H1 vs ws w Q r1.sub p1 hw fun G' v H' g p=>h G' v H' (r1.grow g) (s1.trans g.gg) p
theorem x4g{x:Str}{id:String}{p:Pos}{r:List V->Hp->VK->Prop}{f:List W->Option W}(hc:CallR X (.builtin id) r)(hf:OpN X.K r f)(hv:bootBuiltins x=some (.builtin id))(hm:X.mg x=none)(ha:DA Z X EE (e::es) dA)(hg:Gl X x:=by rfl)(hn:x≠"__name__":=by decide)(hdb:(x==("__debug__":Str))=false:=by decide)
  (he:starEach (e::es) X.env=(false,eval e X.env)::starEach es X.env:=by rfl)(hpl:(backTo pos (starEach es X.env)).any (·.1)=false:=by rfl):DE Z X EE (.Call (.Name x p) (e::es) [] pos) (dFn f dA):=
 PE.mono (q95 hc hg hm hv ha hn hdb he hpl) (x6j hf)
theorem x9c{x:Str}{T:String}{p:Pos}{r:List V->Hp->VK->Prop}{f:List W->Option W}(hc:CallR X (.type T) r)(hf:OpN X.K r f)(hv:bootBuiltins x=some (.type T))(hm:X.mg x=none)(ha:DA Z X EE (e::es) dA)(hg:Gl X x:=by rfl)(hn:x≠"__name__":=by decide)(hdb:(x==("__debug__":Str))=false:=by decide)
  (he:starEach (e::es) X.env=(false,eval e X.env)::starEach es X.env:=by rfl)(hpl:(backTo pos (starEach es X.env)).any (·.1)=false:=by rfl):DE Z X EE (.Call (.Name x p) (e::es) [] pos) (dFn f dA):=
 PE.mono (x81 hc hg hm hv ha hn hdb he hpl) (x6j hf)
end
def dNx:List S->SR:=fun e=>.nx e
def dSeq(a b:List S->SR):List S->SR:=fun e=>match a e with
 |.nx e'=>b e'
 |r=>r
def R.stm(r:R α)(k:α->List S->SR):SR:=match r with
 |.ok a e=>k a e
 |.ex c e=>.ex c e
 |.no=>.no
def dDrop(d:Den W):List S->SR:=fun e=>(d e).stm fun _ e'=>.nx e'
def dRet(d:Den W):List S->SR:=fun e=>(d e).stm fun w e'=>.rt (.fr w) e'
def dRetF(d:Den (List W)):List S->SR:=fun e=>(d e).stm fun ws e'=>.rt (.own none ws) e'
def dRetO(i:Nat):List S->SR:=fun e=>match e[i]? with
 |some (.own none ws)=>.rt (.own none ws) e
 |some (.fr w)=>.rt (.fr w) e
 |_=>.no
def dIfS(c:Den Bool)(a b:List S->SR):List S->SR:=fun e=>(c e).stm fun x e1=>if x=true then a e1 else b e1
def dSet(i:Nat)(d:Den W):List S->SR:=fun e=>(d e).stm fun w e'=>.nx (e'.set i (.fr w))
def dSetO(i:Nat)(d:Den (List W)):List S->SR:=fun e=>(d e).stm fun ws e'=>.nx (e'.set i (.own none ws))
def forD(i:Nat)(b:List S->SR):List W->List S->SR
 |[],e=>.nx e
 |w::ws,e=>match b (e.set i (.fr w))with
  |.nx e'=>forD i b ws e'
  |.ct e'=>forD i b ws e'
  |.bk e'=>.nx e'
  |.rt s e'=>.rt s e'
  |.ex c e'=>.ex c e'
  |.no=>.no
def whileD(c:Den Bool)(b:List S->SR):Nat->List S->SR
 |0,_=>.no
 |n+1,e=>(c e).stm fun x e1=>if x=true then(match b e1 with
  |.nx e'=>whileD c b n e'
  |.ct e'=>whileD c b n e'
  |.bk e'=>.nx e'
  |.rt s e'=>.rt s e'
  |.ex c e'=>.ex c e'
  |.no=>.no)else .nx e1
def seqW:W->Option (List W)
 |.tup ws=>some ws
 |.lst ws=>some ws
 |_=>none
def dFor(i:Nat)(d:Den W)(b:List S->SR):List S->SR:=fun e=>(d e).stm fun w e1=>match seqW w with
 |some ws=>forD i b ws e1
 |none=>.no
def rangeW(lo hi:Int):List W:=(List.range (hi-lo).toNat).map fun k=>.int (lo+(k:Nat))
def okI(j:Int):Bool:=Nat.ble j.natAbs 4611686018427387903
theorem q57(h:okI j=true):-(2^62)<=j/\j<2^62:=by
 have z:j.natAbs<=4611686018427387903:=w3i h
 grind
theorem q3o(h1:-1000000000<=j)(h2:j<=1000000000):okI j=true:=w4n (by omega)
def rng1:List W->Option (List W)
 |[.int j]=>if okI j=true then some (rangeW 0 j)else none
 |_=>none
def rng2:List W->Option (List W)
 |[.int i,.int j]=>if okI i=true/\okI j=true then some (rangeW i j)else none
 |_=>none
def dForR(i:Nat)(g:List W->Option (List W))(d:Den (List W))(b:List S->SR):List S->SR:=fun e=>(d e).stm fun w e1=>match g w with
 |some ws=>forD i b ws e1
 |none=>.no
section
variable{X:Cx}{a c e:Expr}{st:Stmt}{rest body:List Stmt}{d:Den W}{s1 s2:List S->SR}
theorem PostS.trans(s:Same G G1):∀{r:SR},PostS K Z EE D G r->PostS K Z EE D G1 r
 |.nx e',h=>fun G' σ' H' r q=>h G' σ' H' r (s.trans q)
 |.bk e',h=>fun G' σ' H' r q=>h G' σ' H' r (s.trans q)
 |.ct e',h=>fun G' σ' H' r q=>h G' σ' H' r (s.trans q)
 |.rt w e',h=>fun G' σ' v H' r q=>h G' σ' v H' r (s.trans q)
 |.ex c e',h=>fun G' σ' H' r q=>h G' σ' H' r (s.trans q)
 |.no,h=>h
theorem q0x{r:R α}(h:PostS K Z EE D G (r.stm k)):r.holds (fun a e'=>PostS K Z EE D G (k a e')) (XH K Z EE σ G):=by
 cases r with
 |ok a e=>exact h
 |ex c e=>exact fun G' H' r q=>h G' σ H' r q
 |no=>exact h
theorem q0p:DSs Z X EE [] dNx:=PSs.mono y5w fun D σ H ⟨G,e,r,h⟩=>h G σ H r (.refl _)
theorem y2o:∀D σ H,liftS K Z EE (dSeq s1 s2) D σ H->tSeq (liftS K Z EE s1) (liftS K Z EE s2) D σ H:=by
 rintro D σ H ⟨G,e,rel,h⟩;refine⟨G,e,rel,?_⟩;unfold dSeq at h;cases q:s1 e with
 |nx e'=>rw[q]at h;exact fun G' σ' H' r s=>⟨G',e',r,PostS.trans s h⟩
 |bk e'=>rw[q]at h;exact h
 |ct e'=>rw[q]at h;exact h
 |rt w e'=>rw[q]at h;exact h
 |ex c e'=>rw[q]at h;exact h
 |no=>rw[q]at h;exact h
theorem q0c(h1:DS Z X EE st s1)(h2:DSs Z X EE rest s2):DSs Z X EE (st::rest) (dSeq s1 s2):=PSs.mono (y2c h1 h2) y2o
theorem q0e(h1:DS Z X EE st s1):DSs Z X EE [st] s1:=y5x h1
theorem y6f(he:DE Z X EE e d)(hs:swapsWith e none pos.line X.env=pure false:=by rfl):DS Z X EE (.Expr e pos) (dDrop d):=by
 refine PS.mono (q7f he hs) ?_;rintro D σ H ⟨G,e,rel,h⟩;exact⟨G,e,rel,(q0x h).imp (fun w e1 h G1 v1 H1 r1 s1 p1=>h G1 σ H1 r1 s1) fun _ _ h=>h⟩
theorem q0q(he:DE Z X EE e d):DS Z X EE (.Return (some e) pos) (dRet d):=by
 refine PS.mono (q8h he) ?_;rintro D σ H ⟨G,e,rel,h⟩;exact⟨G,e,rel,(q0x h).imp (fun w e1 h G1 v1 H1 r1 s1 p1=>h G1 σ v1 H1 r1 s1 ⟨v1,rfl,p1⟩) fun _ _ h=>h⟩
theorem y6g(he:DF Z X EE e dA):DS Z X EE (.Return (some e) pos) (dRetF dA):=by
 refine PS.mono (q8h he) ?_;rintro D σ H ⟨G,e,rel,h⟩;exact⟨G,e,rel,(q0x h).imp (fun w e1 h G1 a xs H1 r1 s1 q1 q2 q3 q4 p1=>h G1 σ (.ref a) H1 r1 s1 ⟨a,xs,rfl,q1,q2,q3,p1⟩) fun _ _ h=>h⟩
theorem q9b(i:Nat){x:Str}{p:Pos}(hN:X.N[i]?=some x:=by rfl)(hv:Vis X.env.scope x:=by walk_at "1")(hd:(x==("__debug__":Str))=false:=by decide)
  (hcd:(x==("__classdict__":Str))=false:=by decide):DS Z X EE (.Return (some (.Name x p)) pos) (dRetO i):=by
 refine PS.mono (q8h (pv i hN hv hd hcd)) ?_;rintro D σ H ⟨G,e,rel,h⟩;unfold dRetO at h;split at h
 ·rename_i ws hw;obtain⟨a,xs,h1,h2,h3,h4,h5⟩:=rel.own hw;exact⟨.ref a,h1,h G σ _ H rel (.refl _) ⟨a,xs,rfl,h2,h3,h4,h5⟩⟩
 ·rename_i w hw;obtain⟨v,h1,h2⟩:=rel.fr hw;exact⟨v,h1,h G σ _ H rel (.refl _) ⟨v,rfl,h2⟩⟩
 ·exact h.elim
theorem y2p:∀D σ H,liftS K Z EE (dIfS dc s1 s2) D σ H->tIfS (liftT K Z EE dc) (liftS K Z EE s1) (liftS K Z EE s2) D σ H:=by
 rintro D σ H ⟨G,e,rel,h⟩;refine⟨G,e,rel,(q0x h).imp (fun x e1 h G1 H1 r1 q1=>?_) fun _ _ h=>h⟩
 cases x with
 |true=>exact⟨G1,e1,r1,PostS.trans q1 h⟩
 |false=>exact⟨G1,e1,r1,PostS.trans q1 h⟩
theorem q0r(hc:DT Z X EE c dc)(ha:DSs Z X EE p s1)(hb:DSs Z X EE q s2):DS Z X EE (.If c p q pos) (dIfS dc s1 s2):=PS.mono (z4c hc ha hb) y2p
theorem q0i(i:Nat){x:Str}(hN:X.N.Nodup)(he:DE Z X EE e d)(hi:X.N[i]?=some x:=by rfl)(hx:Loc X.env.scope x:=by walk_at "3")(hs:swapsWith e (some (.Name x pos')) pos.line X.env=pure false:=by rfl)(hf:X.fn x=true\/X.env.scope.names.lookup x=some .local:=by walk_at "2"):
  DS Z X EE (.Assign [.Name x pos'] e pos) (dSet i d):=by
 refine PS.mono (x0x i hN he hi hx hs hf) ?_;rintro D σ H ⟨G,e,rel,h⟩;exact⟨G,e,rel,(q0x h).imp (fun w e1 h G1 v1 H1 r1 q1 p1=>h G1 _ H1 (r1.set p1) q1) fun _ _ h=>h⟩
theorem q3p(i:Nat){x:Str}(hN:X.N.Nodup)(he:DF Z X EE e dA)(hi:X.N[i]?=some x:=by rfl)(hx:Loc X.env.scope x:=by walk_at "3")(hs:swapsWith e (some (.Name x pos')) pos.line X.env=pure false:=by rfl)(hf:X.fn x=true\/X.env.scope.names.lookup x=some .local:=by walk_at "2"):
  DS Z X EE (.Assign [.Name x pos'] e pos) (dSetO i dA):=by
 refine PS.mono (x0x i hN he hi hx hs hf) ?_;rintro D σ H ⟨G,e,rel,h⟩;exact⟨G,e,rel,(q0x h).imp (fun w e1 h G1 a xs H1 r1 s1 q1 q2 q3 q4 p1=>h G1 _ H1 (r1.setOwn q1 q2 q3 q4 p1) s1) fun _ _ h=>h⟩
theorem q97(n)(hp:PassesOwn (model X.prog X.w) X.A X.env X.xe)(hc:DT Z X EE c dc)(hb:DSs Z X EE body s1):DS Z X EE (.While c body [] pos) (whileD dc s1 n):=by
 refine PS.mono (y2d hp hc hb) ?_;rintro D σ H ⟨G,e,rel,h⟩;refine⟨fun m σ' H'=>∃G' e',Rel X.K Z G' σ' H' e'/\Same G G'/\PostS X.K Z EE D G (whileD dc s1 m e'),⟨n,G,e,rel,.refl _,h⟩,?_⟩
 rintro m σ1 H1 ⟨G1,e1,r1,q1,h⟩;cases m with
 |zero=>exact h.elim
 |succ m=>
  refine⟨G1,e1,r1,(q0x (σ:=σ1) h).imp (fun x e2 h G2 H2 r2 q2=>?_) fun _ _ h=>XH.trans q1 h⟩
  cases x with
  |false=>exact h G2 σ1 H2 r2 (q1.trans q2)
  |true=>
   refine⟨fun σ' H'=>∃G' e',Rel X.K Z G' σ' H' e'/\Same G G'/\PostS X.K Z EE D G (whileD dc s1 m e'),fun σ' H' q=>⟨m,w4k _,q⟩,⟨G2,e2,r2,?_⟩⟩
   have sg:=q1.trans q2;have h:PostS X.K Z EE D G (match s1 e2 with|.nx e'=>whileD dc s1 m e'|.ct e'=>whileD dc s1 m e'|.bk e'=>.nx e'|.rt s e'=>.rt s e'|.ex c e'=>.ex c e'|.no=>.no):=h;cases q:s1 e2 with
   |nx e'=>rw[q]at h;exact fun G' σ' H' r s=>⟨G',e',r,sg.trans s,h⟩
   |ct e'=>rw[q]at h;exact fun G' σ' H' r s=>⟨G',e',r,sg.trans s,h⟩
   |bk e'=>rw[q]at h;exact fun G' σ' H' r s=>h G' σ' H' r (sg.trans s)
   |rt w e'=>rw[q]at h;exact fun G' σ' v H' r s=>h G' σ' v H' r (sg.trans s)
   |ex c e'=>rw[q]at h;exact fun G' σ' H' r s=>h G' σ' H' r (sg.trans s)
   |no=>rw[q]at h;exact h
theorem y2q(r1:Rel K Z G1 σ H e1)(q1:Same G G1)(p:Rep K G1 w x)(h:PostS K Z EE D G (forD i s1 (w::ws) e1))
  (hN:∀G' σ' H' e',Rel K Z G' σ' H' e'->Same G G'->PostS K Z EE D G (forD i s1 ws e')->N σ' H'):gName i x σ H fun σ2 H2=>liftS K Z EE s1 {D with nx:=N,ct:=N,bk:=D.nx} σ2 H2:=by
 refine⟨G1,e1.set i (.fr w),r1.set p,?_⟩;unfold forD at h;cases q:s1 (e1.set i (.fr w))with
 |nx e'=>rw[q]at h;exact fun G' σ' H' r s=>hN G' σ' H' e' r (q1.trans s) h
 |ct e'=>rw[q]at h;exact fun G' σ' H' r s=>hN G' σ' H' e' r (q1.trans s) h
 |bk e'=>rw[q]at h;exact fun G' σ' H' r s=>h G' σ' H' r (q1.trans s)
 |rt w e'=>rw[q]at h;exact fun G' σ' v H' r s=>h G' σ' v H' r (q1.trans s)
 |ex c e'=>rw[q]at h;exact fun G' σ' H' r s=>h G' σ' H' r (q1.trans s)
 |no=>rw[q]at h;exact h
def iSeq(K:PySem.W.Frag)(tl:TE):TI:=fun σ H R=>tl σ H fun x H1=>∃a,x=.ref a/\(((∃xs,SqL K H1 a xs)/\R (Itl K a) H1)\/((∃xs,SqT K H1 a xs)/\R (Itt K a) H1))
theorem x0z(hl:PE X l tl):PI X tg l (iSeq X.K tl):=by
 intro pins s σ H R I h;refine thn (hl pins s σ H _ I h) fun v s1 ⟨x,H1,I1,r1,q1⟩=>?_
 obtain⟨a,e,q⟩:=q1;subst e;cases r1;rcases q with⟨⟨xs,hq⟩,q⟩|⟨⟨xs,hq⟩,q⟩
 ·obtain⟨its,rv,p,hz⟩:=I1.list hq;refine wpAny_pyIter_list p.isList ?_;refine⟨s1.heap.objs.size,[s1.heap.objs.size],_,_,H1,rfl,I1.kept (t':=s1.toks) fun b o e=>Heap.get?_push_of_some _ e,x8t a _,⟨_,Heap.get?_push_size _ rfl,rfl,rfl⟩,fun b hb=>?_,q⟩
  have e:b=s1.heap.objs.size:=by simpa using hb
  subst e;exact I1.fpOk (w0b _) (I1.hok.fresh (w0b _))
 ·obtain⟨its,rv,p,hz⟩:=I1.tuple hq;refine wpAny_pyIter_tuple (show s1.heap.IsTuple a its.toArray from p) ?_;refine⟨s1.heap.objs.size,[s1.heap.objs.size],_,_,H1,rfl,I1.kept (t':=s1.toks) fun b o e=>Heap.get?_push_of_some _ e,x7m a _,⟨_,Heap.get?_push_size _ rfl,rfl,rfl⟩,fun b hb=>?_,q⟩
  have e:b=s1.heap.objs.size:=by simpa using hb
  subst e;exact I1.fpOk (w0b _) (I1.hok.fresh (w0b _))
theorem x2m{α:Type}{ws:List α}{w:α}(h:ws[k]?=some w):ws.drop k=w::ws.drop (k+1):=by
 grind [List.drop_eq_getElem_cons]
theorem x6k(r1:Rel K Z G1 σ H1 e1)(rp:Reps K G1 ws xs)(h:PostS K Z EE D G1 (forD i s1 ws e1))(SQ:Hp->Prop)(hSQ:∀G' H',Same G1 G'->Same G' H'->SQ H'):
  ∃Pv:Nat->St->Hp->Prop,Pv 0 σ H1/\(∀j σ H,j<=xs.length->Pv j σ H->SQ H)/\(∀(j:Nat) x σ H,xs[j]?=some x->Pv j σ H->gName i x σ H fun σ2 H2=>liftS K Z EE s1 {D with nx:=Pv (j+1),ct:=Pv (j+1),bk:=D.nx} σ2 H2)/\∀σ H,Pv xs.length σ H->D.nx σ H:=by
 refine⟨fun j σ' H'=>∃G' e',Rel K Z G' σ' H' e'/\Same G1 G'/\PostS K Z EE D G1 (forD i s1 (ws.drop j) e'),⟨G1,e1,r1,.refl _,h⟩,?_,?_,?_⟩
 ·rintro j σ' H' _ ⟨G',e',r',s',_⟩;exact hSQ G' H' s' r'.sub
 ·rintro j x σ' H' hx ⟨G',e',r',s',h⟩;obtain⟨w,hw,pw⟩:=rp.getV hx;rw[x2m hw]at h;exact y2q r' s' (Rep.mono s' w pw) h fun G'' σ'' H'' e'' r'' s'' h''=>⟨G'',e'',r'',s'',h''⟩
 ·rintro σ' H' ⟨G',e',r',s',h⟩;rw[rp.length,w3l]at h;exact h G' σ' H' r' s'
theorem q8m(i:Nat){x:Str}(hN:X.N.Nodup)(hp:PassesOwn (model X.prog X.w) X.A X.env X.xe)(hc:X.calm=true)(hl:DE Z X EE e d)(hb:DSs Z X EE body s1)
  (hi:X.N[i]?=some x:=by rfl)(hx:Loc X.env.scope x:=by walk_at "3")(hf:X.fn x=true\/X.env.scope.names.lookup x=some .local:=by walk_at "2")(hs:∀x,foldedSetIterable e X.env x=pure x:=by intro _;rfl):
  DS Z X EE (.For (.Name x pos') e body [] pos) (dFor i d s1):=by
 refine PS.mono (x0r hp hc (x0z hl) (q2q i hN hi hx hf) hb hs) ?_;rintro D σ H ⟨G,e,rel,h⟩;refine⟨G,e,rel,(q0x h).imp (fun w e1 h G1 v1 H1 r1 q1 p1=>?_) fun _ _ h=>h⟩
 have key:=fun ws xs (rp:Reps X.K G1 ws xs) (h:PostS X.K Z EE D G (forD i s1 ws e1))=>x6k (i:=i) (D:=D) r1 rp (PostS.trans q1 h)
 cases w with
 |tup ws=>
  obtain⟨a,xs,rfl,hq,rp⟩:=p1;refine⟨a,rfl,.inr ⟨⟨xs,r1.sub.tup hq⟩,?_⟩⟩;obtain⟨Pv,h0,h1,h2,h3⟩:=key ws xs rp h (fun H'=>SqT X.K H' a xs) (fun G' H' s s'=>Same.tup s' (Same.tup s hq))
  exact y50 Pv h0 h1 h2 h3
 |lst ws=>
  obtain⟨a,xs,rfl,hq,rp⟩:=p1;refine⟨a,rfl,.inl ⟨⟨xs,r1.sub.seq hq⟩,?_⟩⟩;obtain⟨Pv,h0,h1,h2,h3⟩:=key ws xs rp h (fun H'=>SqL X.K H' a xs) (fun G' H' s s'=>Same.seq s' (Same.seq s hq))
  exact y2e Pv h0 h1 h2 h3
 |_=>exact h.elim
theorem x00:Reps K G (rangeW lo hi) ((List.range (hi-lo).toNat).map fun k=>V.int (lo+(k:Nat))):=by
 unfold rangeW;generalize List.range (hi-lo).toNat=l
 induction l with
 |nil=>rfl
 |cons k l ih=>exact⟨_,_,rfl,rfl,ih⟩
theorem x6l(r1:Rel K Z G1 σ H1 e1)(h:PostS K Z EE D G1 (forD i s1 (rangeW lo hi) e1)):
  ∃W:Nat->Nat->St->Hp->Prop,(∃m,W 0 m σ H1)/\∀j m σ H,W j m σ H ->
   ((Itr lo (hi-lo).toNat).stop j H/\D.nx σ H)\/((Itr lo (hi-lo).toNat).go j H/\∃N:St->Hp->Prop,(∀σ' H',N σ' H'->∃m',m'<m/\W (j+1) m' σ' H')/\∀x H',(Itr lo (hi-lo).toNat).yld j H x H'->gName i x σ H' fun σ2 H2=>liftS K Z EE s1 {D with nx:=N,ct:=N,bk:=D.nx} σ2 H2):=by
 obtain⟨Pv,h0,h1,h2,h3⟩:=x6k (i:=i) (D:=D) r1 (x00 (lo:=lo) (hi:=hi)) h (fun _=>True) (fun _ _ _ _=>trivial)
 refine x8w Pv h0 (fun j σ' H' hj p=>h2 j _ σ' H' ?_ p) (fun σ' H' p=>h3 σ' H' (by simpa using p))
 simp[hj]
theorem q6l(i:Nat){x:Str}{p p1 p2:Pos}(hN:X.N.Nodup)(hp:PassesOwn (model X.prog X.w) X.A X.env X.xe)(hc:X.calm=true)(hm:X.mg "range"=none)(ha:DA Z X EE [a] dA)(hb:DSs Z X EE body s1)
  (hi:X.N[i]?=some x:=by rfl)(hx:Loc X.env.scope x:=by walk_at "3")(hf:X.fn x=true\/X.env.scope.names.lookup x=some .local:=by walk_at "2")(hg:Gl X "range":=by rfl)(hs1:starEach [a] X.env=[(false,eval a X.env)]:=by rfl)(hs:∀x,foldedSetIterable (.Call (.Name "range" p1) [a] [] p2) X.env x=pure x:=by intro _;rfl):
  DS Z X EE (.For (.Name x p) (.Call (.Name "range" p1) [a] [] p2) body [] pos) (dForR i rng1 dA s1):=by
 refine PS.mono (x0r hp hc (x2d hg hm ha hs1) (q2q i hN hi hx hf) hb hs) ?_;rintro D σ H ⟨G,e,rel,h⟩;refine⟨G,e,rel,(q0x h).imp (fun ws e1 h G1 vs H1 r1 q1 p1=>?_) fun _ _ h=>h⟩
 unfold rng1 at h;split at h
 ·rename_i hh;split at hh
  ·rename_i j;split at hh
   ·rename_i hj;cases hh;obtain⟨y,r,rfl,e1,e2⟩:=p1;cases(show y=V.int j from e1);cases(show r=[]from e2);refine⟨j,rfl,(q57 hj).1,(q57 hj).2,?_⟩;have z:=x6l (i:=i) (D:=D) r1 (PostS.trans q1 h)
    rwa [Int.sub_zero]at z
   ·cases hh
  ·cases hh
 ·exact h.elim
theorem y6h(i:Nat){x:Str}{p p1 p2:Pos}(hN:X.N.Nodup)(hp:PassesOwn (model X.prog X.w) X.A X.env X.xe)(hc:X.calm=true)(hm:X.mg "range"=none)(ha:DA Z X EE [a,c] dA)(hb:DSs Z X EE body s1)
  (hi:X.N[i]?=some x:=by rfl)(hx:Loc X.env.scope x:=by walk_at "3")(hf:X.fn x=true\/X.env.scope.names.lookup x=some .local:=by walk_at "2")(hg:Gl X "range":=by rfl)(hs1:starEach [a,c] X.env=[(false,eval a X.env),(false,eval c X.env)]:=by rfl)(hs2:starEach [c] X.env=[(false,eval c X.env)]:=by rfl)(hs:∀x,foldedSetIterable (.Call (.Name "range" p1) [a,c] [] p2) X.env x=pure x:=by intro _;rfl):
  DS Z X EE (.For (.Name x p) (.Call (.Name "range" p1) [a,c] [] p2) body [] pos) (dForR i rng2 dA s1):=by
 refine PS.mono (x0r hp hc (x8u hg hm ha hs1 hs2) (q2q i hN hi hx hf) hb hs) ?_;rintro D σ H ⟨G,e,rel,h⟩;refine⟨G,e,rel,(q0x h).imp (fun ws e1 h G1 vs H1 r1 q1 p1=>?_) fun _ _ h=>h⟩
 unfold rng2 at h;split at h
 ·rename_i hh;split at hh
  ·rename_i j k;split at hh
   ·rename_i hj;cases hh;obtain⟨y,r,rfl,e1,y2,r2,rfl,e2,e3⟩:=p1;cases(show y=V.int j from e1);cases(show y2=V.int k from e2);cases(show r2=[]from e3);exact⟨j,k,rfl,⟨(q57 hj.1).1,(q57 hj.1).2,(q57 hj.2).1,(q57 hj.2).2⟩,x6l (i:=i) (D:=D) r1 (PostS.trans q1 h)⟩
   ·cases hh
  ·cases hh
 ·exact h.elim
end
open PyProof.Rows (envOfC)
inductive FR where
 |ok (s:S)|ex (c:Value)|no
def spF(K:PySem.W.Frag)(F:List W->FR):Sp:=fun vs H Q E=>∃G ws,Same G H/\Reps K G ws vs/\match F ws with
 |.ok s=>∀G' H' v,Grow G H G' H'->SlotOk K ⟨H,G,[]⟩ G' H' s (some v)->Q v H'
 |.ex c=>∀H',Same H H'->E c none H'
 |.no=>False
def SR.fn:SR->FR
 |.nx _=>.ok (.fr .non)
 |.rt s _=>.ok s
 |.ex c _=>.ex c
 |_=>.no
def init(n:Nat)(ws:List W):List S:=ws.map .fr++List.replicate (n-ws.length) .no
theorem x4h(s:Same G H)(r:Reps K G ws vs):Rel K ⟨H,G,[]⟩ G (L2.start N vs) H (init N.length ws):=by
 have hl:=r.length
 have hfr:∀(i:Nat)(s:S),(init N.length ws)[i]?=some s->(s=.no)\/∃w,s=.fr w/\ws[i]?=some w:=fun i s h=>by
  grind [init]
 refine⟨s,fun i t h=>?_,?_,fun i j b b' w1 w2 a h1 h2 _ _=>?_,fun a o h _=>h,(fun a h=>nomatch h),fun a _=>rfl⟩
 ·rcases hfr i t h with rfl|⟨w,rfl,h1⟩
  ·trivial
  ·obtain⟨v,h2,h3⟩:=r.get h1;refine⟨v,?_,h3⟩
   grind [L2.start]
 all_goals grind [init,L2.start]
theorem Rel.toGrow(r:Rel K ⟨H,G,[]⟩ G' σ H' e)(s:Same G G'):Grow G H G' H':=
 ⟨fun a o h=>r.ent a o h (by simp),s,r.sub,fun a h=>r.gen a h⟩
theorem x4i(h:spF K F vs H Q E):∃G ws,F ws≠.no/\Reps K G ws vs:=by
 obtain⟨G,ws,_,r,h⟩:=h
 grind
theorem x6m{F:List W->FR}(he:r.fn=F ws)(h:match F ws with
  |.ok s=>∀G' H' v,Grow G H G' H'->SlotOk K ⟨H,G,[]⟩ G' H' s (some v)->Q v H'
  |.ex c=>∀H',Same H H'->E c none H'
  |.no=>False):PostS K ⟨H,G,[]⟩ (fun _=>E) {nx:=fun _ H'=>Q .non H',rt:=Q} G r:=by
 rw[<- he]at h;cases r with
 |nx e=>exact fun G' σ' H' r s=>h G' H' .non (r.toGrow s) ⟨.non,rfl,rfl⟩
 |rt s e=>exact fun G' σ' v H' r q p=>h G' H' v (r.toGrow q) p
 |ex c e=>exact fun G' σ' H' r s=>h H' (r.toGrow s).hh
 |bk e=>exact h.elim
 |ct e=>exact h.elim
 |no=>exact h.elim
theorem con(A:At K mg x st ps)(sc:FnScope N ps (defScope st))(len:∀ws,F ws≠.no->ws.length=ps.length)
  (hb:∀ws,F ws≠.no->∀(f:Addr)(cdv:Value)(A:Around)(outer:List Env)(s:Shared)(H:Hp)(E:XK)(Z:Zt),Room k (A.deeper (envOfC x (defScope st) s.heap.objs.size f cdv)) ->
   ∃d,DSs Z (cxOf (CX1 P w) P w K mg base N x (defScope st) f cdv A outer s H E) (fun _=>E) (defBody st) d/\(d (init N.length ws)).fn=F ws):Cal P w K mg base (k+1) x ps (spF K F):=by
 refine A.cal sc (fun vs H Q E h=>?_) (fun f cdv A outer s H vs Q E hr h=>?_)
 ·grind [x4i,Reps.length]
 ·have hn0:=h;obtain⟨G,ws,sg,rp,h⟩:=h;have hn:F ws≠.no:=fun z=>by rw[z]at h;exact h
  obtain⟨d,hd,he⟩:=hb ws hn f cdv A outer s H E ⟨H,G,[]⟩ hr;exact⟨_,hd,G,init N.length ws,x4h sg rp,x6m he h⟩
def dCall(F:List W->FR)(dA:Den (List W)):Den W:=fun e=>(dA e).bind fun ws e1=>match F ws with
 |.ok (.fr w)=>.ok w e1
 |.ok (.own none ws')=>.ok (.lst ws') e1
 |.ok (.dic kvs)=>.ok (.dic kvs) e1
 |.ok (.thr us ws vs)=>.ok (.tup (us++.lst ws::vs)) e1
 |.ok (.x (.new w))=>.ok w e1
 |.ok (.x (.tn us wss))=>.ok (.tup (us++[.lst (wss.map .lst)])) e1
 |.ex c=>.ex c e1
 |_=>.no
section
variable{X:Cx}{e:Expr}{p:Pos}{k:Nat}{ps:List Str}{F:List W->FR}{x:Str}
theorem x4j(r1:Rel K Z G1 σ H1 e1)(g:Grow G1 H1 G' H')(q:SlotOk K ⟨H1,G1,[]⟩ G' H' s (some v))(hs:s=.fr w\/∃ws,s=.own none ws/\w=.lst ws):
  ∃G'',Rel K Z G'' σ H' e1/\Same G1 G''/\Rep K G'' w v:=by
 rcases hs with rfl|⟨ws,rfl,rfl⟩
 ·obtain⟨u,h1,h2⟩:=q;cases h1;exact⟨G',r1.grow g,g.gg,h2⟩
 ·obtain⟨a,xs,h1,h2,h3,h4,h5⟩:=q;cases h1;have hn:H1 a=none:=h4;obtain⟨sg,rg⟩:=(r1.grow g).seen h2 h3 (q6u r1 hn) (q96 r1 hn);exact⟨_,rg,g.gg.trans sg,⟨a,xs,rfl,SqL.of q0j,Reps.mono sg ws h5⟩⟩
theorem x9d(r1:Rel K Z G1 σ H1 e1)(g:Grow G1 H1 G' H')(q:SlotOk K ⟨H1,G1,[]⟩ G' H' (.dic kvs) (some v)):
  ∃G'',Rel K Z G'' σ H' e1/\Same G1 G''/\Rep K G'' (.dic kvs) v:=by
 obtain⟨a,h1,h2,h3,h4⟩:=q;cases h1;have hn:H1 a=none:=h4;have r:=r1.grow g;have sg:Same G' (upd G' a (dO kvs)):=q24 h3 _;refine⟨upd G' a (dO kvs),⟨fun c o z=>?_,fun j s z=>?_,r.len,r.dis,r.ent,r.ion,fun c z=>?_⟩,g.gg.trans sg,⟨a,rfl,q0j⟩⟩
 ·by_cases hc:c=a
  ·grind [q0j]
  ·rw[q0f hc]at z;exact r.sub c o z
 ·have y:=r.slot j s z;have y1:=r1.slot j s z;cases s with
  |no=>trivial
  |fr w=>
   obtain⟨u,y1,y2⟩:=y;exact⟨u,y1,Rep.mono sg w y2⟩
  |own b2 w2=>
   obtain⟨c,ys,x1,x2,x3,x4,x5⟩:=y;refine⟨c,ys,x1,x2,?_,x4,Reps.mono sg w2 x5⟩;rw[q0f (q0u x2 h2 (fun z=>q3k rfl z.symm))];exact x3
  |dic kv=>
   obtain⟨c,x1,x2,x3,x4⟩:=y;obtain⟨c',w1,w2,_⟩:=y1;rw[x1]at w1;cases w1;refine⟨c,x1,x2,?_,x4⟩;rw[q0f (q0o w2 hn)];exact x3
  |thr us w2 vs=>
   obtain⟨t,l,o,xs2,ys,zs,x1,x2,x3,x4,x5,x6,x7,x8⟩:=y;refine⟨t,l,o,xs2,ys,zs,x1,sg _ _ x2,x3,?_,x5,Reps.mono sg us x6,Reps.mono sg w2 x7,Reps.mono sg vs x8⟩;rw[q0f (q0u x3 h2 (fun z=>q3k rfl z.symm))];exact x4
  |nest wss=>exact NestOk.move y sg fun l o ys k1 k2 k3=>⟨k1,by rw[q0f (q0u k1 h2 (fun z=>q3k rfl z.symm))];exact k2,k3⟩
  |x k=>exact XOk.move y sg fun l o ys k1 k2 k3=>⟨k1,by rw[q0f (q0u k1 h2 (fun z=>q3k rfl z.symm))];exact k2,k3⟩
  |dw sh ks ws=>
   obtain⟨c,kv,ka,x1,x2,x3,x4,x5,x6,x7⟩:=y;obtain⟨c',kv',ka',w1,w2,_⟩:=y1;rw[x1]at w1;cases w1;refine⟨c,kv,ka,x1,x2,?_,x4,x5,x6.mono sg,x7.move sg fun _ _ _ z=>z⟩
   rw[q0f (q0o w2 hn)];exact x3
 ·by_cases hc:c=a
  ·grind [q6u]
  ·rw[q0f hc];exact r.gen c z
theorem x9e(r1:Rel K Z G1 σ H1 e1)(g:Grow G1 H1 G' H')(q:SlotOk K ⟨H1,G1,[]⟩ G' H' (.thr us ws vs) (some v)):
  ∃G'',Rel K Z G'' σ H' e1/\Same G1 G''/\Rep K G'' (.tup (us++.lst ws::vs)) v:=by
 obtain⟨t,l,o,xs,ys,zs,h1,h2,h3,h4,h5,h6,h7,h8⟩:=q;cases h1;have hn:H1 l=none:=h5;have r:=r1.grow g;have sg:Same G' (upd G' l (.frz o (.lst ys))):=q24 h4 _;refine⟨upd G' l (.frz o (.lst ys)),⟨fun c u z=>?_,fun j s z=>?_,r.len,r.dis,r.ent,r.ion,fun c z=>?_⟩,g.gg.trans sg,⟨t,_,rfl,SqT.of (sg _ _ h2),(Reps.mono sg us h6).append ⟨.ref l,zs,rfl,⟨l,ys,rfl,.inl (.inr ⟨o,q0j⟩),Reps.mono sg ws h7⟩,Reps.mono sg vs h8⟩⟩⟩
 ·by_cases hc:c=l
  ·grind [q0j]
  ·rw[q0f hc]at z;exact r.sub c u z
 ·have y:=r.slot j s z;have y1:=r1.slot j s z;cases s with
  |no=>trivial
  |fr w=>
   obtain⟨u,y1,y2⟩:=y;exact⟨u,y1,Rep.mono sg w y2⟩
  |own b2 w2=>
   obtain⟨c,ys,x1,x2,x3,x4,x5⟩:=y;refine⟨c,ys,x1,x2,?_,x4,Reps.mono sg w2 x5⟩;rw[q0f (q0u x2 h3 (fun z=>nomatch z))];exact x3
  |dic kv=>
   obtain⟨c,x1,x2,x3,x4⟩:=y;refine⟨c,x1,x2,?_,x4⟩;rw[q0f (q0u x2 h3 (q3k rfl))];exact x3
  |thr us w2 vs=>
   obtain⟨t1,l1,o1,xs1,ys1,zs1,w1,w2',w3,w4,w5,w6,w7,w8⟩:=y1;have sg2:=g.gg.trans sg;refine⟨t1,l1,o1,xs1,ys1,zs1,w1,sg2 _ _ w2',g.hh _ _ w3,?_,w5,Reps.mono sg2 us w6,Reps.mono sg2 w2 w7,Reps.mono sg2 vs w8⟩;rw[q0f (q0o w3 hn),g.new l1 (by rw[w3];simp)];exact w4
  |nest wss=>exact NestOk.move y1 (g.gg.trans sg) fun l1 o ys k1 k2 k3=>⟨g.hh _ _ k1,by rw[q0f (q0o k1 hn),g.new l1 (by rw[k1];simp)];exact k2,k3⟩
  |x k=>exact XOk.move y1 (g.gg.trans sg) fun l1 o ys k1 k2 k3=>⟨g.hh _ _ k1,by rw[q0f (q0o k1 hn),g.new l1 (by rw[k1];simp)];exact k2,k3⟩
  |dw sh ks ws=>exact DwOk.move y1 (g.gg.trans sg) fun l1 o ys k1 k2 k3=>⟨g.hh _ _ k1,by rw[q0f (q0o k1 hn),g.new l1 (by rw[k1];simp)];exact k2,k3⟩
 ·by_cases hc:c=l
  ·grind [q6u]
  ·rw[q0f hc];exact r.gen c z
theorem NestIn.mem0:∀{ls:List Addr}{wss:List (List W)},NestIn K Z G H ls wss->∀l∈ls,∃o ys,FzAt Z G H l o ys
 |[],_,_,_,hl=>nomatch hl
 |l::ls,ws::wss,⟨⟨o,ys,h1,_⟩,h⟩,c,hc=>by
  rcases w0d.mp hc with rfl|hc
  ·exact⟨o,ys,h1⟩
  ·exact h.mem0 c hc
 |_::_,[],h,_,_=>h.elim
theorem NestIn.reps0{G':Hp}(sg:Same G G'):∀{ls:List Addr}{wss:List (List W)},(∀l∈ls,G' l=H l)->NestIn K Z G H ls wss->Reps K G' (wss.map W.lst) (ls.map V.ref)
 |[],[],_,_=>rfl
 |l::ls,ws::wss,hf,⟨⟨o,ys,h1,h4⟩,h⟩=>⟨.ref l,ls.map V.ref,rfl,⟨l,ys,rfl,.inl (.inr ⟨o,by rw[hf l (by simp)];exact h1.1⟩),Reps.mono sg ws h4⟩,h.reps0 sg fun c hc=>hf c (by simp[hc])⟩
 |[],_::_,_,h=>h.elim
 |_::_,[],_,h=>h.elim
theorem Rel.addNew(r1:Rel K Z G1 σ H1 e1)(g:Grow G1 H1 G' H')(As:List Addr) [DecidablePred (·∈As)](hA:∀c∈As,(∃o ys,H' c=some (.frz o (.lst ys)))/\G' c=none/\H1 c=none):
  Same G' (fun c=>if c∈As then H' c else G' c)/\Rel K Z (fun c=>if c∈As then H' c else G' c) σ H' e1:=by
 have sg:Same G' (fun c=>if c∈As then H' c else G' c):=fun c o z=>by
  grind
 refine⟨sg,r1.grow ⟨g.hh,g.gg.trans sg,fun c o z=>?_,fun c hc=>?_⟩⟩
 ·have z:(if c∈As then H' c else G' c)=some o:=z;split at z
  ·exact z
  ·exact g.sub c o z
 ·show(if c∈As then H' c else G' c)=G1 c;rw[if_neg (fun m=>hc (hA c m).2.2)];exact g.new c hc
theorem y2r(r1:Rel K Z G1 σ H1 e1)(g:Grow G1 H1 G' H')(q:SlotOk K ⟨H1,G1,[]⟩ G' H' (.x (.tn us wss)) (some v)):
  ∃G'',Rel K Z G'' σ H' e1/\Same G1 G''/\Rep K G'' (.tup (us++[.lst (wss.map .lst)])) v:=by
 classical
 obtain⟨t,l,o,ls,xs,h1,h2,⟨h3,h4,h5⟩,⟨h6,h7⟩,h8,h9⟩:=q;cases h1
 obtain⟨sg,r2⟩:=r1.addNew g (l::ls) fun c hc=>by
  rcases w0d.mp hc with rfl|hc
  ·grind
  ·obtain⟨o',ys,k1,k2,k3⟩:=h9.mem0 c hc
   grind
 refine⟨_,r2,g.gg.trans sg,t,_,rfl,SqT.of (sg _ _ h2),(Reps.mono sg us h8).append ⟨.ref l,[],rfl,⟨l,_,rfl,.inl (.inr ⟨o,?_⟩),h9.reps0 sg fun c hc=>if_pos (w0c _ hc)⟩,rfl⟩⟩
 grind
theorem z4i(r1:Rel K Z G1 σ H1 e1)(s1:Same G G1)(h:XH K Z EE σ G c e1):∀H',Same H1 H'->EE σ c none H':=fun H' sh=>
 h G1 H' (r1.grow ⟨sh,.refl _,r1.sub.trans sh,fun _ _=>rfl⟩) s1
theorem q0m(C:Cal X.prog X.w X.K X.mg X.base k x ps (spF X.K F))(hr:Room k X.A)(hx:PassX (CX1 X.prog X.w) X EE)(ha:DA Z X EE (e::es) dA)(hg:Gl X x:=by rfl)
  (hdb:(x==("__debug__":Str))=false:=by decide)(he:starEach (e::es) X.env=(false,eval e X.env)::starEach es X.env:=by rfl)(hpl:(backTo pos (starEach es X.env)).any (·.1)=false:=by rfl):
  DE Z X EE (.Call (.Name x p) (e::es) [] pos) (dCall F dA):=by
 refine PE.mono (x4d C hr hx ha hg hdb he hpl) ?_;rintro σ H Q ⟨G,e,rel,h⟩;simp only[dCall,R.holds_bind]at h;refine⟨G,e,rel,h.imp (fun ws e1 h G1 vs H1 r1 s1 p1=>?_) fun _ _ h=>h⟩
 refine⟨G1,ws,r1.sub,by grind,?_⟩;cases q:F ws with
 |ok s=>
  rw[q]at h;intro G' H' v g sl;cases s with
  |no=>exact h.elim
  |fr w=>
   obtain⟨G'',r2,s2,p2⟩:=x4j r1 g sl (.inl rfl);exact(show ∀G' v H',_->_->Rep X.K G' w v->Q v H' from h) G'' v H' r2 (s1.trans s2) p2
  |own b ws'=>
   cases b with
   |some _=>exact h.elim
   |none=>
    obtain⟨G'',r2,s2,p2⟩:=x4j r1 g sl (.inr ⟨ws',rfl,rfl⟩);exact(show ∀G' v H',_->_->Rep X.K G' (.lst ws') v->Q v H' from h) G'' v H' r2 (s1.trans s2) p2
  |dic kvs=>
   obtain⟨G'',r2,s2,p2⟩:=x9d r1 g sl;exact(show ∀G' v H',_->_->Rep X.K G' (.dic kvs) v->Q v H' from h) G'' v H' r2 (s1.trans s2) p2
  |thr us ws' vs'=>
   obtain⟨G'',r2,s2,p2⟩:=x9e r1 g sl;exact(show ∀G' v H',_->_->Rep X.K G' (.tup (us++.lst ws'::vs')) v->Q v H' from h) G'' v H' r2 (s1.trans s2) p2
  |nest _=>exact h.elim
  |x k=>
   cases k with
   |new w=>
    obtain⟨u,h1,h2⟩:=sl;cases h1;exact(show ∀G' v H',_->_->Rep X.K G' w v->Q v H' from h) G' _ H' (r1.grow g) (s1.trans g.gg) (RepN.rep _ h2)
   |tn us wss=>
    obtain⟨G'',r2,s2,p2⟩:=y2r r1 g sl;exact(show ∀G' v H',_->_->Rep X.K G' (.tup (us++[.lst (wss.map .lst)])) v->Q v H' from h) G'' v H' r2 (s1.trans s2) p2
   |_=>exact h.elim
  |dw _ _ _=>exact h.elim
 |ex c=>
  rw[q]at h;exact z4i r1 s1 h
 |no=>rw[q]at h;exact h.elim
end
end D
namespace L2
open PySem PySem.Spec PyProof.Rows
section
variable{X:Cx}{elt target iter:Expr}{ifs:List Expr}{scope:Scope}{pos:Pos}{wi:TI}{g:TG}{tc:TT}{te:TE}
theorem y2s{Nl Nf:List Str}{js:List Nat}{y:Str}{py spos:Pos}{gy:TG}(hc:X.calm=true)(hi:PI X target iter wi)
  (hk:scope.kind=.function)(hcell:∀y∈scope.names,y.2≠.cell)(hnames:∀x∈scope.names,x.2=.local->scope.names.lookup x.1=some .local)
  (hfree:∀x∈scope.names,x.2=.free->X.env.kindOf x.1=some .cell\/X.env.kindOf x.1=some .free)
  (hj:∀(i j:Nat) y,Nf[i]?=some y->js[i]?=some j->X.N[j]?=some y)(hlen:js.length=Nf.length)
  (hNf:∀y∈Nf,(y,NameKind.free)∈scope.names/\Vis X.env.scope y/\X.env.kindOf y≠some .local)
  (hvis:∀y∈Nf,(relabel scope X.env).names.lookup y=some .cell\/(relabel scope X.env).names.lookup y=some .free)
  (hg:∀cl C s₀ H₀ ex,PG (X.cp (Nl++Nf) scope cl C s₀ H₀ ex) target g)(ht:∀cl C s₀ H₀ ex,PTs (X.cp (Nl++Nf) scope cl C s₀ H₀ ex) ifs tc)(he:∀cl C s₀ H₀ ex,PE (X.cp (Nl++Nf) scope cl C s₀ H₀ ex) elt te)
  (hgy:PG X (.Name y py) gy)(hsw:swapsWith (.ListComp elt [⟨target,iter,ifs,0⟩] scope pos) (some (.Name y py)) spos.line X.env=pure true)
  (hs:∀x,foldedSetIterable iter X.env x=pure x:=by intro _;rfl):
  PS X (.Assign [.Name y py] (.ListComp elt [⟨target,iter,ifs,0⟩] scope pos) spos) (tAsg (tComp wi Nl.length js g tc te) gy):=by
 intro pins s σ H D I h;obtain⟨cl,hclos,hcl,hcf⟩:=x0v (scope:=scope) (env:=X.env) fun x hx hf=>I.ok.has x.1 (hfree x hx hf)
 rw[exec_Assign_Name_used _ _ _ _ hsw];refine wpAny_bind (wpAny_standAt (wpAny_bind ?_));show wpAny _ _ (do let _ <- comprehension _ _ _ _ _ _ _ _) _ _ _;refine wpAny_bind (wpAny_comprehension_free (Q:=fun _ s''=>wpAny (model X.prog X.w) X.A (pure ()) (fun _ s3=>wpAny (model X.prog X.w) X.A (pure Flow.next) (SP X pins D) X.xe s3) X.xe s'') (use:=some (assign (.Name y py) X.env)) rfl hs hclos hk hnames (thn (hi pins s σ H _ I h) fun v s1 h1=>thn h1 fun itv s2 h2=>?_))
 obtain⟨it,fp,tn,J,H2,e,I2,T,st2,f2,rd⟩:=h2;subst e;refine wpAny_newObj_type (wpAny_newFunctionEnv hcell (by intro y hy;simp at hy) (fun h₁ hns₁ hsb₁=>?_) hk)
 dsimp only at hns₁ hsb₁ |-
 have szp:(s2.heap.push {cls:=.type "list", dict:=none,data:=.seq ([]:List Value).toArray}).objs.size=s2.heap.objs.size+1:=Heap.size_push ..;rw[szp]at hns₁ hsb₁ |-
 have fD:H2 s2.heap.objs.size=none:=I2.hok.fresh (w0b _);obtain⟨W,⟨m0,w0⟩,turn⟩:=rd s2.heap.objs.size fD;have obj2:=T.obj 0 s2.heap st2;have IS:=x4b (Nl:=Nl) (Nf:=Nf) (js:=js) (cl:=cl) (tk:=s2.toks+([]:List (Str×Value)).length) I2 f2 obj2 hk hcell hcl hcf hj hlen hNf hvis hns₁ hsb₁
 have upS:∀b u,s2.heap.get? b=some u->h₁.get? b=some u:=fun b u q=>by
  have hlt:=Heap.lt_size q;exact(hsb₁.2 b (w0u (w1n hlt))).trans (Heap.get?_push_of_some _ (Heap.get?_push_of_some _ q))
 have stS:tn 0 h₁:=T.keep 0 s2.heap h₁ st2 fun b hb o q=>upS b o q
 have noD:∀b∈fp,upd H2 s2.heap.objs.size (.lst []) b=none:=fun b hb=>by
  obtain⟨o,q,_⟩:=obj2 b hb;rw[q0f (w0u (Heap.lt_size q))];exact(f2 b hb).1
 have stat:∀{H':Hp},(∀b∈fp,H' b=none)->∀b∈fp,FpOk (X.cp (Nl++Nf) scope cl (s2.heap.objs.size+1) {s2 with heap:=s2.heap.push {cls:=.type "list", dict:=none,data:=.seq ([]:List Value).toArray}} (upd H2 s2.heap.objs.size (.lst [])) fp) [] H' b:=fun hn b hb=>by
  refine⟨hn b hb,(IS.ok.exf b hb).1,IS.ok.exfs b hb,.inl hb,(IS.ok.exf b hb).2,fun p hp=>(by cases hp)⟩
 have loop:∀s4:Shared,s4={s2 with heap:=h₁,toks:=s2.toks+([]:List (Str×Value)).length} ->
   codeAny (model X.prog X.w) X.A (.compLoop (.ListComp elt [⟨target,iter,ifs,0⟩] scope pos) 0 (.ref it) (.ref s2.heap.objs.size) (compEnvC scope cl (s2.heap.objs.size+1) X.env))
    (compPost (model X.prog X.w) X.A X.xe (some (assign (.Name y py) X.env)) (fun _ s''=>wpAny (model X.prog X.w) X.A (pure ()) (fun _ s3=>wpAny (model X.prog X.w) X.A (pure Flow.next) (SP X pins D) X.xe s3) X.xe s'') (.ref s2.heap.objs.size) (s2.heap.objs.size+1)) s4:=by
  rintro s4 rfl;refine x2k (fun n s'=>∃i H',Inv (X.cp (Nl++Nf) scope cl (s2.heap.objs.size+1) {s2 with heap:=s2.heap.push {cls:=.type "list", dict:=none,data:=.seq ([]:List Value).toArray}} (upd H2 s2.heap.objs.size (.lst [])) fp) [] (List.replicate Nl.length none++pj js σ) H' s'/\tn i s'.heap/\(∀b∈fp,H' b=none)/\W i n H') ?_ m0 ⟨0,_,IS,stS,noD,w0⟩
  rintro n s3 ⟨i,H3,I3,st3,fr3,w3⟩;rcases turn i n H3 w3 with⟨stop,qn⟩|⟨go,step⟩
  ·refine thn (T.done (X.cp (Nl++Nf) scope cl (s2.heap.objs.size+1) {s2 with heap:=s2.heap.push {cls:=.type "list", dict:=none,data:=.seq ([]:List Value).toArray}} (upd H2 s2.heap.objs.size (.lst [])) fp) rfl rfl rfl hc i [] s3 _ H3 _ I3 (stat fr3) st3 stop) fun r s5 ⟨hr,I5⟩=>?_
   subst hr;obtain⟨m5,hn5,_⟩:=I5.loc;obtain⟨o5,es5,ep5,ho5,hd5,hk5,hf5⟩:=id hn5;have J5:Inv X pins σ H3 s5:=x87 I2 f2 I5 (h':=s5.heap) ⟨rfl,fun _ _=>rfl⟩
   have fC:FpOk X pins H3 (s2.heap.objs.size+1):=I2.fpOk (w5h _) I5.free;have f1:∀b∈[s2.heap.objs.size+1],FpOk X pins H3 b:=fun b hb=>by grind
   have J6:=J5.pinned f1 (fun b hb=>by rw[w1g.mp hb];exact⟨o5,ho5,fun v z=>by rw[hd5]at z;cases z⟩)
   refine thn (hgy _ s5 σ H3 (.ref s2.heap.objs.size) _ _ J6 rfl qn) fun _ s6 ⟨σ6,H6,I6,q6⟩=>?_
   have pC:=I6.pin (s2.heap.objs.size+1,o5) (w0e _ (w0e _ (q23 (w1g.mpr rfl) ho5)));refine⟨m5,⟨o5,es5,ep5,pC.1,hd5,hk5,hf5⟩,fun h' hs'=>wpAny_pure (wpAny_pure ⟨σ6,H6,?_,q6⟩)⟩
   obtain⟨g0,g1,g2,g3,g4,g5⟩:=fC;exact I6.unpinned.turned (t':=s6.toks) (fun b o hb e=>(hs'.2 b hb).trans e) pC.2.1 g1 g3 g4 g5
  ·refine thn (T.item (X.cp (Nl++Nf) scope cl (s2.heap.objs.size+1) {s2 with heap:=s2.heap.push {cls:=.type "list", dict:=none,data:=.seq ([]:List Value).toArray}} (upd H2 s2.heap.objs.size (.lst [])) fp) rfl rfl rfl hc i [] s3 _ H3 _ I3 (stat fr3) st3 go) fun r s5 ⟨u,hr,h5⟩=>?_
   subst hr;refine thn h5 fun _ s6 ⟨x,H6,I6,r6,y6,st6,fr6⟩=>?_
   have I6':=I6.pinned (stat fr6) (T.obj _ _ st6);refine thn (hg _ _ _ _ _ _ s6 _ H6 x u _ I6' r6 (step x H6 y6)) fun _ s7 ⟨σ7,H7,I7,kp,q7⟩=>?_
   refine thn (ht _ _ _ _ _ _ s7 σ7 H7 _ I7 q7) fun ok s8 ⟨H8,I8,q8⟩=>?_
   have again:∀{σ9:St}{H9:Hp}{s9:Shared},Inv (X.cp (Nl++Nf) scope cl (s2.heap.objs.size+1) {s2 with heap:=s2.heap.push {cls:=.type "list", dict:=none,data:=.seq ([]:List Value).toArray}} (upd H2 s2.heap.objs.size (.lst [])) fp) ([]++pinsAt fp s6.heap) σ9 H9 s9 ->
     Kp (List.replicate Nl.length none++pj js σ) σ9->(∃m',m'<n/\W (i+1) m' H9)->∃m,m<n/\∃i H',Inv (X.cp (Nl++Nf) scope cl (s2.heap.objs.size+1) {s2 with heap:=s2.heap.push {cls:=.type "list", dict:=none,data:=.seq ([]:List Value).toArray}} (upd H2 s2.heap.objs.size (.lst [])) fp) [] (List.replicate Nl.length none++pj js σ) H' s9/\tn i s9.heap/\(∀b∈fp,H' b=none)/\W i m H':=fun {σ9 H9 s9} I9 hw ⟨m',hm,w9⟩=>by
    refine⟨m',hm,i+1,H9,I9.unpinned.weak (by rw[I9.len,<- IS.len]) hw,T.keep _ _ _ st6 fun b hb o q=>(I9.pin (b,o) (w0e _ (w0e _ (q23 hb q)))).1,fun b hb=>?_,w9⟩
    obtain⟨o,q,d⟩:=T.obj _ _ st6 b hb;exact(I9.pin (b,o) (w0e _ (w0e _ (q23 hb q)))).2.1
   cases ok with
   |false=>exact again I8 kp (by simpa using q8)
   |true=>
    have q8':=by simpa only[if_true]using q8
    refine thn (he _ _ _ _ _ _ s8 σ7 H8 _ I8 q8') fun y s9 ⟨yv,H9,I9,r9,ys,hD,hz,q9⟩=>?_
    refine thn (q8i _ s9 σ7 H9 (.ref s2.heap.objs.size) [yv] (.ref s2.heap.objs.size) [y] (fun v H'=>v=.non/\H'=upd H9 s2.heap.objs.size (.lst (ys++[yv]))) I9 rfl (.cons r9 .nil) ⟨_,ys,yv,rfl,rfl,hD,hz,rfl,rfl⟩) fun _ s10 ⟨_,H10,I10,_,_,e10⟩=>?_
    subst e10;exact again I10 kp q9
 exact codeAny_compStart_list (loop _ rfl) (T.self X.A 0 _ _ _ stS (loop _ rfl))
end
theorem x2n{X:Cx}{y:Str}{py spos:Pos}{gy:TG}{elt target iter:Expr}{ifs:List Expr}{scope sc:Scope}{pos:Pos}{wi:TI}{g:TG}{tc:TT}{te:TE}{Nl Nf N:List Str}{js:List Nat}(hc:X.calm=true)(hi:PI X target iter wi)
  (ok:compOk sc scope N Nf js=true)
  (hg:∀cl C s₀ H₀ ex,PG (X.cp (Nl++Nf) scope cl C s₀ H₀ ex) target g)(ht:∀cl C s₀ H₀ ex,PTs (X.cp (Nl++Nf) scope cl C s₀ H₀ ex) ifs tc)(he:∀cl C s₀ H₀ ex,PE (X.cp (Nl++Nf) scope cl C s₀ H₀ ex) elt te)
  (hgy:PG X (.Name y py) gy)(hsw:swapsWith (.ListComp elt [⟨target,iter,ifs,0⟩] scope pos) (some (.Name y py)) spos.line X.env=pure true)
  (hsc:X.env.scope=sc:=by rfl)(hN:X.N=N:=by rfl)(hs:∀x,foldedSetIterable iter X.env x=pure x:=by intro _;rfl):
  PS X (.Assign [.Name y py] (.ListComp elt [⟨target,iter,ifs,0⟩] scope pos) spos) (tAsg (tComp wi Nl.length js g tc te) gy):=by
 unfold compOk at ok;simp only[w0p,w1s,beq_iff_eq,bne_iff_ne,w3c,w2n]at ok;obtain⟨⟨⟨⟨⟨⟨k1,k2⟩,k3⟩,k4⟩,k5⟩,k6⟩,k7⟩:=ok;have kind:∀x,X.env.kindOf x=sc.names.lookup x:=fun x=>by rw[<- hsc];rfl
 refine y2s hc hi k1 k2 (fun x hx hl=>(k3 x hx).resolve_left fun z=>z hl) (fun x hx hf=>?_) (fun i j y e1 e2=>?_) k5 (fun y hy=>?_) (fun y hy=>?_) hg ht he hgy hsw hs
 ·grind
 ·grind
 ·obtain⟨z1,z2⟩:=k7 y hy;refine⟨PySem.mem_of_lookup z1,?_,?_⟩
  ·rw[hsc];rcases z2 with z|z
   ·exact .inr (.inl z)
   ·exact .inr (.inr z)
  grind
 ·exact q6t (k7 y hy).1
def rCatS(K:PySem.W.Frag):R2:=fun x y H Q=>∃l b xs zs,x=.ref l/\y=.ref b/\SqL K H l xs/\SqL K H b zs/\xs.length+zs.length<=sizeLine/\∀p,H p=none->Q (.ref p) (upd H p (.lst (xs++zs)))
theorem x1t:OpR X (binaryOp .Add) (rCatS X.K):=by
 intro pins s σ H x y v u Q I rx ry h;obtain⟨l,b,xs,zs,rfl,rfl,h1,h2,hz,q⟩:=h;cases rx;cases ry;obtain⟨its,r1,p1,_⟩:=I.list h1;obtain⟨its2,r2,p2,_⟩:=I.list h2;obtain⟨⟨cls,dd,data,sl⟩,ho,hc,n,hd⟩:=id p1.isList;obtain⟨⟨cls2,dd2,data2,sl2⟩,ho2,hc2,n2,hd2⟩:=id p2.isList;simp only at hc hd hc2 hd2;subst hc hd hc2 hd2;have l1:=r1.length;have l2:=r2.length;refine concat_meets ⟨_,ho,rfl⟩ ⟨_,ho2,rfl⟩ noFill_list_add seq_list_add PySem.F.slot_list_add PySem.F.entry_list_add (PySem.F.args_list_add_2 _ _) (list_addW l b its.toArray its2.toArray n n2 dd dd2 sl sl2 (by grind)) ⟨ho,ho2,?_⟩;have ea:its.toArray++its2.toArray=(its++its2).toArray:=by simp
 rw[ea];exact⟨.ref _,_,I.lnew (t':=s.toks) (r1.append r2) (by grind),rfl,q _ I.fresh⟩
end L2
namespace D
open PySem L2
variable{A:Around}{X:Cx}{dA:Den (List W)}{cc:Den Bool}{d da db:Den W}{G H:Hp}{EE:L2.St->XK}{es:List Expr}{js:List Nat}{q:List S->SR}{ws:List W}{i kt:Nat}{apos cpos p1 p2 pn pos:Pos}{K:PySem.W.Frag}{σ:St}{α:Type}{cv:Value}{Z:Zt}
def addW:W->W->Option W
 |.int i,.int j=>some (.int (i+j))
 |.str x,.str y=>if x.length+y.length<=16777216 then some (.str (x++y))else none
 |.tup xs,.tup ys=>if xs≠[]/\xs.length+ys.length<=16777216 then some (.tup (xs++ys))else none
 |.lst xs,.lst ys=>if xs.length+ys.length<=16777216 then some (.lst (xs++ys))else none
 |_,_=>none
def subW:W->W->Option W
 |.int i,.int j=>some (.int (i-j))
 |_,_=>none
def mulW:W->W->Option W
 |.int i,.int j=>if(-(2^64)<i/\i<2^64)\/(-(2^64)<j/\j<2^64)then some (.int (i*j))else none
 |_,_=>none
def fdivW:W->W->Option W
 |.int i,.int j=>if 0<j/\j<1073741824 then some (.int (i / j))else none
 |_,_=>none
def modW:W->W->Option W
 |.int i,.int j=>if 0<j then some (.int (i%j))else none
 |_,_=>none
def powW:W->W->Option W
 |.int i,.int j=>if 0<=j/\j<=1000000/\i.natAbs<2^64 then some (.int (i^j.toNat))else none
 |_,_=>none
def ltW:W->W->Option W
 |.int i,.int j=>some (.bl (decide (i<j)))
 |_,_=>none
def gtW:W->W->Option W
 |.int i,.int j=>some (.bl (decide (j<i)))
 |_,_=>none
def geW:W->W->Option W
 |.int i,.int j=>some (.bl (decide (j<=i)))
 |_,_=>none
def negW:W->Option W
 |.int i=>some (.int (-i))
 |_=>none
theorem x9f:Op2 K (fun x y H Q=>rI0 (fun i j=>.int (i+j)) x y H Q\/((∃i j,x=.str i/\y=.str j/\i.length+j.length<=sizeLine/\Q (.str (i++j)) H)\/(rCatT K x y H Q\/rCatS K x y H Q))) addW:=by
 intro G H x y wx wy w Q s px py hf h;unfold addW at hf;split at hf
 ·cases hf;cases px;cases py;exact .inl ⟨_,_,rfl,rfl,h G _ H (.refl s) rfl⟩
 ·split at hf
  ·rename_i hl;cases hf;cases px;cases py;exact .inr (.inl ⟨_,_,rfl,rfl,by grind [sizeLine_eq],h G _ H (.refl s) rfl⟩)
  ·cases hf
 ·rename_i us ws;split at hf
  ·rename_i hl;cases hf;obtain⟨a,xs,rfl,ha,ra⟩:=px;obtain⟨b,ys,rfl,hb,rb⟩:=py;have l1:=ra.length;have l2:=rb.length;refine .inr (.inr (.inl ⟨a,b,xs,ys,rfl,rfl,s.tup ha,s.tup hb,fun z=>hl.1 ?_,by rw[l1,l2,sizeLine_eq];exact hl.2,fun z=>?_,fun z p hp=>?_⟩))
   ·grind
   ·subst z;have:ws=[]:=by grind
    subst this;exact h G _ H (.refl s) ⟨a,xs,rfl,ha,by simpa using ra⟩
   ·have g:=Grow.laid s hp (.tup (xs++ys));exact h _ _ _ g ⟨p,_,rfl,SqT.of q0j,Reps.append (Reps.mono g.gg _ ra) (Reps.mono g.gg _ rb)⟩
  ·cases hf
 ·split at hf
  ·rename_i hl;cases hf;obtain⟨a,xs,rfl,ha,ra⟩:=px;obtain⟨b,ys,rfl,hb,rb⟩:=py;have l1:=ra.length;have l2:=rb.length;refine .inr (.inr (.inr ⟨a,b,xs,ys,rfl,rfl,s.seq ha,s.seq hb,by grind [sizeLine_eq],fun p hp=>?_⟩))
   have g:=Grow.laid s hp (.lst (xs++ys));exact h _ _ _ g ⟨p,_,rfl,SqL.of q0j,Reps.append (Reps.mono g.gg _ ra) (Reps.mono g.gg _ rb)⟩
  ·cases hf
 ·cases hf
theorem z0n:Op2 K (rI0 fun i j=>.int (i-j)) subW:=by
 intro G H x y wx wy w Q s px py hf h;unfold subW at hf;split at hf
 ·cases hf;cases px;cases py;exact⟨_,_,rfl,rfl,h G _ H (.refl s) rfl⟩
 ·cases hf
theorem z0o:Op2 K (rI CMul fun i j=>.int (i*j)) mulW:=by
 intro G H x y wx wy w Q s px py hf h;unfold mulW at hf;split at hf
 ·split at hf
  ·rename_i hc;cases hf;cases px;cases py;exact⟨_,_,rfl,rfl,hc,h G _ H (.refl s) rfl⟩
  ·cases hf
 ·cases hf
theorem y6i:Op2 K (rI CDiv fun i j=>.int (i / j)) fdivW:=by
 intro G H x y wx wy w Q s px py hf h;unfold fdivW at hf;split at hf
 ·split at hf
  ·rename_i hc;cases hf;cases px;cases py;exact⟨_,_,rfl,rfl,hc,h G _ H (.refl s) rfl⟩
  ·cases hf
 ·cases hf
theorem z0p:Op2 K (rI (fun _ j=>0<j) fun i j=>.int (i%j)) modW:=by
 intro G H x y wx wy w Q s px py hf h;unfold modW at hf;split at hf
 ·split at hf
  ·rename_i hc;cases hf;cases px;cases py;exact⟨_,_,rfl,rfl,hc,h G _ H (.refl s) rfl⟩
  ·cases hf
 ·cases hf
theorem z0q:Op2 K (rI CPow fun i j=>.int (i^j.toNat)) powW:=by
 intro G H x y wx wy w Q s px py hf h;unfold powW at hf;split at hf
 ·split at hf
  ·rename_i hc;cases hf;cases px;cases py;exact⟨_,_,rfl,rfl,hc,h G _ H (.refl s) rfl⟩
  ·cases hf
 ·cases hf
theorem y5c:Op2 K (rI0 fun i j=>.bl (decide (i<j))) ltW:=by
 intro G H x y wx wy w Q s px py hf h;unfold ltW at hf;split at hf
 ·cases hf;cases px;cases py;exact⟨_,_,rfl,rfl,h G _ H (.refl s) rfl⟩
 ·cases hf
theorem y5d:Op2 K (rI0 fun i j=>.bl (decide (j<i))) gtW:=by
 intro G H x y wx wy w Q s px py hf h;unfold gtW at hf;split at hf
 ·cases hf;cases px;cases py;exact⟨_,_,rfl,rfl,h G _ H (.refl s) rfl⟩
 ·cases hf
theorem z4j:Op2 K (rI0 fun i j=>.bl (decide (j<=i))) geW:=by
 intro G H x y wx wy w Q s px py hf h;unfold geW at hf;split at hf
 ·cases hf;cases px;cases py;exact⟨_,_,rfl,rfl,h G _ H (.refl s) rfl⟩
 ·cases hf
theorem z0r:Op1 K (rU fun i=>.int (-i)) negW:=by
 intro G H x wx w Q s px hf h;unfold negW at hf;split at hf
 ·cases hf;cases px;exact⟨_,rfl,h G _ H (.refl s) rfl⟩
 ·cases hf
mutual
def eqW:W->W->Option Bool
 |.non,.non=>some true
 |.non,.bl _=>some false|.non,.int _=>some false|.non,.str _=>some false|.non,.tup _=>some false|.non,.lst _=>some false
 |.bl a,.bl b=>some (a==b)
 |.bl a,.int b=>some ((if a then 1 else 0)==b)
 |.bl _,.non=>some false|.bl _,.str _=>some false|.bl _,.tup _=>some false|.bl _,.lst _=>some false
 |.int a,.int b=>some (a==b)
 |.int a,.bl b=>some (a==(if b then 1 else 0))
 |.int _,.non=>some false|.int _,.str _=>some false|.int _,.tup _=>some false|.int _,.lst _=>some false
 |.str a,.str b=>some (a==b)
 |.str _,.non=>some false|.str _,.bl _=>some false|.str _,.int _=>some false|.str _,.tup _=>some false|.str _,.lst _=>some false
 |.tup _,.non=>some false|.tup _,.bl _=>some false|.tup _,.int _=>some false|.tup _,.str _=>some false|.tup _,.lst _=>some false
 |.lst _,.non=>some false|.lst _,.bl _=>some false|.lst _,.int _=>some false|.lst _,.str _=>some false|.lst _,.tup _=>some false
 |.tup xs,.tup ys=>eqWs xs ys
 |.lst xs,.lst ys=>eqWs xs ys
 |.exc _,_=>none
 |_,.exc _=>none
 |.dic _,_=>none
 |_,.dic _=>none
 |.dw _ _ _ _,_=>none
 |.fn _ _ _,_=>none
 |_,.dw _ _ _ _=>none
 |_,.fn _ _ _=>none
def eqWs:List W->List W->Option Bool
 |[],[]=>some true
 |[],_::_=>some false
 |_::_,[]=>some false
 |x::xs,y::ys=>match eqW x y,eqWs xs ys with
  |some a,some b=>some (a&&b)
  |_,_=>none
end
def ixW:W->W->Option W
 |.tup ws,.int i=>atI ws i
 |.lst ws,.int i=>atI ws i
 |.str z,.int i=>if z.length<=16777216 then(atI z.cps.toList i).map fun c=>.str ⟨#[c]⟩else none
 |_,_=>none
theorem Reps.atI{i:Int}(r:Reps K G ws xs)(h:L2.atI ws i=some w):∃x,L2.atI xs i=some x/\Rep K G w x:=by
 unfold L2.atI at h |-
 rw[r.length];cases q:ixN ws.length i with
 |none=>rw[q]at h;cases h
 |some j=>
  rw[q]at h;exact r.get h
theorem y5e:Op2 K (rIx K) ixW:=by
 intro G H x y wx wy w Q s px py hf h;unfold ixW at hf;split at hf
 ·obtain⟨a,xs,rfl,ha,ra⟩:=px;cases py;obtain⟨v,hv,rv⟩:=ra.atI hf;exact .inr (.inl ⟨a,xs,_,v,rfl,rfl,s.tup ha,hv,h G v H (.refl s) rv⟩)
 ·obtain⟨a,xs,rfl,ha,ra⟩:=px;cases py;obtain⟨v,hv,rv⟩:=ra.atI hf;exact .inl ⟨a,xs,_,v,rfl,rfl,s.seq ha,hv,h G v H (.refl s) rv⟩
 ·cases px;cases py;split at hf
  ·rename_i hl;obtain⟨c,hc,rfl⟩:=w0t.mp hf;exact .inr (.inr ⟨_,_,c,rfl,rfl,by grind [sizeLine_eq],hc,h G _ H (.refl s) rfl⟩)
  ·cases hf
 ·cases hf
def S.look:S->Option W
 |.fr w=>some w
 |.own _ ws=>some (.lst ws)
 |.no=>none
 |.dic _=>none
 |.thr _ _ _=>none
 |.nest _=>none
 |.x k=>k.look
 |.dw _ _ _=>none
def dIxV(i:Nat)(d:Den W):Den W:=fun e=>match e[i]?.bind S.look with
 |none=>.no
 |some _=>(d e).bind fun k e1=>match e1[i]?.bind S.look with
  |none=>.no
  |some w=>ofOpt (ixW w k) e1
def lenW:W->Option W
 |.str z=>if z.length<=16777216 then some (.int z.length)else none
 |.tup ws=>some (.int ws.length)
 |.lst ws=>some (.int ws.length)
 |_=>none
def len1:List W->Option W
 |[w]=>lenW w
 |_=>none
theorem x9g:OpN K (fun xs H Q=>∃x n,xs=[x]/\LenV K x H n/\Q (.int n) H) len1:=by
 intro G H xs ws w Q s pr hf h;unfold len1 at hf;split at hf
 ·obtain⟨x,r,rfl,px,pr⟩:=pr;cases(show r=[]from pr);unfold lenW at hf;split at hf
  ·split at hf
   ·rename_i hl;cases hf;cases px;exact⟨_,_,rfl,⟨by grind [sizeLine_eq],rfl⟩,h G _ H (.refl s) rfl⟩
   ·cases hf
  ·cases hf;obtain⟨a,xs,rfl,ha,ra⟩:=px;exact⟨_,_,rfl,.inr ⟨xs,s.tup ha,rfl⟩,h G _ H (.refl s) (by rw[ra.length];rfl)⟩
  ·cases hf;obtain⟨a,xs,rfl,ha,ra⟩:=px;exact⟨_,_,rfl,.inl ⟨xs,s.seq ha,rfl⟩,h G _ H (.refl s) (by rw[ra.length];rfl)⟩
  ·cases hf
 ·cases hf
def scalW:W->Bool
 |.non=>true|.bl _=>true|.int _=>true|.str _=>true|_=>false
theorem y2t(h:scalW w=true)(p:Rep K G w v):Rep K G' w v:=by
 cases w with
 |non=>exact p
 |bl b=>exact p
 |int i=>exact p
 |str x=>exact p
 |_=>cases h
def dFnV(i:Nat)(f:List W->Option W):Den W:=fun e=>match e[i]?.bind S.look with
 |none=>.no
 |some w=>match f [w]with
  |none=>.no
  |some v=>match e[i]? with
   |some (.fr _)=>.ok v e
   |_=>if scalW v=true then .ok v e else .no
section
variable{a b e:Expr}{p:Pos}{x:Str}
theorem q0l(ha:DE Z X EE a d)(hb:DE Z X EE b db)(hs:PlainIx b:=by intro _ _;rfl):DE Z X EE (.Subscript a b pos) (dOp ixW d db):=PE.mono (x3r x82 ha hb hs) (q32 y5e)
theorem Rel.look{e:List S}(r:Rel K Z G σ H e){w:W}(h:e[i]?.bind S.look=some w):∃v,σ[i]?=some (some v) /\
  (Rep K G w v\/∃ws a xs u,(∀z,e[i]?≠some (.fr z))/\w=.lst ws/\v=.ref a/\H a=some u/\(u=.lst xs\/∃o,u=.frz o (.lst xs))/\G a=none/\Reps K G ws xs):=by
 obtain⟨s,h1,h2⟩:=w2k.mp h;cases s with
 |no=>cases h2
 |dic _=>cases h2
 |thr _ _ _=>cases h2
 |nest _=>cases h2
 |dw _ _ _=>cases h2
 |fr w'=>
  cases h2;obtain⟨v,h3,h4⟩:=r.fr h1;exact⟨v,h3,.inl h4⟩
 |x k=>
  have q:=r.slot i _ h1;cases k with
  |old w'=>cases h2;obtain⟨v,h1',h3⟩:=r.plain h1 rfl;exact⟨v,h1',.inl h3⟩
  |new w'=>cases h2;obtain⟨v,h1',h3⟩:=r.plain h1 rfl;exact⟨v,h1',.inl h3⟩
  |acc ws=>cases h2;obtain⟨a,o,xs,k1,⟨k2,k3,_⟩,k5⟩:=q;exact⟨.ref a,r.at h1 fun _=>k1,.inr ⟨ws,a,xs,_,(fun z y=>by rw[h1]at y;cases y),rfl,rfl,k2,.inr ⟨o,rfl⟩,k3,RepNs.reps _ k5⟩⟩
  |_=>cases h2
 |own b ws=>
  cases h2;obtain⟨a,xs,h3,h4,h5,h6,h7⟩:=r.own h1;exact⟨.ref a,h3,.inr ⟨ws,a,xs,_,(fun z y=>by rw[h1]at y;cases y),rfl,rfl,h4,.inl rfl,h5,h7⟩⟩
theorem x9h{K:PySem.W.Frag}{a:Addr}{u:HO}(s:Same G H)(h:H a=some u)(hg:G a=none):Same G (upd G a u)/\Same (upd G a u) H:=
 ⟨q24 hg _,fun c o z=>by
  by_cases hc:c=a
  ·subst hc;rw[q0j]at z;cases z;exact h
  ·rw[q0f hc]at z;exact s c o z⟩
theorem x01(i:Nat)(hb:DE Z X EE b d)(hN:X.N[i]?=some x:=by rfl)(hv:Vis X.env.scope x:=by walk_at "1")(hd:(x==("__debug__":Str))=false:=by decide)
  (hcd:(x==("__classdict__":Str))=false:=by decide)(hs:PlainIx b:=by intro _ _;rfl):DE Z X EE (.Subscript (.Name x p) b pos) (dIxV i d):=by
 refine PE.mono (x3r x82 (pv i hN hv hd hcd) hb hs) ?_;rintro σ H Q ⟨G,e,rel,h⟩;unfold dIxV at h;split at h
 ·exact h.elim
 ·rename_i w0 hw0;obtain⟨v,hv,_⟩:=rel.look hw0;refine⟨v,hv,G,e,rel,(R.holds_bind.mp h).imp (fun k e1 h G1 u H1 r1 s1 p1=>?_) fun _ _ h=>h⟩
  split at h
  ·exact h.elim
  ·rename_i w hw;obtain⟨w',hf,h2⟩:=ofOpt_holds.mp h;obtain⟨v',hv',q⟩:=r1.look hw;rw[hv]at hv';cases hv';rcases q with q|⟨ws,a,xs,u,he,rfl,rfl,q1,qu,q2,q3⟩
   ·exact y5e G1 H1 v u w k w' Q r1.sub q p1 hf fun G' v H' g p=>h2 G' v H' (r1.grow g) (s1.trans g.gg) p
   ·-- an item of one's own list
    unfold ixW at hf;split at hf
    ·rename_i heq;cases heq
    ·rename_i heq;cases heq;cases p1;obtain⟨y,hy,ry⟩:=q3.atI hf;refine .inl ⟨a,xs,_,y,rfl,rfl,?_,hy,h2 G1 y H1 r1 s1 ry⟩;rcases qu with rfl|⟨o,rfl⟩
     ·exact SqL.of q1
     ·exact .inl (.inr ⟨o,q1⟩)
    all_goals grind
theorem z0s{r:List V->Hp->VK->Prop}{f:List W->Option W}(i:Nat){id:String}{fn:Str}(hc:CallR X (.builtin id) r)(hf:OpN X.K r f)(hv:bootBuiltins fn=some (.builtin id))(hm:X.mg fn=none)
  (hN:X.N[i]?=some x:=by rfl)(hvis:Vis X.env.scope x:=by walk_at "1")(hd:(x==("__debug__":Str))=false:=by decide)(hcd:(x==("__classdict__":Str))=false:=by decide)
  (hg:Gl X fn:=by rfl)(hn:fn≠"__name__":=by decide)(hdb:(fn==("__debug__":Str))=false:=by decide)(hs:starEach [.Name x p] X.env=(false,eval (.Name x p) X.env)::starEach [] X.env:=by rfl)(hpl:(backTo pos (starEach [] X.env)).any (·.1)=false:=by rfl):
  DE Z X EE (.Call (.Name fn pn) [.Name x p] [] pos) (dFnV i f):=by
 refine PE.mono (q95 hc hg hm hv (q5e (pv i hN hvis hd hcd) x0t hs) hn hdb hs hpl) ?_;rintro σ H Q ⟨G,e,rel,h⟩;unfold dFnV at h;split at h
 ·exact h.elim
 ·rename_i w hw;split at h
  ·exact h.elim
  ·rename_i y hy;obtain⟨v,hv,q⟩:=rel.look hw;refine⟨v,hv,?_⟩;rcases q with q|⟨ws,a,xs,u,he,rfl,rfl,q1,qu,q2,q3⟩
   ·refine hf G H [v] [w] y Q rel.sub (.one q) hy fun G' v H' g p=>?_
    split at h
    ·exact h G' v H' (rel.grow g) g.gg p
    ·split at h
     ·exact h G' v H' (rel.grow g) g.gg p
     ·exact h.elim
   ·split at h
    ·grind
    split at h
    ·rename_i hsc;obtain⟨s1,s2⟩:=x9h (K:=X.K) rel.sub q1 q2
     have hsq:SqL X.K (upd G a u) a xs:=by
      rcases qu with rfl|⟨o,rfl⟩
      ·exact SqL.of q0j
      ·exact .inl (.inr ⟨o,q0j⟩)
     refine hf (upd G a u) H [.ref a] [.lst ws] y Q s2 (.one ⟨a,xs,rfl,hsq,Reps.mono s1 ws q3⟩) hy fun G' v H' g p=>?_
     have g':Grow G H G H':=⟨g.hh,.refl _,rel.sub.trans g.hh,fun _ _=>rfl⟩
     exact(show ∀G' v H',_->_->Rep X.K G' y v->Q v H' from h) G v H' (rel.grow g') (.refl _) (y2t hsc p)
    ·exact h.elim
def dApp(i:Nat)(d:Den (List W)):List S->SR:=fun e=>match e[i]? with
 |some (.own _ _)=>(d e).stm fun ws e1=>match ws,e1[i]? with
  |[w],some (.own b xs)=>if xs.length<16777216 then .nx (e1.set i (.own b (xs++[w])))else .no
  |_,_=>.no
 |_=>.no
theorem q1r(i:Nat)(ha:DA Z X EE (e::es) dA)(hN:X.N[i]?=some x:=by rfl)(hv:Vis X.env.scope x:=by walk_at "1")(hd:(x==("__debug__":Str))=false:=by decide)(hcd:(x==("__classdict__":Str))=false:=by decide)
  (hbase:attributeBase (.Name x p) "append" X.env (eval (.Name x p) X.env)=eval (.Name x p) X.env:=by rfl)
  (hfew:((backTo cpos (starEach (e::es) X.env)).all (fun x=>!x.1)&&(backToKw cpos (keywordEach [] X.env)).all (fun x=>x.1.isSome)&&decide ((e::es).length+([]:List Keyword).length+(if([]:List Keyword).isEmpty then 0 else 1)<30))=true:=by rfl)
  (hline:(apos.endLine==cpos.line)=true:=by rfl)(hs:starEach (e::es) X.env=(false,eval e X.env)::starEach es X.env:=by rfl)(hplain:(backTo cpos (starEach es X.env)).any (·.1)=false:=by rfl)
  (hsw:swapsWith (.Call (.Attribute (.Name x p) "append" apos) (e::es) [] cpos) none pos.line X.env=pure false:=by rfl):
  DS Z X EE (.Expr (.Call (.Attribute (.Name x p) "append" apos) (e::es) [] cpos) pos) (dApp i dA):=by
 refine PS.mono (q7f (z0l (pv i hN hv hd hcd) ha hbase hfew hline hs hplain) hsw) ?_;rintro D σ H ⟨G,e,rel,h⟩;unfold dApp at h;split at h
 ·rename_i b0 ws0 he0;obtain⟨a,xs,h1,h2,h3,h4,h5⟩:=rel.own he0;refine⟨.ref a,h1,.inl ⟨rfl,xs,SqL.of h2⟩,G,e,rel,(q0x h).imp (fun ws e1 h G1 vs H1 r1 s1 p1=>?_) fun _ _ h=>h⟩
  split at h
  ·rename_i w b ys he1;obtain⟨a',zs,g1,g2,g3,g4,g5⟩:=r1.own he1;rw[h1]at g1;cases g1;obtain⟨y,r,rfl,py,pr⟩:=p1;cases(show r=[]from pr);split at h
   ·rename_i hl;refine⟨a,zs,y,rfl,rfl,g2,by rw[g5.length,sizeLine_eq];exact hl,?_⟩;exact h G1 σ _ (r1.mut he1 h1 (g5.append (.one py))) s1
   ·exact h.elim
  ·exact h.elim
 ·exact h.elim
def dPop(i:Nat):Den W:=fun e=>match e[i]? with
 |some (.own b ws)=>match ws[ws.length-1]? with
  |some w=>.ok w (e.set i (.own b ws.dropLast))
  |none=>.no
 |_=>.no
theorem q6v(i:Nat)(hN:X.N[i]?=some x:=by rfl)(hv:Vis X.env.scope x:=by walk_at "1")(hd:(x==("__debug__":Str))=false:=by decide)(hcd:(x==("__classdict__":Str))=false:=by decide)
  (hbase:attributeBase (.Name x p) "pop" X.env (eval (.Name x p) X.env)=eval (.Name x p) X.env:=by rfl)(hline:(apos.endLine==cpos.line)=true:=by rfl):DE Z X EE (.Call (.Attribute (.Name x p) "pop" apos) [] [] cpos) (dPop i):=by
 refine PE.mono (z0i PySem.F.plainAttrs_list PySem.F.slot_list_pop PySem.F.type_list_pop z0j (pv i hN hv hd hcd) hbase hline) ?_;rintro σ H Q ⟨G,e,rel,h⟩;unfold dPop at h;split at h
 ·rename_i b ws he;obtain⟨a,xs,h1,h2,h3,h4,h5⟩:=rel.own he;split at h
  ·rename_i w hw;obtain⟨y,hy,ry⟩:=h5.get hw;refine⟨.ref a,h1,.inl ⟨rfl,xs,SqL.of h2⟩,a,xs,y,rfl,rfl,h2,by rw[h5.length];exact hy,?_⟩;exact h G y _ (rel.mut he h1 h5.dropLast) (.refl _) ry
  ·exact h.elim
 ·exact h.elim
end
def compD(c:Den Bool)(d:Den W)(pe:List S):List W->Option (List W)
 |[]=>some []
 |w::ws=>match c (.fr w::pe)with
  |.ok true e1=>match d e1 with
   |.ok y _=>(compD c d pe ws).map (y::·)
   |_=>none
  |.ok false _=>compD c d pe ws
  |_=>none
def frz1(e:List S)(j:Nat):List S:=match e[j]? with
 |some (.own none ws)=>e.set j (.fr (.lst ws))
 |_=>e
def frzs(js:List Nat)(e:List S):List S:=js.foldl frz1 e
def pj1(e:List S)(j:Nat):S:=match e[j]? with
 |some (.fr w)=>.fr w
 |_=>.no
def pjS(js:List Nat)(e:List S):List S:=js.map (pj1 e)
def compK(js:List Nat)(c:Den Bool)(d:Den W)(ws:List W)(e1:List S):R (List W):=
 if ws.length<=16777216 then(match compD c d (pjS js (frzs js e1)) ws with
  |some out=>.ok out (frzs js e1)
  |none=>.no)else .no
def dComp(js:List Nat)(di:Den W)(c:Den Bool)(d:Den W):Den (List W):=fun e=>(di e).bind fun w e1=>match seqW w with
 |some ws=>compK js c d ws e1
 |none=>.no
def dCompR(g:List W->Option (List W))(js:List Nat)(di:Den (List W))(c:Den Bool)(d:Den W):Den (List W):=fun e=>(di e).bind fun w e1=>match g w with
 |some ws=>compK js c d ws e1
 |none=>.no
def dYes:Den Bool:=fun e=>.ok true e
section
variable{e:List S}
theorem Rel.frzs(r:Rel K Z G σ H e):∀(js:List Nat),∃G',Same G G'/\Rel K Z G' σ H (frzs js e):=by
 intro js
 induction js generalizing G e with
 |nil=>exact⟨G,.refl _,r⟩
 |cons j js ih=>
  have one:∃G',Same G G'/\Rel K Z G' σ H (frz1 e j):=by
   unfold frz1;split
   ·rename_i ws hw;obtain⟨v,G',_,s,_,r'⟩:=r.freeze hw;exact⟨G',s,r'⟩
   grind [Same.refl]
  obtain⟨G1,s1,r1⟩:=one;obtain⟨G2,s2,r2⟩:=ih r1;exact⟨G2,s1.trans s2,r2⟩
theorem Rel.block(r:Rel K Z G σ H e)(js)(p:Rep K G w x):Rel K ⟨H,G,[]⟩ G (some x::pj js σ) H (.fr w::pjS js e):=by
 have hfr:∀(i:Nat)(s:S),(S.fr w::pjS js e)[i]?=some s->s=.no\/∃u,s=.fr u/\((i=0/\u=w)\/∃k j,i=k+1/\js[k]?=some j/\e[j]?=some (.fr u)):=fun i s h=>by
  grind [pjS,pj1]
 refine⟨r.sub,fun i s h=>?_,?_,fun i j b b' w1 w2 a h1 h2 _ _=>?_,fun a o h _=>h,(fun a h=>nomatch h),fun a _=>rfl⟩
 ·rcases hfr i s h with rfl|⟨u,rfl,⟨rfl,rfl⟩|⟨k,j,rfl,h1,h2⟩⟩
  ·trivial
  ·exact⟨x,rfl,p⟩
  ·obtain⟨v,h3,h4⟩:=r.fr h2;refine⟨v,?_,h4⟩
   grind [pj]
 all_goals grind [pjS,pj]
theorem Rel.mutFree(r:Rel K Z G σ H e)(hg:G a=none)(hz:Z.H a=none)(hi:a∉Z.io)(hf:Free σ e a)(hls:H a=some (.lst ls)):Rel K Z G σ (upd H a o) e:=by
 refine⟨fun c u z=>?_,fun j s z=>?_,r.len,r.dis,fun c u z n=>?_,fun c z=>?_,r.gen⟩
 ·rw[q0f (q0o z hg)];exact r.sub c u z
 ·have y:=r.slot j s z;cases s with
  |no=>trivial
  |fr w=>exact y
  |own b2 w2=>
   obtain⟨c,ys,y1,y2,y3,y4,y5⟩:=y;refine⟨c,ys,y1,?_,y3,y4,y5⟩;rw[q0f];exact y2;rintro rfl;obtain⟨c',_,z1,_⟩:=r.own z;rw[z1]at y1;cases y1;exact hf j b2 w2 z z1
  |dic kvs=>
   obtain⟨c,y1,y2,y3,y4⟩:=y;refine⟨c,y1,?_,y3,y4⟩;rw[q0f (q0u y2 hls (q3k rfl))];exact y2
  |thr us w2 vs=>
   obtain⟨t,l,o,xs2,ys,zs,y1,y2,y3,y4,y5,y6⟩:=y;refine⟨t,l,o,xs2,ys,zs,y1,y2,?_,y4,y5,y6⟩;rw[q0f (q0u y3 hls (fun z=>nomatch z))];exact y3
  |nest wss=>exact NestOk.move y (.refl _) fun l o ys k1 k2 k3=>⟨by rw[q0f (q0u k1 hls (fun z=>nomatch z))];exact k1,k2,k3⟩
  |x k=>exact XOk.move y (.refl _) fun l o ys k1 k2 k3=>⟨by rw[q0f (q0u k1 hls (fun z=>nomatch z))];exact k1,k2,k3⟩
  |dw sh ks ws=>exact DwOk.move y (.refl _) fun l o ys k1 k2 k3=>⟨by rw[q0f (q0u k1 hls (q53 rfl))];exact k1,k2,k3⟩
 ·rw[q0f (q0o z hz)];exact r.ent c u z n
 ·by_cases hc:c=a
  ·grind
  ·rw[q0f hc];exact r.ion c z
structure Walk(J:It)(xs:List V)(SQ:Hp->Prop):Prop where
 go:∀i H,SQ H->i<xs.length->J.go i H
 yld:∀i H x H',SQ H->J.yld i H x H'->i<xs.length->H'=H/\xs[i]?=some x
 stop:∀i H,SQ H->xs.length<=i->J.stop i H
theorem x9i:Walk (Itl K a) xs (fun H=>SqL K H a xs):=
 ⟨fun i H q h=>⟨xs,xs[i],q,by simp[h]⟩,fun i H x H' q ⟨e,y⟩ h=>⟨e,y xs q⟩,fun i H q h=>⟨xs,q,h⟩⟩
theorem x9j:Walk (Itt K a) xs (fun H=>SqT K H a xs):=
 ⟨fun i H q h=>⟨xs,xs[i],q,by simp[h]⟩,fun i H x H' q ⟨e,y⟩ h=>⟨e,y xs q⟩,fun i H q h=>⟨xs,q,h⟩⟩
theorem z0t:Walk (Itr lo n) ((List.range n).map fun k=>V.int (lo+(k:Nat))) (fun _=>True):=
 ⟨fun i H q h=>show i<n by simpa using h,fun i H x H' q ⟨e,y⟩ h=>⟨e,by simp at h;simp[h,y]⟩,fun i H q h=>show n<=i by simpa using h⟩
theorem q9c{Q:VK}(W0:Walk J xs SQ)(r1:Rel K Z G1 σ H1 e1)(s1:Same G0 G1)(rp:Reps K G1 ws xs)(hSQ:∀G' H',Same G1 G'->Same G' H'->SQ H')(hl:ws.length<=16777216)
  (hz:∀p,H1 p=none->p∉Z.io)(hc:compD c d (pjS js e1) ws=some out)
  (h:∀G' a xs H',Rel K Z G' σ H' e1->Same G0 G'->H' a=some (.lst xs)->G' a=none->Z.H a=none->Free σ e1 a->Reps K G' out xs->Q (.ref a) H'):
  ∀D,H1 D=none->∃W:Nat->Nat->Hp->Prop,(∃m,W 0 m (upd H1 D (.lst [])))/\∀i m H2,W i m H2 ->
   (J.stop i H2/\Q (.ref D) H2)\/(J.go i H2/\∀x H3,J.yld i H2 x H3->gName 0 x (List.replicate 1 none++pj js σ) H3 fun σ4 H4=>Kp (List.replicate 1 none++pj js σ) σ4/\(fun σ H Q=>∃Z',liftT K Z' (fun _=>E0) c σ H Q) σ4 H4 fun b H5=>
    if b=true then(fun σ H Q=>∃Z',AtG K Z' σ H fun G e=>(d e).holds (fun w e'=>∀G' v H',Rel K Z' G' σ H' e'->Same G G'->Rep K G' w v->Q v H') (XH K Z' (fun _=>E0) σ G)) σ4 H5 fun y H6=>∃ys,H6 D=some (.lst ys)/\ys.length<sizeLine/\∃m',m'<m/\W (i+1) m' (upd H6 D (.lst (ys++[y])))else ∃m',m'<m/\W (i+1) m' H5):=by
 intro D hD;have hlen:=rp.length
 refine⟨fun i m H2=>m=ws.length-i/\i<=ws.length/\∃G2 ys done rest,Rel K Z G2 σ H2 e1/\Same G1 G2/\H2 D=some (.lst ys)/\G2 D=none/\Reps K G2 done ys/\done.length<=i/\compD c d (pjS js e1) (ws.drop i)=some rest/\done++rest=out,
  ⟨ws.length,by omega,w1c _,G1,[],[],out,r1.grow (Grow.hid r1.sub hD _),.refl _,q0j,r1.sub.free hD,rfl,w0b _,hc,rfl⟩,?_⟩
 rintro i m H2 ⟨rfl,hi,G2,ys,done,rest,r2,s2,hd2,hg2,rp2,hdl,hc2,ho⟩;have hfree:Free σ e1 D:=q96 r1 hD;have hzh:Z.H D=none:=q6u r1 hD
 by_cases hlt:i<ws.length
 ·refine .inr ⟨W0.go i H2 (hSQ G2 H2 s2 r2.sub) (by omega),fun x H3 hy=>?_⟩
  obtain⟨rfl,hx⟩:=W0.yld i H2 x H3 (hSQ G2 H2 s2 r2.sub) hy (by omega);obtain⟨w,hw,pw⟩:=rp.getV hx;rw[x2m hw]at hc2;refine⟨Kp.one,⟨H3,G2,[]⟩,G2,.fr w::pjS js e1,r2.block js (Rep.mono s2 w pw),?_⟩;unfold compD at hc2;cases qc:c (.fr w::pjS js e1)with
  |no=>grind
  |ex _ _=>grind
  |ok k e2=>
   rw[qc]at hc2;intro G3 H5 r3 s3;have g3:=r3.toGrow s3;cases k with
   |false=>
    exact⟨ws.length-(i+1),by omega,rfl,hlt,G3,ys,done,rest,r2.grow g3,s2.trans s3,g3.hh _ _ hd2,by rw[g3.new D (by rw[hd2];simp)];exact hg2,Reps.mono s3 _ rp2,by omega,hc2,ho⟩
   |true=>
    refine⟨⟨H3,G2,[]⟩,G3,e2,r3,?_⟩;dsimp only at hc2;cases qd:d e2 with
    |no=>grind
    |ex _ _=>grind
    |ok y e3=>
     rw[qd]at hc2;intro G4 v H6 r4 s4 p4;have g4:=r4.toGrow (s3.trans s4);obtain⟨rest',hr,rfl⟩:=w0t.mp hc2;have hd6:H6 D=some (.lst ys):=g4.hh _ _ hd2;have hg6:G4 D=none:=by rw[g4.new D (by rw[hd2];simp)];exact hg2
     refine⟨ys,hd6,?_,ws.length-(i+1),by omega,rfl,hlt,G4,ys++[v],done++[y],rest',(r2.grow g4).mutFree hg6 hzh (hz D hD) hfree hd6,s2.trans (s3.trans s4),q0j,hg6,(Reps.mono (s3.trans s4) _ rp2).append (.one p4),by simp;omega,hr,by grind⟩;rw[rp2.length,sizeLine_eq];omega
 ·have:i=ws.length:=by omega
  subst this;rw[w3l]at hc2;cases hc2;rw[w1h]at ho;subst ho;exact .inl ⟨W0.stop _ H2 (hSQ G2 H2 s2 r2.sub) (by omega),h G2 D ys H2 r2 (s1.trans s2) hd2 hg2 hzh hfree rp2⟩
end
section
variable{elt iter a b:Expr}{ifs:List Expr}{scope sc:Scope}{pt:Pos}{x:Str}{Nf N:List Str}{di:Den W}{c:Den Bool}
def DTs(Z:Zt)(X:Cx)(EE:L2.St->XK)(ifs:List Expr)(c:Den Bool):Prop:=PTs X ifs (liftT X.K Z EE c)
theorem q6m:DTs Z X EE [] dYes:=fun pins s σ H Q I ⟨G,e,r,h⟩=>y59 pins s σ H Q I (h G H r (.refl _))
theorem x1u(h:DT Z X EE a c):DTs Z X EE [a] c:=y6a h
def cT(K:PySem.W.Frag)(c:Den Bool):TT:=fun σ H Q=>∃Z',liftT K Z' (fun _=>E0) c σ H Q
def cE(K:PySem.W.Frag)(d:Den W):TE:=fun σ H Q=>∃Z',AtG K Z' σ H fun G e=>(d e).holds (fun w e'=>∀G' v H',Rel K Z' G' σ H' e'->Same G G'->Rep K G' w v->Q v H') (XH K Z' (fun _=>E0) σ G)
theorem x2o{D:Ends}{r:R (List W)}{k:W->List S->SR}(h:PostS K Z EE D G ((r.bind fun ws e'=>.ok (.lst ws) e').stm k)):r.holds (fun ws e'=>PostS K Z EE D G (k (.lst ws) e')) (XH K Z EE σ G):=by
 cases r with
 |ok a e=>exact h
 |ex c e=>exact fun G' H' r q=>h G' σ H' r q
 |no=>exact h
theorem x3t(ht:∀Z' cl C s₀ H₀ ex,DTs Z' (X.cp Y scope cl C s₀ H₀ ex) (fun _=>E0) ifs c):∀cl C s₀ H₀ ex,PTs (X.cp Y scope cl C s₀ H₀ ex) ifs (cT X.K c):=fun cl C s₀ H₀ ex pins s σ H Q I ⟨Z',h⟩=>ht Z' cl C s₀ H₀ ex pins s σ H Q I h
theorem x3u(he:∀Z' cl C s₀ H₀ ex,DE Z' (X.cp Y scope cl C s₀ H₀ ex) (fun _=>E0) elt d):∀cl C s₀ H₀ ex,PE (X.cp Y scope cl C s₀ H₀ ex) elt (cE X.K d):=fun cl C s₀ H₀ ex pins s σ H Q I ⟨Z',h⟩=>he Z' cl C s₀ H₀ ex pins s σ H Q I h
theorem ionone(r:Rel K Z G σ H e):∀p,H p=none->p∉Z.io:=fun p hp hi=>r.ion p hi hp
theorem x2p:∀σ H Q,liftF K Z EE (dComp js di c d) σ H Q->tComp (iSeq K (liftE K Z EE di)) 1 js (gName 0) (cT K c) (cE K d) σ H Q:=by
 rintro σ H Q ⟨G,e,rel,h⟩;simp only[dComp,R.holds_bind]at h;refine⟨G,e,rel,h.imp (fun w e1 h G1 v1 H1 r1 s1 p1=>?_) fun _ _ h=>h⟩
 split at h
 ·rename_i ws hw;unfold compK at h;split at h
  ·rename_i hl;split at h
   ·rename_i out ho;obtain⟨G2,s2,r2⟩:=r1.frzs js;have p2:=Rep.mono s2 w p1;have io:=ionone r2;cases w with
    |tup us=>
     cases hw;obtain⟨a,xs,rfl,hq,rp⟩:=p2;exact⟨a,rfl,.inr ⟨⟨xs,r2.sub.tup hq⟩,q9c x9j r2 (s1.trans s2) rp (fun G' H' s s'=>Same.tup s' (Same.tup s hq)) hl io ho h⟩⟩
    |lst us=>
     cases hw;obtain⟨a,xs,rfl,hq,rp⟩:=p2;exact⟨a,rfl,.inl ⟨⟨xs,r2.sub.seq hq⟩,q9c x9i r2 (s1.trans s2) rp (fun G' H' s s'=>Same.seq s' (Same.seq s hq)) hl io ho h⟩⟩
    |_=>cases hw
   ·exact h.elim
  ·exact h.elim
 ·exact h.elim
theorem x1v(hc:X.calm=true)(hi:DE Z X EE iter di)(ok:compOk sc scope N Nf js=true)
  (ht:∀Z' cl C s₀ H₀ ex,DTs Z' (X.cp ([x]++Nf) scope cl C s₀ H₀ ex) (fun _=>E0) ifs c)(he:∀Z' cl C s₀ H₀ ex,DE Z' (X.cp ([x]++Nf) scope cl C s₀ H₀ ex) (fun _=>E0) elt d)
  (hg:∀cl C s₀ H₀ ex,PG (X.cp ([x]++Nf) scope cl C s₀ H₀ ex) (.Name x pt) (gName 0))
  (hsc:X.env.scope=sc:=by rfl)(hN:X.N=N:=by rfl)(hs:∀x,foldedSetIterable iter X.env x=pure x:=by intro _;rfl):
  DF Z X EE (.ListComp elt [⟨.Name x pt,iter,ifs,0⟩] scope pos) (dComp js di c d):=by
 exact PE.mono (x4c (Nl:=[x]) (tc:=cT X.K c) (te:=cE X.K d) hc (x0z hi) ok hg (x3t ht) (x3u he) hsc hN hs) x2p
theorem x02(i:Nat){y:Str}{py spos:Pos}(hNd:X.N.Nodup)(hc:X.calm=true)(hi:DE Z X EE iter di)(ok:compOk sc scope N Nf js=true)
  (ht:∀Z' cl C s₀ H₀ ex,DTs Z' (X.cp ([x]++Nf) scope cl C s₀ H₀ ex) (fun _=>E0) ifs c)(he:∀Z' cl C s₀ H₀ ex,DE Z' (X.cp ([x]++Nf) scope cl C s₀ H₀ ex) (fun _=>E0) elt d)
  (hg:∀cl C s₀ H₀ ex,PG (X.cp ([x]++Nf) scope cl C s₀ H₀ ex) (.Name x pt) (gName 0))
  (hsc:X.env.scope=sc:=by rfl)(hN:X.N=N:=by rfl)(hs:∀x,foldedSetIterable iter X.env x=pure x:=by intro _;rfl)(hiy:X.N[i]?=some y:=by rfl)(hxy:Loc X.env.scope y:=by walk_at "3")(hfy:X.fn y=true\/X.env.scope.names.lookup y=some .local:=by walk_at "2")(hsw:swapsWith (.ListComp elt [⟨.Name x pt,iter,ifs,0⟩] scope pos) (some (.Name y py)) spos.line X.env=pure true:=by rfl):
  DS Z X EE (.Assign [.Name y py] (.ListComp elt [⟨.Name x pt,iter,ifs,0⟩] scope pos) spos) (dSet i (dFz (dComp js di c d))):=by
 refine PS.mono (x2n (Nl:=[x]) (tc:=cT X.K c) (te:=cE X.K d) hc (x0z hi) ok hg (x3t ht) (x3u he) (q2q i hNd hiy hxy hfy) hsw hsc hN hs) ?_;rintro D σ H ⟨G,e,rel,h⟩;refine x2p σ H _ ⟨G,e,rel,?_⟩;refine(x2o h).imp (fun w e1 h G1 a xs H1 r1 s1 q1 q2 q3 q4 p1=>?_) fun _ _ h=>h
 obtain⟨sg,rg⟩:=r1.seen q1 q2 q3 q4;exact h _ _ H1 (rg.set (v:=.ref a) ⟨a,xs,rfl,SqL.of q0j,Reps.mono sg w p1⟩) (s1.trans sg)
theorem x7s:∀σ H Q,liftF K Z EE (dCompR rng1 js dA c d) σ H Q->tComp (iRng1 (liftA K Z EE dA)) 1 js (gName 0) (cT K c) (cE K d) σ H Q:=by
 rintro σ H Q ⟨G,e,rel,h⟩;simp only[dCompR,R.holds_bind]at h;refine⟨G,e,rel,h.imp (fun ws e1 h G1 vs H1 r1 s1 p1=>?_) fun _ _ h=>h⟩
 unfold rng1 at h;split at h
 ·rename_i us hh;split at hh
  ·rename_i j;split at hh
   ·rename_i hj;cases hh;obtain⟨y,r,rfl,e1,e2⟩:=p1;cases(show y=V.int j from e1);cases(show r=[]from e2);refine⟨j,rfl,(q57 hj).1,(q57 hj).2,?_⟩;unfold compK at h;split at h
    ·rename_i hl;split at h
     ·rename_i out ho;obtain⟨G2,s2,r2⟩:=r1.frzs js;have z:=q9c (J:=Itr 0 (j-0).toNat) z0t r2 (s1.trans s2) (x00 (lo:=0) (hi:=j)) (fun _ _ _ _=>trivial) hl (ionone r2) ho h
      rwa [Int.sub_zero]at z
     ·exact h.elim
    ·exact h.elim
   ·cases hh
  ·cases hh
 ·exact h.elim
theorem q69(i:Nat){y:Str}{py spos:Pos}(hNd:X.N.Nodup)(hc:X.calm=true)(hm:X.mg "range"=none)(ha:DA Z X EE [a] dA)(ok:compOk sc scope N Nf js=true)
  (ht:∀Z' cl C s₀ H₀ ex,DTs Z' (X.cp ([x]++Nf) scope cl C s₀ H₀ ex) (fun _=>E0) ifs c)(he:∀Z' cl C s₀ H₀ ex,DE Z' (X.cp ([x]++Nf) scope cl C s₀ H₀ ex) (fun _=>E0) elt d)
  (hg:∀cl C s₀ H₀ ex,PG (X.cp ([x]++Nf) scope cl C s₀ H₀ ex) (.Name x pt) (gName 0))
  (hgr:Gl X "range":=by rfl)(hs1:starEach [a] X.env=[(false,eval a X.env)]:=by rfl)(hsc:X.env.scope=sc:=by rfl)(hN:X.N=N:=by rfl)(hs:∀x,foldedSetIterable (.Call (.Name "range" p1) [a] [] p2) X.env x=pure x:=by intro _;rfl)(hiy:X.N[i]?=some y:=by rfl)(hxy:Loc X.env.scope y:=by walk_at "3")(hfy:X.fn y=true\/X.env.scope.names.lookup y=some .local:=by walk_at "2")(hsw:swapsWith (.ListComp elt [⟨.Name x pt,.Call (.Name "range" p1) [a] [] p2,ifs,0⟩] scope pos) (some (.Name y py)) spos.line X.env=pure true:=by rfl):
  DS Z X EE (.Assign [.Name y py] (.ListComp elt [⟨.Name x pt,.Call (.Name "range" p1) [a] [] p2,ifs,0⟩] scope pos) spos) (dSet i (dFz (dCompR rng1 js dA c d))):=by
 refine PS.mono (x2n (Nl:=[x]) (tc:=cT X.K c) (te:=cE X.K d) hc (x2d hgr hm ha hs1) ok hg (x3t ht) (x3u he) (q2q i hNd hiy hxy hfy) hsw hsc hN hs) ?_;rintro D σ H ⟨G,e,rel,h⟩;refine x7s σ H _ ⟨G,e,rel,?_⟩;refine(x2o h).imp (fun w e1 h G1 a xs H1 r1 s1 q1 q2 q3 q4 p1=>?_) fun _ _ h=>h
 obtain⟨sg,rg⟩:=r1.seen q1 q2 q3 q4;exact h _ _ H1 (rg.set (v:=.ref a) ⟨a,xs,rfl,SqL.of q0j,Reps.mono sg w p1⟩) (s1.trans sg)
end
mutual
def depW:W->Nat
 |.tup ws=>depWs ws+1
 |.lst ws=>depWs ws+1
 |_=>0
def depWs:List W->Nat
 |[]=>0
 |w::ws=>max (depW w) (depWs ws)
end
section
variable{pins:List (Addr×Obj)}{s:Shared}
mutual
theorem x1w(I:Inv X pins σ H s)(sg:Same G H):∀(w:W){w':W}{v:V}{k:Bool},Rep X.K G w v->Rep X.K G w' v->eqW w w'=some k->k=true
 |.non,w',v,k,h,h',e=>by
  cases(show v=.non from h);cases w'<;>first|(cases e;done)|(cases h';cases e;rfl)|(exfalso;obtain⟨_,_,z,_⟩:=h';first|done|cases z)|(exfalso;obtain⟨_,z,_⟩:=h';first|done|cases z)
 |.bl b,w',v,k,h,h',e=>by
  cases(show v=.bl b from h);cases w'<;>first|(cases e;done)|(cases h';cases e;exact beq_self_eq_true _)|(exfalso;obtain⟨_,_,z,_⟩:=h';first|done|cases z)|(exfalso;obtain⟨_,z,_⟩:=h';first|done|cases z)
 |.int b,w',v,k,h,h',e=>by
  cases(show v=.int b from h);cases w'<;>first|(cases e;done)|(cases h';cases e;exact beq_self_eq_true _)|(exfalso;obtain⟨_,_,z,_⟩:=h';first|done|cases z)|(exfalso;obtain⟨_,z,_⟩:=h';first|done|cases z)
 |.str b,w',v,k,h,h',e=>by
  cases(show v=.str b from h);cases w'<;>first|(cases e;done)|(cases h';cases e;exact beq_self_eq_true _)|(exfalso;obtain⟨_,_,z,_⟩:=h';first|done|cases z)|(exfalso;obtain⟨_,z,_⟩:=h';first|done|cases z)
 |.tup ws,w',v,k,h,h',e=>by
  obtain⟨a,xs,rfl,q,r⟩:=h;cases w' with
  |tup ws'=>
   obtain⟨a',xs',z,q',r'⟩:=h';cases z;have:=I.tuple_inj (sg.tup q) (sg.tup q');subst this;exact q98 I sg ws r r' (e)
  |lst ws'=>
   obtain⟨a',xs',z,q',r'⟩:=h';cases z;obtain⟨its,_,p1,_⟩:=I.tuple (sg.tup q);obtain⟨its2,_,p2,_⟩:=I.list (sg.seq q');exact absurd rfl (SeqAt.ne_of_list_tuple p2.isList (show s.heap.IsTuple a _ from p1))
  |non=>cases h'
  |bl _=>cases h'
  |int _=>cases h'
  |str _=>cases h'
  |exc _=>cases e
  |dic _=>cases e
  |dw _ _ _ _=>cases e
  |fn _ _ _=>cases e
 |.lst ws,w',v,k,h,h',e=>by
  obtain⟨a,xs,rfl,q,r⟩:=h;cases w' with
  |lst ws'=>
   obtain⟨a',xs',z,q',r'⟩:=h';cases z;have:=I.list_inj (sg.seq q) (sg.seq q');subst this;exact q98 I sg ws r r' (e)
  |tup ws'=>
   obtain⟨a',xs',z,q',r'⟩:=h';cases z;obtain⟨its,_,p1,_⟩:=I.tuple (sg.tup q');obtain⟨its2,_,p2,_⟩:=I.list (sg.seq q);exact absurd rfl (SeqAt.ne_of_list_tuple p2.isList (show s.heap.IsTuple a _ from p1))
  |non=>cases h'
  |bl _=>cases h'
  |int _=>cases h'
  |str _=>cases h'
  |exc _=>cases e
  |dic _=>cases e
  |dw _ _ _ _=>cases e
  |fn _ _ _=>cases e
 |.exc c,w',v,k,h,h',e=>by cases w'<;>cases e
 |.dic c,w',v,k,h,h',e=>by cases w'<;>cases e
 |.dw _ _ _ _,w',v,k,h,h',e=>by cases w'<;>cases e
 |.fn _ _ _,w',v,k,h,h',e=>by cases w'<;>cases e
theorem q98(I:Inv X pins σ H s)(sg:Same G H):∀(ws:List W){ws':List W}{vs:List V}{k:Bool},Reps X.K G ws vs->Reps X.K G ws' vs->eqWs ws ws'=some k->k=true
 |[],ws',vs,k,h,h',e=>by
  cases h;cases ws' with
  |nil=>cases e;rfl
  |cons _ _=>obtain⟨_,_,z,_⟩:=h';cases z
 |w::ws,ws',vs,k,h,h',e=>by
  obtain⟨x,r,rfl,h1,h2⟩:=h;cases ws' with
  |nil=>cases h'
  |cons w' ws'=>
   obtain⟨x',r',z,h1',h2'⟩:=h';cases z;have e:(match eqW w w',eqWs ws ws' with|some a,some b=>some (a&&b)|_,_=>none)=some k:=e;cases q1:eqW w w' with
   |none=>rw[q1]at e;cases e
   |some b1=>
    cases q2:eqWs ws ws' with
    |none=>grind
    |some b2=>
     rw[q1,q2]at e;rw[x1w I sg w h1 h1' q1,q98 I sg ws h2 h2' q2]at e;cases e;rfl
end
theorem q5g:∀{xs ys:List W}{b:Bool},eqWs xs ys=some b->(∀(j:Nat) x y,xs[j]?=some x->ys[j]?=some y->∃k,eqW x y=some k)/\b=((List.range (min xs.length ys.length)).all (fun j=>((eqW (xs.getD j .non) (ys.getD j .non)).getD false))&&xs.length==ys.length):=by
 intro xs
 induction xs with
 |nil=>
  intro ys b h;refine⟨fun j x y hx=>by simp at hx,?_⟩
  cases ys<;>(cases h;simp)
 |cons x xs ih=>
  intro ys b h;cases ys with
  |nil=>refine⟨fun j x y hx hy=>by simp at hy,?_⟩;cases h;simp
  |cons y ys=>
   have h:(match eqW x y,eqWs xs ys with|some a,some b=>some (a&&b)|_,_=>none)=some b:=h;cases q1:eqW x y with
   |none=>rw[q1]at h;cases h
   |some b1=>
    cases q2:eqWs xs ys with
    |none=>grind
    |some b2=>
     rw[q1,q2]at h;cases h;obtain⟨h1,h2⟩:=ih q2;refine⟨fun j x' y' hx hy=>?_,?_⟩
     ·cases j with
      |zero=>grind
      |succ j=>exact h1 j x' y' (by simpa using hx) (by simpa using hy)
     ·rw[h2];simp only[w0q,Nat.succ_min_succ,List.range_succ_eq_map,w2t,List.all_map]
      have e0:(eqW ((x::xs).getD 0 .non) ((y::ys).getD 0 .non)).getD false=b1:=by
       grind
      rw[e0,Bool.and_assoc];congr 1;congr 1;simp
theorem q8n:∀{xs:List W}{j:Nat}{x:W},xs[j]?=some x->depW x<=depWs xs
 |[],_,_,h=>by simp at h
 |y::ys,0,x,h=>by grind [depWs]
 |y::ys,j+1,x,h=>by
  have:=q8n (xs:=ys) (j:=j) (by simpa using h);simp only[depWs];omega
theorem q9d{xs:List α}{x d:α}(h:xs[j]?=some x):xs.getD j d=x:=by
 simp[List.getD,h]
theorem x4k(I:Inv X pins σ H s)(sg:Same G H)(hu:A.units<cLine)(n1:∀ws,w=.tup ws->∀ws',w'≠.tup ws')(n2:∀ws,w=.lst ws->∀ws',w'≠.lst ws')(h:Rep X.K G w v)(h':Rep X.K G w' v')(r:RelV v u)(r':RelV v' u')(e:eqW w w'=some b):SeqAt.RcAt A s u u' b:=by
 have tl:∀{ws:List W}{v:V}{u:Value},Rep X.K G (.lst ws) v->RelV v u->∃l items,u=.ref l/\s.heap.IsList l items:=fun h r=>by
  obtain⟨a,xs,rfl,q,_⟩:=h;cases r;obtain⟨its,_,p,_⟩:=I.list (sg.seq q);exact⟨a,_,rfl,p.isList⟩
 have tt:∀{ws:List W}{v:V}{u:Value},Rep X.K G (.tup ws) v->RelV v u->∃l items,u=.ref l/\s.heap.IsTuple l items:=fun h r=>by
  obtain⟨a,xs,rfl,q,_⟩:=h;cases r;obtain⟨its,_,p,_⟩:=I.tuple (sg.tup q);exact⟨a,_,rfl,p⟩
 have tn:∀{v:V}{u:Value},Rep X.K G .non v->RelV v u->u=.none:=fun h r=>by cases h;exact r
 have tb:∀{k:Bool}{v:V}{u:Value},Rep X.K G (.bl k) v->RelV v u->u=.bool k:=fun h r=>by cases h;exact r
 have ti:∀{k:Int}{v:V}{u:Value},Rep X.K G (.int k) v->RelV v u->∃t,u=.int k t:=fun h r=>by cases h;exact r
 have ts:∀{k:Str}{v:V}{u:Value},Rep X.K G (.str k) v->RelV v u->∃t,u=.str k t:=fun h r=>by cases h;exact r
 cases w with
 |non=>
  obtain rfl:=tn h r;cases w' with
  |non=>obtain rfl:=tn h' r';cases e;exact .none_none
  |bl k=>obtain rfl:=tb h' r';cases e;exact .none_bool k
  |int k=>obtain⟨t,rfl⟩:=ti h' r';cases e;exact .none_int k t
  |str k=>obtain⟨t,rfl⟩:=ts h' r';cases e;exact .none_str k t
  |tup k=>obtain⟨l,it,rfl,p⟩:=tt h' r';cases e;exact .none_tuple p hu
  |lst k=>obtain⟨l,it,rfl,p⟩:=tl h' r';cases e;exact .none_list p hu
  |exc k=>cases e
  |dic k=>cases e
  |dw _ _ _ _=>cases e
  |fn _ _ _=>cases e
 |bl j=>
  obtain rfl:=tb h r;cases w' with
  |non=>obtain rfl:=tn h' r';cases e;exact .bool_none j
  |bl k=>obtain rfl:=tb h' r';cases e;exact .bool_bool j k
  |int k=>obtain⟨t,rfl⟩:=ti h' r';cases e;exact .bool_int j k t
  |str k=>obtain⟨t,rfl⟩:=ts h' r';cases e;exact .bool_str j k t
  |tup k=>obtain⟨l,it,rfl,p⟩:=tt h' r';cases e;exact .bool_tuple j p hu
  |lst k=>obtain⟨l,it,rfl,p⟩:=tl h' r';cases e;exact .bool_list j p hu
  |exc k=>cases e
  |dic k=>cases e
  |dw _ _ _ _=>cases e
  |fn _ _ _=>cases e
 |int j=>
  obtain⟨t1,rfl⟩:=ti h r;cases w' with
  |non=>obtain rfl:=tn h' r';cases e;exact .int_none j t1
  |bl k=>obtain rfl:=tb h' r';cases e;exact .int_bool j t1 k
  |int k=>obtain⟨t,rfl⟩:=ti h' r';cases e;exact .int_int j t1 k t
  |str k=>obtain⟨t,rfl⟩:=ts h' r';cases e;exact .int_str j t1 k t
  |tup k=>obtain⟨l,it,rfl,p⟩:=tt h' r';cases e;exact .int_tuple j t1 p hu
  |lst k=>obtain⟨l,it,rfl,p⟩:=tl h' r';cases e;exact .int_list j t1 p hu
  |exc k=>cases e
  |dic k=>cases e
  |dw _ _ _ _=>cases e
  |fn _ _ _=>cases e
 |str j=>
  obtain⟨t1,rfl⟩:=ts h r;cases w' with
  |non=>obtain rfl:=tn h' r';cases e;exact .str_none j t1
  |bl k=>obtain rfl:=tb h' r';cases e;exact .str_bool j t1 k
  |int k=>obtain⟨t,rfl⟩:=ti h' r';cases e;exact .str_int j t1 k t
  |str k=>obtain⟨t,rfl⟩:=ts h' r';cases e;exact .str_str j t1 k t
  |tup k=>obtain⟨l,it,rfl,p⟩:=tt h' r';cases e;exact .str_tuple j t1 p hu
  |lst k=>obtain⟨l,it,rfl,p⟩:=tl h' r';cases e;exact .str_list j t1 p hu
  |exc k=>cases e
  |dic k=>cases e
  |dw _ _ _ _=>cases e
  |fn _ _ _=>cases e
 |tup j=>
  obtain⟨l1,it1,rfl,p1⟩:=tt h r;cases w' with
  |non=>obtain rfl:=tn h' r';cases e;exact .tuple_none p1 hu
  |bl k=>obtain rfl:=tb h' r';cases e;exact .tuple_bool k p1 hu
  |int k=>obtain⟨t,rfl⟩:=ti h' r';cases e;exact .tuple_int k t p1 hu
  |str k=>obtain⟨t,rfl⟩:=ts h' r';cases e;exact .tuple_str k t p1 hu
  |tup k=>grind
  |lst k=>obtain⟨l,it,rfl,p⟩:=tl h' r';cases e;exact .tuple_list p1 p hu
  |exc k=>cases e
  |dic k=>cases e
  |dw _ _ _ _=>cases e
  |fn _ _ _=>cases e
 |lst j=>
  obtain⟨l1,it1,rfl,p1⟩:=tl h r;cases w' with
  |non=>obtain rfl:=tn h' r';cases e;exact .list_none p1 hu
  |bl k=>obtain rfl:=tb h' r';cases e;exact .list_bool k p1 hu
  |int k=>obtain⟨t,rfl⟩:=ti h' r';cases e;exact .list_int k t p1 hu
  |str k=>obtain⟨t,rfl⟩:=ts h' r';cases e;exact .list_str k t p1 hu
  |lst k=>grind
  |tup k=>obtain⟨l,it,rfl,p⟩:=tt h' r';cases e;exact .list_tuple p1 p hu
  |exc k=>cases e
  |dic k=>cases e
  |dw _ _ _ _=>cases e
  |fn _ _ _=>cases e
 |exc j=>cases w'<;>cases e
 |dic j=>cases w'<;>cases e
 |dw _ _ _ _=>cases w'<;>cases e
 |fn _ _ _=>cases w'<;>cases e
theorem x6n(I:Inv X pins σ H s)(sg:Same G H)(hd:depW w<=0)(hu:A.units<cLine)(h:Rep X.K G w v)(h':Rep X.K G w' v')(r:RelV v u)(r':RelV v' u')(e:eqW w w'=some b):SeqAt.RcAt A s u u' b:=
 x4k I sg hu (fun ws z=>by grind [depW]) (fun ws z=>by grind [depW]) h h' r r' e
theorem x4l(h:Rep K G w v):∀x,v≠.flt x:=fun x z=>by
 subst z;cases w with
 |tup ws=>obtain⟨_,_,z,_⟩:=h;cases z
 |lst ws=>obtain⟨_,_,z,_⟩:=h;cases z
 |exc c=>obtain⟨_,z,_⟩:=h;cases z
 |dic c=>obtain⟨_,z,_⟩:=h;cases z
 |dw _ _ _ _=>obtain⟨_,_,_,z,_⟩:=h;cases z
 |fn _ _ _=>obtain⟨_,_,_,_,z,_⟩:=h;cases z
 |_=>cases h
theorem x4m(rv:RelV v u)(hf:∀x,v≠.flt x)(h:SeqAt.RcAt A s u u' b)(hs:u=u'->b=true):SeqAt.EqAt A s u u' b:=fun prog w E Q hq=>by
 unfold eqBool;refine wpAny_holding ?_;refine wpAny_ite_split (fun hab=>?_) (fun _=>?_)
 ·have hb:=hs (eq_of_beq hab)
  grind [wpAny_bind,wpAny_rule,wpAny_pure]
 ·have z:=wpAny_bind (h prog w E (fun a s'=>wpAny (model prog w) A (truthOfDropped a) Q E s') (wpAny_truthy_bool hq))
  cases v with
  |flt x=>exact absurd rfl (hf x)
  |non=>cases rv;exact z
  |bl _=>cases rv;exact z
  |int _=>obtain⟨t,rfl⟩:=rv;exact z
  |str _=>obtain⟨t,rfl⟩:=rv;exact z
  |byt _=>obtain⟨t,rfl⟩:=rv;exact z
  |ref _=>cases rv;exact z
  |ty _=>cases rv;exact z
theorem y5f(I:Inv X pins σ H s)(sg:Same G H):∀(n:Nat){w w':W}{v v':V}{u u':Value}{b:Bool}{A:Around},depW w<=n->A.units+n<cLine->Rep X.K G w v->Rep X.K G w' v'->RelV v u->RelV v' u'->eqW w w'=some b->SeqAt.RcAt A s u u' b:=by
 intro n
 induction n with
 |zero=>
  grind [x6n]
 |succ n ih=>
  intro w w' v v' u u' b A hd hu h h' r r' e
  have items:∀{ws ws':List W}{xs xs':List V}{its its':List Value}{k:Bool},depWs ws<=n->Reps X.K G ws xs->Reps X.K G ws' xs'->Vals xs its->Vals xs' its'->eqWs ws ws'=some k ->
    ∀j (h1:j<its.toArray.size) (h2:j<its'.toArray.size),SeqAt.EqAt A.in1 s its.toArray[j] its'.toArray[j] ((eqW (ws.getD j .non) (ws'.getD j .non)).getD false):=by
   intro ws ws' xs xs' its its' k hd r1 r2 v1 v2 he j h1 h2;have l1:=r1.length;have l2:=r2.length;have m1:=v1.length;have m2:=v2.length;have i1:j<xs.length:=by rw[m1];simpa using h1
   have i2:j<xs'.length:=by rw[m2];simpa using h2
   obtain⟨u1,e1,ru1⟩:=v1.get (w0a i1);obtain⟨u2,e2,ru2⟩:=v2.get (w0a i2);obtain⟨w1,f1,p1⟩:=r1.getV (w0a i1);obtain⟨w2,f2,p2⟩:=r2.getV (w0a i2);obtain⟨b',hb'⟩:=(q5g he).1 j w1 w2 f1 f2;rw[q9d f1,q9d f2,hb']
   have g1:its.toArray[j]=u1:=by
    grind
   have g2:its'.toArray[j]=u2:=by
    grind
   rw[g1,g2];have hdw:depW w1<=n:=w0v (q8n f1) hd
   have hun:A.in1.units+n<cLine:=by
    grind
   refine x4m ru1 (x4l p1) (ih hdw hun p1 p2 ru1 ru2 hb') fun z=>?_
   subst z;have:=ru1.inj ru2
   grind [x1w]
  cases w with
  |tup ws=>
   cases w' with
   |tup ws'=>
    obtain⟨a,xs,rfl,q1,r1⟩:=h;obtain⟨a',xs',rfl,q2,r2⟩:=h';cases r;cases r';obtain⟨its,v1,p1,_⟩:=I.tuple (sg.tup q1);obtain⟨its',v2,p2,_⟩:=I.tuple (sg.tup q2);have e:eqWs ws ws'=some b:=e;have z:=SeqAt.RcAt.tuples (show s.heap.IsTuple a _ from p1) (show s.heap.IsTuple a' _ from p2) (show A.units<cLine by omega) (items (by grind [depW]) r1 r2 v1 v2 e);have l1:=r1.length;have l2:=r2.length;have m1:=v1.length;have m2:=v2.length;have eb:=(q5g e).2
    grind
   |_=>exact x4k I sg (by omega) (by intro ws';simp) (by intro ws';simp) h h' r r' e
  |lst ws=>
   cases w' with
   |lst ws'=>
    obtain⟨a,xs,rfl,q1,r1⟩:=h;obtain⟨a',xs',rfl,q2,r2⟩:=h';cases r;cases r';obtain⟨its,v1,p1,_⟩:=I.list (sg.seq q1);obtain⟨its',v2,p2,_⟩:=I.list (sg.seq q2);have e:eqWs ws ws'=some b:=e;have l1:=r1.length;have l2:=r2.length;have m1:=v1.length;have m2:=v2.length;have eb:=(q5g e).2;have n1:its.length=ws.length:=by omega
    have n2:its'.length=ws'.length:=by omega
    by_cases hl:ws.length=ws'.length
    ·have z:=SeqAt.RcAt.lists p1.isList p2.isList (by grind) (show A.units<cLine by omega) (items (by grind [depW]) r1 r2 v1 v2 e)
     grind
    ·have z:=SeqAt.RcAt.lists_lengths (A:=A) p1.isList p2.isList (by grind) (show A.units<cLine by omega)
     grind
   |_=>exact x4k I sg (by omega) (by intro ws';simp) (by intro ws';simp) h h' r r' e
  |_=>exact x6n I sg (by simp[depW]) (by omega) h h' r r' e
theorem q99(I:Inv X pins σ H s)(sg:Same G H)(hu:A.units<cLine)(n1:∀ws,w=.tup ws->∀ws',w'≠.tup ws')(n2:∀ws,w=.lst ws->∀ws',w'≠.lst ws')(h:Rep X.K G w v)(h':Rep X.K G w' v')(r:RelV v u)(r':RelV v' u')(e:eqW w w'=some b):SeqAt.RcNeAt A s u u' (!b):=by
 have tl:∀{ws:List W}{v:V}{u:Value},Rep X.K G (.lst ws) v->RelV v u->∃l items,u=.ref l/\s.heap.IsList l items:=fun h r=>by
  obtain⟨a,xs,rfl,q,_⟩:=h;cases r;obtain⟨its,_,p,_⟩:=I.list (sg.seq q);exact⟨a,_,rfl,p.isList⟩
 have tt:∀{ws:List W}{v:V}{u:Value},Rep X.K G (.tup ws) v->RelV v u->∃l items,u=.ref l/\s.heap.IsTuple l items:=fun h r=>by
  obtain⟨a,xs,rfl,q,_⟩:=h;cases r;obtain⟨its,_,p,_⟩:=I.tuple (sg.tup q);exact⟨a,_,rfl,p⟩
 have tn:∀{v:V}{u:Value},Rep X.K G .non v->RelV v u->u=.none:=fun h r=>by cases h;exact r
 have tb:∀{k:Bool}{v:V}{u:Value},Rep X.K G (.bl k) v->RelV v u->u=.bool k:=fun h r=>by cases h;exact r
 have ti:∀{k:Int}{v:V}{u:Value},Rep X.K G (.int k) v->RelV v u->∃t,u=.int k t:=fun h r=>by cases h;exact r
 have ts:∀{k:Str}{v:V}{u:Value},Rep X.K G (.str k) v->RelV v u->∃t,u=.str k t:=fun h r=>by cases h;exact r
 cases w with
 |non=>
  obtain rfl:=tn h r;cases w' with
  |non=>obtain rfl:=tn h' r';cases e;exact .none_none
  |bl k=>obtain rfl:=tb h' r';cases e;exact .none_bool k
  |int k=>obtain⟨t,rfl⟩:=ti h' r';cases e;exact .none_int k t
  |str k=>obtain⟨t,rfl⟩:=ts h' r';cases e;exact .none_str k t
  |tup k=>obtain⟨l,it,rfl,p⟩:=tt h' r';cases e;exact .none_tuple p hu
  |lst k=>obtain⟨l,it,rfl,p⟩:=tl h' r';cases e;exact .none_list p hu
  |exc k=>cases e
  |dic k=>cases e
  |dw _ _ _ _=>cases e
  |fn _ _ _=>cases e
 |bl j=>
  obtain rfl:=tb h r;cases w' with
  |non=>obtain rfl:=tn h' r';cases e;exact .bool_none j
  |bl k=>obtain rfl:=tb h' r';cases e;exact .bool_bool j k
  |int k=>obtain⟨t,rfl⟩:=ti h' r';cases e;exact .bool_int j k t
  |str k=>obtain⟨t,rfl⟩:=ts h' r';cases e;exact .bool_str j k t
  |tup k=>obtain⟨l,it,rfl,p⟩:=tt h' r';cases e;exact .bool_tuple j p hu
  |lst k=>obtain⟨l,it,rfl,p⟩:=tl h' r';cases e;exact .bool_list j p hu
  |exc k=>cases e
  |dic k=>cases e
  |dw _ _ _ _=>cases e
  |fn _ _ _=>cases e
 |int j=>
  obtain⟨t1,rfl⟩:=ti h r;cases w' with
  |non=>obtain rfl:=tn h' r';cases e;exact .int_none j t1
  |bl k=>obtain rfl:=tb h' r';cases e;exact .int_bool j t1 k
  |int k=>obtain⟨t,rfl⟩:=ti h' r';cases e;exact .int_int j t1 k t
  |str k=>obtain⟨t,rfl⟩:=ts h' r';cases e;exact .int_str j t1 k t
  |tup k=>obtain⟨l,it,rfl,p⟩:=tt h' r';cases e;exact .int_tuple j t1 p hu
  |lst k=>obtain⟨l,it,rfl,p⟩:=tl h' r';cases e;exact .int_list j t1 p hu
  |exc k=>cases e
  |dic k=>cases e
  |dw _ _ _ _=>cases e
  |fn _ _ _=>cases e
 |str j=>
  obtain⟨t1,rfl⟩:=ts h r;cases w' with
  |non=>obtain rfl:=tn h' r';cases e;exact .str_none j t1
  |bl k=>obtain rfl:=tb h' r';cases e;exact .str_bool j t1 k
  |int k=>obtain⟨t,rfl⟩:=ti h' r';cases e;exact .str_int j t1 k t
  |str k=>obtain⟨t,rfl⟩:=ts h' r';cases e;exact .str_str j t1 k t
  |tup k=>obtain⟨l,it,rfl,p⟩:=tt h' r';cases e;exact .str_tuple j t1 p hu
  |lst k=>obtain⟨l,it,rfl,p⟩:=tl h' r';cases e;exact .str_list j t1 p hu
  |exc k=>cases e
  |dic k=>cases e
  |dw _ _ _ _=>cases e
  |fn _ _ _=>cases e
 |tup j=>
  obtain⟨l1,it1,rfl,p1⟩:=tt h r;cases w' with
  |non=>obtain rfl:=tn h' r';cases e;exact .tuple_none p1 hu
  |bl k=>obtain rfl:=tb h' r';cases e;exact .tuple_bool k p1 hu
  |int k=>obtain⟨t,rfl⟩:=ti h' r';cases e;exact .tuple_int k t p1 hu
  |str k=>obtain⟨t,rfl⟩:=ts h' r';cases e;exact .tuple_str k t p1 hu
  |tup k=>grind
  |lst k=>obtain⟨l,it,rfl,p⟩:=tl h' r';cases e;exact .tuple_list p1 p hu
  |exc k=>cases e
  |dic k=>cases e
  |dw _ _ _ _=>cases e
  |fn _ _ _=>cases e
 |lst j=>
  obtain⟨l1,it1,rfl,p1⟩:=tl h r;cases w' with
  |non=>obtain rfl:=tn h' r';cases e;exact .list_none p1 hu
  |bl k=>obtain rfl:=tb h' r';cases e;exact .list_bool k p1 hu
  |int k=>obtain⟨t,rfl⟩:=ti h' r';cases e;exact .list_int k t p1 hu
  |str k=>obtain⟨t,rfl⟩:=ts h' r';cases e;exact .list_str k t p1 hu
  |lst k=>grind
  |tup k=>obtain⟨l,it,rfl,p⟩:=tt h' r';cases e;exact .list_tuple p1 p hu
  |exc k=>cases e
  |dic k=>cases e
  |dw _ _ _ _=>cases e
  |fn _ _ _=>cases e
 |exc j=>cases w'<;>cases e
 |dic j=>cases w'<;>cases e
 |dw _ _ _ _=>cases w'<;>cases e
 |fn _ _ _=>cases w'<;>cases e
theorem x9k(I:Inv X pins σ H s)(sg:Same G H)(hd:depW w<=0)(hu:A.units<cLine)(h:Rep X.K G w v)(h':Rep X.K G w' v')(r:RelV v u)(r':RelV v' u')(e:eqW w w'=some b):SeqAt.RcNeAt A s u u' (!b):=
 q99 I sg hu (fun ws z=>by grind [depW]) (fun ws z=>by grind [depW]) h h' r r' e
theorem x4n(I:Inv X pins σ H s)(sg:Same G H)(hu:A.units+(n+1)<cLine)(hd:depWs ws<=n)(r1:Reps X.K G ws xs)(r2:Reps X.K G ws' xs')(v1:Vals xs its)(v2:Vals xs' its')(he:eqWs ws ws'=some k):
  ∀j (h1:j<its.toArray.size) (h2:j<its'.toArray.size),SeqAt.EqAt A.in1 s its.toArray[j] its'.toArray[j] ((eqW (ws.getD j .non) (ws'.getD j .non)).getD false):=by
 intro j h1 h2;have l1:=r1.length;have l2:=r2.length;have m1:=v1.length;have m2:=v2.length;have i1:j<xs.length:=by rw[m1];simpa using h1
 have i2:j<xs'.length:=by rw[m2];simpa using h2
 obtain⟨u1,e1,ru1⟩:=v1.get (w0a i1);obtain⟨u2,e2,ru2⟩:=v2.get (w0a i2);obtain⟨w1,f1,p1⟩:=r1.getV (w0a i1);obtain⟨w2,f2,p2⟩:=r2.getV (w0a i2);obtain⟨b',hb'⟩:=(q5g he).1 j w1 w2 f1 f2;rw[q9d f1,q9d f2,hb']
 have g1:its.toArray[j]=u1:=by
  grind
 have g2:its'.toArray[j]=u2:=by
  grind
 rw[g1,g2];have hdw:depW w1<=n:=w0v (q8n f1) hd
 have hun:A.in1.units+n<cLine:=by
  grind
 refine x4m ru1 (x4l p1) (y5f I sg n hdw hun p1 p2 ru1 ru2 hb') fun z=>?_
 subst z;have:=ru1.inj ru2
 grind [x1w]
theorem y6j(I:Inv X pins σ H s)(sg:Same G H)(n)(hd:depW w<=n+1)(hu:A.units+(n+1)<cLine)(h:Rep X.K G w v)(h':Rep X.K G w' v')(r:RelV v u)(r':RelV v' u')(e:eqW w w'=some b):SeqAt.RcNeAt A s u u' (!b):=by
 cases w with
 |tup ws=>
  cases w' with
  |tup ws'=>
   obtain⟨a,xs,rfl,q1,r1⟩:=h;obtain⟨a',xs',rfl,q2,r2⟩:=h';cases r;cases r';obtain⟨its,v1,p1,_⟩:=I.tuple (sg.tup q1);obtain⟨its',v2,p2,_⟩:=I.tuple (sg.tup q2);have e:eqWs ws ws'=some b:=e;have z:=SeqAt.RcNeAt.tuples (show s.heap.IsTuple a _ from p1) (show s.heap.IsTuple a' _ from p2) (show A.units<cLine by omega) (x4n I sg hu (by grind [depW]) r1 r2 v1 v2 e);have l1:=r1.length;have l2:=r2.length;have m1:=v1.length;have m2:=v2.length;have eb:=(q5g e).2
   grind
  |_=>exact q99 I sg (by omega) (by intro ws';simp) (by intro ws';simp) h h' r r' e
 |lst ws=>
  cases w' with
  |lst ws'=>
   obtain⟨a,xs,rfl,q1,r1⟩:=h;obtain⟨a',xs',rfl,q2,r2⟩:=h';cases r;cases r';obtain⟨its,v1,p1,_⟩:=I.list (sg.seq q1);obtain⟨its',v2,p2,_⟩:=I.list (sg.seq q2);have e:eqWs ws ws'=some b:=e;have l1:=r1.length;have l2:=r2.length;have m1:=v1.length;have m2:=v2.length;have eb:=(q5g e).2;have n1:its.length=ws.length:=by omega
   have n2:its'.length=ws'.length:=by omega
   by_cases hl:ws.length=ws'.length
   ·have z:=SeqAt.RcNeAt.lists p1.isList p2.isList (by grind) (show A.units<cLine by omega) (x4n I sg hu (by grind [depW]) r1 r2 v1 v2 e)
    grind
   ·have z:=SeqAt.RcNeAt.lists_lengths (A:=A) p1.isList p2.isList (by grind) (show A.units<cLine by omega)
    grind
  |_=>exact q99 I sg (by omega) (by intro ws';simp) (by intro ws';simp) h h' r r' e
 |_=>exact x9k I sg (by simp[depW]) (by omega) h h' r r' e
def eq2(x y:W):Option W:=if depW x<=150 then(eqW x y).map .bl else none
def rEqD(K:PySem.W.Frag):R2:=fun x y H Q=>∃G wx wy b,Same G H/\depW wx<=150/\Rep K G wx x/\Rep K G wy y/\eqW wx wy=some b/\Q (.bl b) H
theorem x9l(hu:X.A.units+150<cLine):OpR X (compareOp .Eq) (rEqD X.K):=by
 intro pins s σ H x y v u Q I rx ry h;obtain⟨G,wx,wy,b,sg,hd,hx,hy,e,q⟩:=h;exact y5f I sg 150 hd hu hx hy rx ry e _ _ _ _ ⟨.bl b,H,I,rfl,q⟩
theorem y5g:Op2 K (rEqD K) eq2:=by
 intro G H x y wx wy w Q s px py hf h;unfold eq2 at hf;split at hf
 ·rename_i hd;obtain⟨b,hb,rfl⟩:=w0t.mp hf;exact⟨G,wx,wy,b,s,hd,px,py,hb,h G _ H (.refl s) rfl⟩
 ·cases hf
def ne2(x y:W):Option W:=if depW x<=150 then(eqW x y).map fun b=>.bl (!b)else none
def rNeD(K:PySem.W.Frag):R2:=fun x y H Q=>∃G wx wy b,Same G H/\depW wx<=150/\Rep K G wx x/\Rep K G wy y/\eqW wx wy=some b/\Q (.bl (!b)) H
theorem z0u(hu:X.A.units+150<cLine):OpR X (compareOp .NotEq) (rNeD X.K):=by
 intro pins s σ H x y v u Q I rx ry h;obtain⟨G,wx,wy,b,sg,hd,hx,hy,e,q⟩:=h;exact y6j I sg 149 hd hu hx hy rx ry e _ _ _ _ ⟨.bl (!b),H,I,rfl,q⟩
theorem z4k:Op2 K (rNeD K) ne2:=by
 intro G H x y wx wy w Q s px py hf h;unfold ne2 at hf;split at hf
 ·rename_i hd;obtain⟨b,hb,rfl⟩:=w0t.mp hf;exact⟨G,wx,wy,b,s,hd,px,py,hb,h G _ H (.refl s) rfl⟩
 ·cases hf
end
def isW:W->W->Option W
 |.non,.non=>some (.bl true)
 |_,.non=>some (.bl false)
 |.bl a,.bl b=>some (.bl (a==b))
 |_,.bl _=>some (.bl false)
 |_,_=>none
def nisW:W->W->Option W
 |.non,.non=>some (.bl false)
 |_,.non=>some (.bl true)
 |.bl a,.bl b=>some (.bl (!(a==b)))
 |_,.bl _=>some (.bl true)
 |_,_=>none
def rNis:R2:=fun x y H Q=>(y=.non\/∃b,y=.bl b)/\Q (.bl (!decide (x=y))) H
theorem y2u{x y:V}{v u:Value}(rx:RelV x v)(ry:RelV y u)(h:y=.non\/∃b,y=.bl b):plainIs v u=true/\(v==u)=decide (x=y):=by
 rcases h with rfl|⟨b,rfl⟩
 ·cases ry
  cases x<;>first
   |(cases rx;exact⟨rfl,by first|rfl|(rw[w2s];simp)⟩)
   |(obtain⟨t,rfl⟩:=rx;exact⟨rfl,by rw[w2s];simp⟩)
 ·cases ry
  cases x<;>first
   |(cases rx;exact⟨rfl,by first|rfl|(rw[w2s];simp)⟩)
   |(obtain⟨t,rfl⟩:=rx;exact⟨rfl,by rw[w2s];simp⟩)
theorem y6k:OpR X (compareOp .IsNot) rNis:=by
 intro pins s σ H x y v u Q I rx ry h;obtain⟨hy,q⟩:=h
 grind [y2u,wpAny_isNot_plain,x8x]
theorem z0v{x y:V}{wx wy w:W}(px:Rep K G wx x)(py:Rep K G wy y)(h:nisW wx wy=some w):(y=.non\/∃b,y=.bl b)/\w=.bl (!decide (x=y)):=by
 cases wy with
 |non=>
  cases(show y=.non from py);refine⟨.inl rfl,?_⟩;cases wx with
  |tup ws=>obtain⟨_,_,rfl,_⟩:=px;cases h;simp
  |lst ws=>obtain⟨_,_,rfl,_⟩:=px;cases h;simp
  |exc c=>obtain⟨_,rfl,_⟩:=px;cases h;simp
  |dic c=>obtain⟨_,rfl,_⟩:=px;cases h;simp
  |dw _ _ _ _=>obtain⟨_,_,_,rfl,_⟩:=px;cases h;simp
  |fn _ _ _=>obtain⟨_,_,_,_,rfl,_⟩:=px;cases h;simp
  |_=>cases px;cases h;simp
 |bl b=>
  cases(show y=.bl b from py);refine⟨.inr ⟨b,rfl⟩,?_⟩;cases wx with
  |tup ws=>obtain⟨_,_,rfl,_⟩:=px;cases h;simp
  |lst ws=>obtain⟨_,_,rfl,_⟩:=px;cases h;simp
  |exc c=>obtain⟨_,rfl,_⟩:=px;cases h;simp
  |dic c=>obtain⟨_,rfl,_⟩:=px;cases h;simp
  |dw _ _ _ _=>obtain⟨_,_,_,rfl,_⟩:=px;cases h;simp
  |fn _ _ _=>obtain⟨_,_,_,_,rfl,_⟩:=px;cases h;simp
  |bl k=>cases px;cases h;cases k<;>cases b<;>rfl
  |_=>cases px;cases h;simp
 |_=>cases wx<;>cases h
theorem z0w:Op2 K rNis nisW:=by
 intro G H x y wx wy w Q s px py hf h;obtain⟨h1,rfl⟩:=z0v px py hf;exact⟨h1,h G _ H (.refl s) rfl⟩
section
variable{a b c e:Expr}{p:Pos}{x:Str}
theorem x9m(ha:DE Z X EE a da)(hb:DE Z X EE b db):DE Z X EE (.BinOp a .Sub b pos) (dOp subW da db):=q7s y96 z0n ha hb
theorem q8o(ha:DE Z X EE a da)(hb:DE Z X EE b db):DE Z X EE (.BinOp a .Mult b pos) (dOp mulW da db):=q7s y97 z0o ha hb
theorem q18(ha:DE Z X EE a da)(hb:DE Z X EE b db):DE Z X EE (.BinOp a .FloorDiv b pos) (dOp fdivW da db):=q7s y51 y6i ha hb
theorem q0y(ha:DE Z X EE a da)(hb:DE Z X EE b db):DE Z X EE (.BinOp a .Mod b pos) (dOp modW da db):=q7s y98 z0p ha hb
theorem z0x(ha:DE Z X EE a da)(hb:DE Z X EE b db):DE Z X EE (.BinOp a .Pow b pos) (dOp powW da db):=q7s y99 z0q ha hb
theorem x9n(ha:DE Z X EE a da):DE Z X EE (.UnaryOp .USub a pos) (dUn negW da):=z4h z0a z0r ha
theorem z4l(ha:DE Z X EE a da)(hb:DE Z X EE b db):DE Z X EE (.Compare a [.Lt] [b] pos) (dOp ltW da db):=q8k y48 y5c ha hb (nomark _)
theorem z4m(ha:DE Z X EE a da)(hb:DE Z X EE b db):DE Z X EE (.Compare a [.Gt] [b] pos) (dOp gtW da db):=q8k y49 y5d ha hb (nomark _)
theorem x3v(hu:X.A.units+150<cLine)(ha:DE Z X EE a da)(hb:DE Z X EE b db):DE Z X EE (.Compare a [.Eq] [b] pos) (dOp eq2 da db):=q8k (x9l hu) y5g ha hb (nomark _)
theorem q9e(ha:DE Z X EE a da)(hb:DE Z X EE b db):DT Z X EE (.Compare a [.Lt] [b] pos) (dTest (dOp ltW da db)):=q54 y48 y5c ha hb (nomark _)
theorem q7t(ha:DE Z X EE a da)(hb:DE Z X EE b db):DT Z X EE (.Compare a [.Gt] [b] pos) (dTest (dOp gtW da db)):=q54 y49 y5d ha hb (nomark _)
theorem z4n(ha:DE Z X EE a da)(hb:DE Z X EE b db):DT Z X EE (.Compare a [.GtE] [b] pos) (dTest (dOp geW da db)):=q54 z4e z4j ha hb (nomark _)
theorem q0s(hu:X.A.units+150<cLine)(ha:DE Z X EE a da)(hb:DE Z X EE b db):DT Z X EE (.Compare a [.Eq] [b] pos) (dTest (dOp eq2 da db)):=q54 (x9l hu) y5g ha hb (nomark _)
theorem q7u(hu:X.A.units+150<cLine)(ha:DE Z X EE a da)(hb:DE Z X EE b db):DT Z X EE (.Compare a [.NotEq] [b] pos) (dTest (dOp ne2 da db)):=q54 (z0u hu) z4k ha hb (nomark _)
theorem q8p(ha:DE Z X EE a da)(hb:DE Z X EE b db):DT Z X EE (.Compare a [.IsNot] [b] pos) (dTest (dOp nisW da db)):=q54 y6k z0w ha hb (nomark _)
theorem q0h{k:Nat}(h:Room k A):A.units+150<cLine:=by have:=h.un;omega
def cutW(xs:List W)(lo hi:Option Int):List W:=(xs.drop (HT.sIx xs.length 0 lo)).take (HT.sIx xs.length xs.length hi-HT.sIx xs.length 0 lo)
theorem Reps.cut{xs:List V}(r:Reps K G ws xs)(lo hi:Option Int):Reps K G (cutW ws lo hi) (cutV xs lo hi):=by
 unfold cutW cutV;rw[r.length];exact(r.drop _).take _
def DO(Z:Zt)(X:Cx)(EE:L2.St->XK)(e:Option Expr)(d:Den (Option Int)):Prop:=PO X e (fun σ H Q=>∃G e,Rel X.K Z G σ H e/\(d e).holds (fun o e'=>∀G' H',Rel X.K Z G' σ H' e'->Same G G'->Q o H') (XH X.K Z EE σ G))
def dNoPart:Den (Option Int):=fun e=>.ok none e
def dPart(d:Den W):Den (Option Int):=fun e=>(d e).bind fun w e1=>match w with
 |.int i=>.ok (some i) e1
 |_=>.no
theorem PO.mono{e:Option Expr}{t t':TO}(h:PO X e t)(i:∀σ H Q,t' σ H Q->t σ H Q):PO X e t':=fun pins s σ H Q I q=>h pins s σ H Q I (i σ H Q q)
theorem q33:DO Z X EE none dNoPart:=PO.mono y54 fun σ H Q ⟨G,e,r,h⟩=>h G H r (.refl _)
theorem q1y(h:DE Z X EE e da):DO Z X EE (some e) (dPart da):=by
 refine PO.mono (y55 h) ?_;rintro σ H Q ⟨G,e,rel,h⟩;simp only[dPart,R.holds_bind]at h;refine⟨G,e,rel,h.imp (fun x e1 h G1 v1 H1 r1 s1 p1=>?_) fun _ _ h=>h⟩
 cases x with
 |int i=>cases(show v1=V.int i from p1);exact⟨i,rfl,h G1 H1 r1 s1⟩
 |_=>exact h.elim
def slW:W->Option Int->Option Int->Option W
 |.lst ws,lo,hi=>some (.lst (cutW ws lo hi))
 |.tup ws,lo,hi=>if ¬(HT.sIx ws.length 0 lo=0/\HT.sIx ws.length ws.length hi=ws.length)then some (.tup (cutW ws lo hi))else none
 |_,_,_=>none
def tyW:W->Value
 |.non=>.type "NoneType"
 |.bl _=>.type "bool"
 |.int _=>.type "int"
 |.str _=>.type "str"
 |.tup _=>.type "tuple"
 |.lst _=>.type "list"
 |.exc c=>c
 |.dic _=>.type "dict"
 |.dw _ _ _ _=>.type "dict"
 |.fn _ _ _=>.type "dict"
def isiW(K:PySem.W.Frag)(cv:Value):W->Option W
 |.exc (.ref D)=>if excClsIn K D=true then(kitOne K (.ref D) cv).map .bl else none
 |.exc _=>none
 |.dic _=>none
 |.dw _ _ _ _=>none
 |.fn _ _ _=>none
 |w=>(kitOne K (tyW w) cv).map .bl
theorem y6l{pins:List (Addr×Obj)}{s:Shared}{w:W}{v:V}{u:Value}{b:Bool}{Q:VK}(I:Inv X pins σ H s)(sg:Same G H)(p:Rep X.K G w v)(r:RelV v u)(h:isiW X.K cv w=some (.bl b))(q:Q (.bl b) H):
  wpAny (model X.prog X.w) X.A (call (.builtin "isinstance") [u,cv]) (EP X pins σ Q) X.xe s:=by
 have fin:∀tk,EP X pins σ Q (.bool b) {s with toks:=tk}:=fun tk=>⟨.bl b,H,I.tok _,rfl,q⟩
 have kit:∀{t:Value},(kitOne X.K t cv).map W.bl=some (.bl b)->kitOne X.K t cv=some b:=fun z=>by
  obtain⟨y,h1,h2⟩:=w0t.mp z;cases h2;exact h1
 cases w with
 |non=>cases p;cases r;exact kia_one PySem.W.kitx_none I.kIn True.intro (kit h) (fun z=>nomatch z) fin
 |bl y=>cases p;cases r;exact kia_one PySem.W.kitx_bool I.kIn True.intro (kit h) (fun z=>nomatch z) fin
 |int y=>cases p;obtain⟨t,rfl⟩:=r;exact kia_one PySem.W.kitx_int I.kIn True.intro (kit h) (fun z=>nomatch z) fin
 |str y=>cases p;obtain⟨t,rfl⟩:=r;exact kia_one PySem.W.kitx_str I.kIn True.intro (kit h) (fun z=>nomatch z) fin
 |tup ws=>
  obtain⟨a,xs,rfl,hq,_⟩:=p;cases r;obtain⟨its,_,⟨o,h1,h2,_⟩,_⟩:=I.tuple (sg.tup hq);exact kia_one PySem.W.kitx_tuple I.kIn ⟨o,h1,h2⟩ (kit h) (fun z=>nomatch z) fin
 |lst ws=>
  obtain⟨a,xs,rfl,hq,_⟩:=p;cases r;obtain⟨its,_,⟨o,n,h1,h2,_⟩,_⟩:=I.list (sg.seq hq);exact kia_one PySem.W.kitx_list I.kIn ⟨o,h1,h2⟩ (kit h) (fun z=>nomatch z) fin
 |dic c=>simp[isiW]at h
 |dw _ _ _ _=>simp[isiW]at h
 |fn _ _ _=>simp[isiW]at h
 |exc c=>
  obtain⟨e,rfl,he⟩:=p;cases r;unfold isiW at h;split at h
  ·rename_i D heq;cases heq;split at h
   ·rename_i hC;obtain⟨⟨o,vs,h1,h2,h3⟩,_⟩:=(show ObjOk X.prog X.w H s.heap e (excO e (.ref D))from I.hok e _ (sg _ _ he));exact kia_one (y2m (ExcCls.of hC)) I.kIn ⟨o,vs,h1,h2,h3⟩ (kit h) (fun z=>nomatch z) fin
   ·cases h
  all_goals first|(cases h;done)|(rename_i h1 h2 h3 h4 h5;exact absurd rfl (h2 c))|(rename_i h1 h2 h3 h4;exact absurd rfl (h2 c))|(rename_i h1 h2 h3;exact absurd rfl (h2 c))|(rename_i h1 h2;exact absurd rfl (h2 c))
def dIsi(K:PySem.W.Frag)(cv:Value)(d:Den W):Den W:=fun e=>(d e).bind fun w e1=>match isiW K cv w with
 |some (.bl b)=>.ok (.bl b) e1
 |_=>.no
theorem x9o{c:V}(hc:ClsV c cv):CallR X (.builtin "isinstance") (fun xs H Q=>∃x G w b,xs=[x,c]/\Same G H/\Rep X.K G w x/\isiW X.K cv w=some (.bl b)/\Q (.bl b) H):=by
 intro pins s σ H xs us Q I r h;obtain⟨x,G,w,b,rfl,sg,p,hi,q⟩:=h;obtain⟨u,u2,rfl,rx,rc⟩:=vals2 r
 have ec:u2=cv:=by
  cases c with
  |ty n=>exact(show u2=Value.type n from rc).trans (show cv=Value.type n from hc).symm
  |ref a=>exact(show u2=Value.ref a from rc).trans (show cv=Value.ref a from hc).symm
  |_=>exact hc.elim
 subst ec;exact y6l I sg p rx hi q
theorem x4o{c0:V}(hc:ClsV c0 cv)(hcl:PE X c (tC c0))(hm:X.mg "isinstance"=none)(he:DE Z X EE e da)(hg:Gl X "isinstance":=by rfl)(hs:starEach [e,c] X.env=(false,eval e X.env)::starEach [c] X.env:=by rfl)(hs2:starEach [c] X.env=(false,eval c X.env)::starEach [] X.env:=by rfl)(hpl:(backTo pos (starEach [c] X.env)).any (·.1)=false:=by rfl):
  DE Z X EE (.Call (.Name "isinstance" p) [e,c] [] pos) (dIsi X.K cv da):=by
 refine PE.mono (q95 (x9o hc) hg hm PyProof.Rows.Boot.«isinstance» (q5e he (q5e hcl x0t hs2) hs) (by decide) (by decide) hs hpl) ?_;rintro σ H Q ⟨G,e,rel,h⟩;simp only[dIsi,R.holds_bind]at h;refine⟨G,e,rel,h.imp (fun w e1 h G1 v1 H1 r1 s1 p1=>?_) fun _ _ h=>h⟩
 split at h
 ·rename_i b hb;exact⟨v1,G1,w,b,rfl,r1.sub,p1,hb,h G1 _ H1 r1 s1 rfl⟩
 ·exact h.elim
theorem x1x{n:Str}{T:String}(hv:bootBuiltins n=some (.type T))(hm:X.mg n=none)(hg:Gl X n:=by rfl)(hn:n≠"__name__":=by decide)(hd:(n==("__debug__":Str))=false:=by decide):PE X (.Name n pos) (tC (.ty T)):=y5u (v:=.ty T) hg hm hv rfl hn hd
def tup1:List W->Option W
 |[.lst ws]=>some (.tup ws)
 |[.tup ws]=>some (.tup ws)
 |_=>none
theorem z0y:OpN K (fun xs H Q=>∃p ys,xs=[.ref p]/\((SqL K H p ys/\∀l,H l=none->Q (.ref l) (upd H l (.tup ys)))\/(SqT K H p ys/\Q (.ref p) H))) tup1:=by
 intro G H xs ws w Q s pr hf h;unfold tup1 at hf;split at hf
 ·cases hf;obtain⟨x,r,rfl,px,pr⟩:=pr;cases(show r=[]from pr);obtain⟨a,ys,rfl,ha,ra⟩:=px;refine⟨a,ys,rfl,.inl ⟨s.seq ha,fun l hl=>?_⟩⟩
  have g:=Grow.laid s hl (.tup ys);exact h _ _ _ g ⟨l,ys,rfl,SqT.of q0j,Reps.mono g.gg _ ra⟩
 ·cases hf;obtain⟨x,r,rfl,px,pr⟩:=pr;cases(show r=[]from pr);obtain⟨a,ys,rfl,ha,ra⟩:=px;exact⟨a,ys,rfl,.inr ⟨s.tup ha,h G _ H (.refl s) ⟨a,ys,rfl,ha,ra⟩⟩⟩
 ·cases hf
theorem q3q(hm:X.mg "tuple"=none)(ha:DA Z X EE [e] dA)(hg:Gl X "tuple":=by rfl)(he:starEach [e] X.env=(false,eval e X.env)::starEach [] X.env:=by rfl)(hpl:(backTo pos (starEach [] X.env)).any (·.1)=false:=by rfl):DE Z X EE (.Call (.Name "tuple" p) [e] [] pos) (dFn tup1 dA):=
 x9c x3e z0y PyProof.Rows.Boot.«tuple» hm ha hg (by decide) (by decide) he hpl
theorem q02(hm:X.mg "len"=none)(ha:DA Z X EE [e] dA)(hg:Gl X "len":=by rfl)(he:starEach [e] X.env=(false,eval e X.env)::starEach [] X.env:=by rfl)(hpl:(backTo pos (starEach [] X.env)).any (·.1)=false:=by rfl):DE Z X EE (.Call (.Name "len" p) [e] [] pos) (dFn len1 dA):=
 x4g x37 x9g PySem.boot_len hm ha hg (by decide) (by decide) he hpl
theorem q9f(i:Nat)(hm:X.mg "len"=none)(hN:X.N[i]?=some x:=by rfl)(hvis:Vis X.env.scope x:=by walk_at "1")(hd:(x==("__debug__":Str))=false:=by decide)(hcd:(x==("__classdict__":Str))=false:=by decide)
  (hg:Gl X "len":=by rfl)(hs:starEach [.Name x p] X.env=(false,eval (.Name x p) X.env)::starEach [] X.env:=by rfl)(hpl:(backTo pos (starEach [] X.env)).any (·.1)=false:=by rfl):DE Z X EE (.Call (.Name "len" pn) [.Name x p] [] pos) (dFnV i len1):=
 z0s i x37 x9g PySem.boot_len hm hN hvis hd hcd hg (by decide) (by decide) hs hpl
def dNo:List S->SR:=fun _=>.no
theorem q7v{st:Stmt}:DS Z X EE st dNo:=fun pins s σ H D I ⟨G,e,r,h⟩=>h.elim
end
section
variable{P:Program}{w:World}{mg:Str->Option Value}{base:Heap}
theorem x9p(hF:∀ws,F ws=.no)(h:spF K F vs H Q E):False:=by
 grind [x4i]
theorem conF(A:Fun K x x st f fd)(sc:FnScope N ps (defScope st))(len:∀ws,F ws≠.no->ws.length=ps.length)
  (hb:∀ws,F ws≠.no->∀(cdv:Value)(A:Around)(outer:List Env)(s:Shared)(H:Hp)(E:XK)(Z:Zt),Room k (A.deeper (PyProof.Rows.envOfC x (defScope st) s.heap.objs.size f cdv)) ->
   ∃d,DSs Z (cxOf (CX1 P w) P w K mg base N x (defScope st) f cdv A outer s H E) (fun _=>E) (defBody st) d/\(d (init N.length ws)).fn=F ws):FnOk P w K mg base (CX1 P w) (k+1) f fd ps (spF K F):=by
 refine A.okX sc (fun vs H Q E h=>?_) (fun cdv A outer s H vs Q E hr h=>?_)
 ·grind [x4i,Reps.length]
 ·obtain⟨G,ws,sg,rp,h⟩:=h;have hn:F ws≠.no:=fun z=>by rw[z]at h;exact h
  obtain⟨d,hd,he⟩:=hb ws hn cdv A outer s H E ⟨H,G,[]⟩ hr;exact⟨_,hd,G,init N.length ws,x4h sg rp,x6m he h⟩
def spLaw(K:PySem.W.Frag):Sp:=fun vs H Q _=>∃(a:Addr)(ns:List Int),vs=[.ref a]/\SqL K H a (ns.map V.int)/\ns.length<=63/\∀H',Q (.bl true) H'
theorem x2q:∀(ns:List Int),Reps K G (ns.map W.int) (ns.map V.int)
 |[]=>rfl
 |n::ns=>⟨_,_,rfl,rfl,x2q ns⟩
theorem y2v(hF:∀ns:List Int,ns.length<=63->F [.lst (ns.map .int)]=.ok (.fr (.bl true)))(h:spLaw K vs H Q E):spF K F vs H Q E:=by
 obtain⟨a,ns,rfl,hS,hl,q⟩:=h;refine⟨fun b=>if b=a then H a else none,[.lst (ns.map .int)],fun b o z=>?_,⟨.ref a,[],rfl,⟨a,ns.map V.int,rfl,?_,x2q ns⟩,rfl⟩,?_⟩
 ·grind
 ·rcases hS with(h|⟨o,h⟩)|h
  ·exact .inl (.inl (by simpa using h))
  ·exact .inl (.inr ⟨o,by simpa using h⟩)
  ·exact .inr h
 ·rw[hF ns hl];intro G' H' v g sl;obtain⟨u,h1,h2⟩:=sl;cases h1;cases(show v=V.bl true from h2);exact q H'
theorem z0z(z:CX1 P w [] H s (fun _ _ _=>False) e s'):False:=by
 obtain⟨_,_,_,_,_,_,_,_,_,_,h⟩:=z;exact h
theorem con0{x:Str}{st:Stmt}{ps:List Str}{F:List W->FR}(A:At K mg x st ps)(hF:∀ws,F ws=.no:=by intro _;rfl):Cal P w K mg base 0 x ps (spF K F):=by
 obtain⟨f,fd,F0,m,b⟩:=A.ex;exact⟨f,fd,⟨fun vs H Q E h=>(x9p hF h).elim,fun A outer s H args us vs Q E _ _ _ _ h=>(x9p hF h).elim⟩,m,F0.kp,b⟩
end
section
variable{e:Expr}{d:Den Str}{n:Nat}
def DFm(Z:Zt)(X:Cx)(EE:L2.St->XK)(n:Nat)(es:List Expr)(d:Den Str):Prop:=PF X es (fun acc σ H Q=>acc.length+n*1000001<=16777216/\∃G e,Rel X.K Z G σ H e/\(d e).holds (fun y e'=>∀G' H',Rel X.K Z G' σ H' e'->Same G G'->Q (acc++y) H') (XH X.K Z EE σ G))
end
section
variable{β:Type}{c:Prop} [Decidable c]{a:α}{e e':List S}{k:α->List S->R β}{ks:α->List S->SR}{x y:R α}{s t:SR}{w:W}{v:Value}{st:S}
theorem y6m:(R.ok a e).bind k=k a e:=rfl
theorem y6n:(R.ex v e:R α).bind k=.ex v e:=rfl
theorem y6o:(R.no:R α).bind k=.no:=rfl
theorem y2w:(if c then x else y).bind k=if c then x.bind k else y.bind k:=by split<;>rfl
theorem z00:(R.ok a e).stm ks=ks a e:=rfl
theorem z01:(R.ex v e:R α).stm ks=.ex v e:=rfl
theorem z02:(R.no:R α).stm ks=.no:=rfl
theorem y6p:(if c then x else y).stm ks=if c then x.stm ks else y.stm ks:=by split<;>rfl
def SR.seq:SR->(List S->SR)->SR
 |.nx e,b=>b e
 |r,_=>r
theorem z03{p:List S->SR}:dSeq p q e=(p e).seq q:=by
 grind [dSeq,SR.seq]
theorem z04:(SR.nx e).seq q=q e:=rfl
theorem z05:(SR.rt st e).seq q=.rt st e:=rfl
theorem z06:(SR.ex v e).seq q=.ex v e:=rfl
theorem z07:(SR.bk e).seq q=.bk e:=rfl
theorem z08:(SR.ct e).seq q=.ct e:=rfl
theorem z09:(SR.no).seq q=.no:=rfl
theorem y6q:(if c then s else t).seq q=if c then s.seq q else t.seq q:=by split<;>rfl
theorem z4o:(SR.nx e).fn=.ok (.fr .non):=rfl
theorem z4p:(SR.rt st e).fn=.ok st:=rfl
theorem z4q:(SR.ex v e).fn=.ex v:=rfl
theorem z4r:(SR.no).fn=.no:=rfl
theorem z1a:(if c then s else t).fn=if c then s.fn else t.fn:=by split<;>rfl
theorem x7t:ofOpt (some a) e=.ok a e:=rfl
theorem x7u:ofOpt (none:Option α) e=.no:=rfl
theorem x9q{o p:Option α}:ofOpt (if c then o else p) e=if c then ofOpt o e else ofOpt p e:=by split<;>rfl
def varS(i:Nat)(e:List S):Option S->R W
 |some (.fr w)=>.ok w e
 |some (.own none ws)=>.ok (.lst ws) (e.set i (.fr (.lst ws)))
 |some (.x k)=>match k.plain with
  |some w=>.ok w e
  |none=>.no
 |_=>.no
theorem z1b:dVar i e=varS i e e[i]?:=by
 grind [dVar,varS]
theorem z1c:varS i e (some (.fr w))=.ok w e:=rfl
theorem y6r:varS i e (some (.own none ws))=.ok (.lst ws) (e.set i (.fr (.lst ws))):=rfl
theorem dC_s:dC w e=.ok w e:=rfl
theorem z4s{f:W->W->Option W}:dOp f da db e=(da e).bind fun x e1=>(db e1).bind fun y e2=>ofOpt (f x y) e2:=rfl
theorem z4t{f:W->Option W}:dUn f da e=(da e).bind fun x e1=>ofOpt (f x) e1:=rfl
def testW(e:List S):W->R Bool
 |.bl k=>.ok k e
 |_=>.no
theorem y6s:dTest da e=(da e).bind fun x e1=>testW e1 x:=rfl
theorem y6t{b:Bool}:testW e (.bl b)=.ok b e:=rfl
theorem z1d:dTru da e=(da e).bind fun x e1=>ofOpt (truW x) e1:=rfl
theorem z1e{p q:Den Bool}:dAnd p q e=(p e).bind fun x e1=>if x=true then q e1 else .ok false e1:=rfl
theorem z4u{p q:Den Bool}:dOr p q e=(p e).bind fun x e1=>if x=true then .ok true e1 else q e1:=rfl
theorem z1f{p:Den Bool}:dNot p e=(p e).bind fun x e1=>.ok (!x) e1:=rfl
def andK(q:Den W)(e:List S):W->R W
 |.bl true=>q e
 |.bl false=>.ok (.bl false) e
 |_=>.no
theorem y6u{p q:Den W}:dAndV p q e=(p e).bind fun x e1=>andK q e1 x:=rfl
theorem z1g{q:Den W}{b:Bool}:andK q e (.bl b)=if b=true then q e else .ok (.bl false) e:=by cases b<;>rfl
def orK(q:Den W)(e:List S):W->R W
 |.bl true=>.ok (.bl true) e
 |.bl false=>q e
 |_=>.no
theorem z1h{p q:Den W}:dOrV p q e=(p e).bind fun x e1=>orK q e1 x:=rfl
theorem z4v{q:Den W}{b:Bool}:orK q e (.bl b)=if b=true then .ok (.bl true) e else q e:=by cases b<;>rfl
theorem z4w{p:Den Bool}{q q':Den W}:dIf p q q' e=(p e).bind fun x e1=>if x=true then q e1 else q' e1:=rfl
theorem z1i:dNil e=.ok [] e:=rfl
theorem y6v{p:Den W}{q:Den (List W)}:dCons p q e=(p e).bind fun x e1=>(q e1).bind fun xs e2=>.ok (x::xs) e2:=rfl
theorem z1j{p:Den (List W)}:dTup p e=(p e).bind fun xs e1=>if xs.length<=16777216 then .ok (.tup xs) e1 else .no:=rfl
theorem z1k{p:Den (List W)}:dLst p e=(p e).bind fun xs e1=>if xs.length<=16777216 then .ok xs e1 else .no:=rfl
theorem z4x{p:Den (List W)}:dFz p e=(p e).bind fun xs e1=>.ok (.lst xs) e1:=rfl
theorem z4y{f:List W->Option W}{p:Den (List W)}:dFn f p e=(p e).bind fun xs e1=>ofOpt (f xs) e1:=rfl
theorem z4z:dNx e=.nx e:=rfl
theorem z40:dNo e=.no:=rfl
theorem y6w:dDrop d e=(d e).stm fun _ e'=>.nx e':=rfl
theorem z1l:dRet d e=(d e).stm fun w e'=>.rt (.fr w) e':=rfl
theorem y6x{d:Den (List W)}:dRetF d e=(d e).stm fun w e'=>.rt (.own none w) e':=rfl
def retS(e:List S):Option S->SR
 |some (.own none ws)=>.rt (.own none ws) e
 |some (.fr w)=>.rt (.fr w) e
 |_=>.no
theorem y6y:dRetO i e=retS e e[i]?:=by
 grind [dRetO,retS]
theorem y6z:retS e (some (.own none ws))=.rt (.own none ws) e:=rfl
theorem z1m:retS e (some (.fr w))=.rt (.fr w) e:=rfl
theorem z1n{p:Den Bool}{q':List S->SR}:dIfS p q q' e=(p e).stm fun x e1=>if x=true then q e1 else q' e1:=rfl
theorem z1o:dSet i d e=(d e).stm fun w e'=>.nx (e'.set i (.fr w)):=rfl
theorem y60{d:Den (List W)}:dSetO i d e=(d e).stm fun w e'=>.nx (e'.set i (.own none w)):=rfl
def callR(e:List S):FR->R W
 |.ok (.fr w)=>.ok w e
 |.ok (.own none ws)=>.ok (.lst ws) e
 |.ok (.dic kvs)=>.ok (.dic kvs) e
 |.ok (.thr us ws vs)=>.ok (.tup (us++.lst ws::vs)) e
 |.ok (.x (.new w))=>.ok w e
 |.ok (.x (.tn us wss))=>.ok (.tup (us++[.lst (wss.map .lst)])) e
 |.ex c=>.ex c e
 |_=>.no
theorem y2x{kvs:Dd}:callR e (.ok (.dic kvs))=.ok (.dic kvs) e:=rfl
theorem y61{F:List W->FR}{d:Den (List W)}:dCall F d e=(d e).bind fun ws e1=>callR e1 (F ws):=by
 unfold dCall;congr 1
theorem y62:callR e (.ok (.fr w))=.ok w e:=rfl
theorem y2y:callR e (.ok (.own none ws))=.ok (.lst ws) e:=rfl
theorem y63:callR e (.ex v)=.ex v e:=rfl
theorem y64:callR e .no=.no:=rfl
theorem y2z{f g:FR}:callR e (if c then f else g)=if c then callR e f else callR e g:=by split<;>rfl
def callF(e:List S):FR->R (List W)
 |.ok (.own none ws)=>.ok ws e
 |.ex c=>.ex c e
 |_=>.no
theorem x9r:callF e (.ok (.own none ws))=.ok ws e:=rfl
theorem y20:callF e (.ex v)=.ex v e:=rfl
theorem x9s{f g:FR}:callF e (if c then f else g)=if c then callF e f else callF e g:=by split<;>rfl
def forW(i:Nat)(b:List S->SR)(e:List S):Option (List W)->SR
 |some ws=>forD i b ws e
 |none=>.no
theorem z1p{b:List S->SR}:dFor i d b e=(d e).stm fun w e1=>forW i b e1 (seqW w):=by
 unfold dFor;congr 1
theorem y65{g:List W->Option (List W)}{d:Den (List W)}{b:List S->SR}:dForR i g d b e=(d e).stm fun w e1=>forW i b e1 (g w):=by
 unfold dForR;congr 1
theorem x9t{b:List S->SR}:forW i b e (some ws)=forD i b ws e:=rfl
def SR.turn:SR->(List S->SR)->SR
 |.nx e,k=>k e
 |.ct e,k=>k e
 |.bk e,_=>.nx e
 |.rt s e,_=>.rt s e
 |.ex c e,_=>.ex c e
 |.no,_=>.no
theorem x4p{b:List S->SR}:forD i b (w::ws) e=(b (e.set i (.fr w))).turn (forD i b ws):=by
 show(match b (e.set i (.fr w))with|.nx e'=>forD i b ws e'|.ct e'=>forD i b ws e'|.bk e'=>.nx e'|.rt s e'=>.rt s e'|.ex c e'=>.ex c e'|.no=>.no)=_;cases b (e.set i (.fr w))<;>rfl
theorem x1y:(SR.nx e).turn q=q e:=rfl
theorem y66:(SR.ct e).turn q=q e:=rfl
theorem y67:(SR.bk e).turn q=.nx e:=rfl
theorem y68:(SR.rt st e).turn q=.rt st e:=rfl
theorem y69:(SR.ex v e).turn q=.ex v e:=rfl
theorem y7a:(SR.no).turn q=.no:=rfl
theorem y21:(if c then s else t).turn q=if c then s.turn q else t.turn q:=by split<;>rfl
theorem q9g{p:Den Bool}{b:List S->SR}{n:Nat}:whileD p b (n+1) e=(p e).stm fun x e1=>if x=true then(b e1).turn (whileD p b n)else .nx e1:=by
 show(p e).stm _=_;congr 1;funext x e1
 split
 ·cases b e1<;>rfl
 ·rfl
def look1(k:W->R W):Option W->R W
 |none=>.no
 |some w=>k w
theorem z1q:dIxV i d e=look1 (fun _=>(d e).bind fun k e1=>look1 (fun w=>ofOpt (ixW w k) e1) (e1[i]?.bind S.look)) (e[i]?.bind S.look):=by
 grind [dIxV,look1]
theorem x9u{k:W->R W}:look1 k (some w)=k w:=rfl
theorem z41:S.look (.fr w)=some w:=rfl
theorem z1r{b:Option Nat}:S.look (.own b ws)=some (.lst ws):=rfl
def fnV2(e:List S)(y:Option W):Option S->R W
 |some (.fr _)=>ofOpt y e
 |_=>match y with
  |none=>.no
  |some v=>if scalW v=true then .ok v e else .no
theorem z1s{f:List W->Option W}:dFnV i f e=look1 (fun w=>fnV2 e (f [w]) e[i]?) (e[i]?.bind S.look):=by
 unfold dFnV look1;cases q:e[i]? with
 |none=>rfl
 |some s=>
  cases s with
  |no=>rfl
  |dic _=>rfl
  |thr _ _ _=>rfl
  |nest _=>rfl
  |x k=>
   grind [fnV2]
  |dw _ _ _=>rfl
  |fr w=>
   show(match f [w]with|none=>R.no|some v=>R.ok v e)=fnV2 e (f [w]) (some (.fr w));generalize f [w]=y;cases y<;>rfl
  |own b ws=>
   grind [fnV2]
theorem z1t{y:Option W}:fnV2 e y (some (.fr w))=ofOpt y e:=rfl
theorem y7b{b:Option Nat}{v:W}:fnV2 e (some v) (some (.own b ws))=if scalW v=true then .ok v e else .no:=rfl
def appK(i:Nat)(e:List S):List W->Option S->SR
 |[w],some (.own b xs)=>if xs.length<16777216 then .nx (e.set i (.own b (xs++[w])))else .no
 |_,_=>.no
def ownQ(k:SR):Option S->SR
 |some (.own _ _)=>k
 |_=>.no
theorem z1u{d:Den (List W)}:dApp i d e=ownQ ((d e).stm fun ws e1=>appK i e1 ws e1[i]?) e[i]?:=by
 unfold dApp ownQ;cases e[i]? with
 |none=>rfl
 |some s=>cases s with
  |own b xs=>
   dsimp only;try congr 1
  |_=>rfl
theorem z42{k:SR}{b:Option Nat}:ownQ k (some (.own b ws))=k:=rfl
theorem z43{b:Option Nat}{xs:List W}:appK i e [w] (some (.own b xs))=if xs.length<16777216 then .nx (e.set i (.own b (xs++[w])))else .no:=rfl
def popK(i:Nat)(e:List S)(b:Option Nat)(ws:List W):Option W->R W
 |some w=>.ok w (e.set i (.own b ws.dropLast))
 |none=>.no
def popS(i:Nat)(e:List S):Option S->R W
 |some (.own b ws)=>popK i e b ws ws[ws.length-1]?
 |_=>.no
theorem z1v:dPop i e=popS i e e[i]?:=by
 grind [dPop,popS,popK]
theorem y7c{b:Option Nat}:popS i e (some (.own b (ws++[w])))=.ok w (e.set i (.own b ws)):=by
 show popK i e b (ws++[w]) (ws++[w])[(ws++[w]).length-1]?=_;have:(ws++[w])[(ws++[w]).length-1]?=some w:=by simp
 rw[this];show R.ok w (e.set i (.own b (ws++[w]).dropLast))=_
 grind
theorem x9v:dNoPart e=.ok none e:=rfl
def partK(e:List S):W->R (Option Int)
 |.int i=>.ok (some i) e
 |_=>.no
theorem y7d:dPart d e=(d e).bind fun w e1=>partK e1 w:=rfl
theorem y22{i:Int}:partK e (.int i)=.ok (some i) e:=rfl
def isiK(e:List S):Option W->R W
 |some (.bl b)=>.ok (.bl b) e
 |_=>.no
theorem z1w:dIsi K cv d e=(d e).bind fun w e1=>isiK e1 (isiW K cv w):=by
 unfold dIsi;congr 1
theorem z1x{b:Bool}:isiK e (some (.bl b))=.ok (.bl b) e:=rfl
theorem x1z{b:List W}{k:Bool}(h:kitOne K (.type "tuple") cv=some k):isiW K cv (.tup b)=some (.bl k):=by show(kitOne K (.type "tuple") cv).map W.bl=_;rw[h];rfl
def compR(e:List S):Option (List W)->R (List W)
 |some out=>.ok out e
 |none=>.no
theorem y7e:compK js cc d ws e=if ws.length<=16777216 then compR (frzs js e) (compD cc d (pjS js (frzs js e)) ws)else .no:=by
 grind [compK,compR]
def compW(js:List Nat)(cc:Den Bool)(d:Den W)(e:List S):Option (List W)->R (List W)
 |some ws=>compK js cc d ws e
 |none=>.no
theorem y7f{di:Den W}:dComp js di cc d e=(di e).bind fun w e1=>compW js cc d e1 (seqW w):=by
 unfold dComp;congr 1
theorem y23{g:List W->Option (List W)}{di:Den (List W)}:dCompR g js di cc d e=(di e).bind fun w e1=>compW js cc d e1 (g w):=by
 unfold dCompR;congr 1
theorem x7v:compW js cc d e (some ws)=compK js cc d ws e:=rfl
theorem x7w{out:List W}:compR e (some out)=.ok out e:=rfl
theorem x9w:dYes e=.ok true e:=rfl
theorem y24:frzs [] e=e:=rfl
theorem x9x{j:Nat}:frzs (j::js) e=frzs js (frz1 e j):=rfl
theorem y7g:pjS [] e=[]:=rfl
theorem y25{j:Nat}:pjS (j::js) e=pj1 e j::pjS js e:=rfl
theorem x4q{d:Den W}{pe:List S}{g:W->W}:∀(ws:List W),(∀w∈ws,∃e',d (.fr w::pe)=.ok (g w) e')->compD dYes d pe ws=some (ws.map g)
 |[],_=>rfl
 |w::ws,h=>by
  obtain⟨e',he⟩:=h w (by simp);show(match d (.fr w::pe)with|.ok y _=>(compD dYes d pe ws).map (y::·)|_=>none)=_;rw[he,x4q ws fun u hu=>h u (by simp[hu])]
  rfl
theorem q8q{pe:List S}:compD cc d pe (w::ws)=(match cc (.fr w::pe)with
  |.ok true e1=>(match d e1 with|.ok y _=>(compD cc d pe ws).map (y::·)|_=>none)
  |.ok false _=>compD cc d pe ws
  |_=>none):=rfl
end
section
variable{i j:Int}{x y:Str}{b c:Bool}{us:List W}{w:W}
theorem z1y:addW (.int i) (.int j)=some (.int (i+j)):=rfl
theorem z1z:addW (.str x) (.str y)=if x.length+y.length<=16777216 then some (.str (x++y))else none:=rfl
theorem z13:addW (.lst ws) (.lst us)=if ws.length+us.length<=16777216 then some (.lst (ws++us))else none:=rfl
theorem z14:subW (.int i) (.int j)=some (.int (i-j)):=rfl
theorem z15:mulW (.int i) (.int j)=if(-18446744073709551616<i/\i<18446744073709551616)\/(-18446744073709551616<j/\j<18446744073709551616)then some (.int (i*j))else none:=rfl
theorem y7h:fdivW (.int i) (.int j)=if 0<j/\j<1073741824 then some (.int (i / j))else none:=rfl
theorem z16:modW (.int i) (.int j)=if 0<j then some (.int (i%j))else none:=rfl
theorem z17:powW (.int i) (.int j)=if 0<=j/\j<=1000000/\-18446744073709551616<i/\i<18446744073709551616 then some (.int (i^j.toNat))else none:=by
 show(if 0<=j/\j<=1000000/\i.natAbs<2^64 then _ else _)=_
 grind
theorem z44:ltW (.int i) (.int j)=some (.bl (decide (i<j))):=rfl
theorem z45:gtW (.int i) (.int j)=some (.bl (decide (j<i))):=rfl
theorem z46:geW (.int i) (.int j)=some (.bl (decide (j<=i))):=rfl
theorem z47:negW (.int i)=some (.int (-i)):=rfl
theorem z48:eq2 (.int i) (.int j)=some (.bl (decide (i=j))):=by
 show some (W.bl (i==j))=_;congr 2
theorem z49:eq2 (.str x) (.str y)=some (.bl (decide (x=y))):=by
 show some (W.bl (x==y))=_;congr 2
theorem z5a:eq2 (.bl b) (.bl c)=some (.bl (decide (b=c))):=by
 show some (W.bl (b==c))=_;congr 2
theorem z5b:ne2 (.int i) (.int j)=some (.bl (!decide (i=j))):=by
 show some (W.bl (!(i==j)))=_;congr 2
theorem y5h:ne2 (.str x) (.str y)=some (.bl (!decide (x=y))):=by
 show some (W.bl (!(x==y)))=_;congr 2
theorem z5c:ne2 (.bl b) (.bl c)=some (.bl (!decide (b=c))):=by
 show some (W.bl (!(b==c)))=_;congr 2
theorem z5d:isW (.bl b) (.bl c)=some (.bl (decide (b=c))):=by
 show some (W.bl (b==c))=_;congr 2
theorem z5e:isW .non .non=some (.bl true):=rfl
theorem z5f:isW (.bl b) .non=some (.bl false):=rfl
theorem z5g:isW (.int i) .non=some (.bl false):=rfl
theorem z5h:isW (.str x) .non=some (.bl false):=rfl
theorem z5i:isW (.tup ws) .non=some (.bl false):=rfl
theorem z5j:isW (.lst ws) .non=some (.bl false):=rfl
theorem z18:nisW (.bl b) (.bl c)=some (.bl (!decide (b=c))):=by
 show some (W.bl (!(b==c)))=_;congr 2
theorem z19:nisW .non .non=some (.bl false):=rfl
theorem z2a:nisW (.bl b) .non=some (.bl true):=rfl
theorem z2b:nisW (.int i) .non=some (.bl true):=rfl
theorem z2c:nisW (.str x) .non=some (.bl true):=rfl
theorem z2d:nisW (.tup ws) .non=some (.bl true):=rfl
theorem z2e:nisW (.lst ws) .non=some (.bl true):=rfl
theorem ix_t:ixW (.tup ws) (.int i)=atI ws i:=rfl
theorem ix_l:ixW (.lst ws) (.int i)=atI ws i:=rfl
theorem z5k:len1 [.tup ws]=some (.int ws.length):=rfl
theorem z5l:len1 [.lst ws]=some (.int ws.length):=rfl
theorem y5i:len1 [.str x]=if x.length<=16777216 then some (.int x.length)else none:=rfl
theorem z5m:tup1 [.lst ws]=some (.tup ws):=rfl
theorem z5n:tup1 [.tup ws]=some (.tup ws):=rfl
theorem z5o:truW (.bl b)=some b:=rfl
theorem z5p:truW (.int i)=some (i != 0):=rfl
theorem z5q:truW .non=some false:=rfl
theorem z5r:truW (.tup ws)=some (!ws.isEmpty):=rfl
theorem z5s:truW (.lst ws)=some (!ws.isEmpty):=rfl
theorem z5t:seqW (.tup ws)=some ws:=rfl
theorem z5u:seqW (.lst ws)=some ws:=rfl
theorem sc_i:scalW (.int i)=true:=rfl
theorem sc_b:scalW (.bl b)=true:=rfl
theorem sc_s:scalW (.str x)=true:=rfl
theorem sc_n:scalW .non=true:=rfl
theorem sl_l{lo hi:Option Int}:slW (.lst ws) lo hi=some (.lst (cutW ws lo hi)):=rfl
theorem at0{xs:List α}:atI xs 0=xs[0]?:=by
 cases xs with
 |nil=>rfl
 |cons a l=>exact q5f (j:=0) rfl
theorem at1{xs:List α}:atI xs 1=xs[1]?:=by
 cases xs with
 |nil=>rfl
 |cons a l=>
  cases l with
  |nil=>rfl
  |cons b l=>exact q5f (j:=1) rfl
theorem at2{xs:List α}:atI xs 2=xs[2]?:=by
 cases xs with
 |nil=>rfl
 |cons a l=>
  cases l with
  |nil=>rfl
  |cons b l=>
   cases l with
   |nil=>rfl
   |cons c l=>exact q5f (j:=2) rfl
theorem x4r{xs:List α}{k:Int}(h0:0<=k):atI xs k=xs[k.toNat]?:=by
 unfold atI ixN
 grind
theorem x4s{a b:String}(h:Str.ofString a=Str.ofString b):a=b:=by
 rw[Str.ofString_eq_toList,Str.ofString_eq_toList]at h;have h1:(a.toList.map Char.toNat).toArray=(b.toList.map Char.toNat).toArray:=congrArg Str.cps h;have h2:a.toList.map Char.toNat=b.toList.map Char.toNat:=by simpa using congrArg Array.toList h1
 have h3:a.toList=b.toList:=by
  have inj:∀c d:Char,c.toNat=d.toNat->c=d:=fun c d e=>by
   apply Char.ext;exact UInt32.toNat_inj.mp e
  exact(List.map_inj_right inj).mp h2
 exact String.toList_inj.mp h3
theorem q43{a b:String}:(Str.ofString a=Str.ofString b)=(a=b):=propext ⟨x4s,fun h=>by rw[h]⟩
end
def tuprevW:W->Option W
 |.lst ws=>some (.tup ws.reverse)
 |_=>none
def boolsW:List W->Option (List Bool)
 |[]=>some []
 |.bl b::ws=>(boolsW ws).map (b::·)
 |_=>none
def all1:List W->Option W
 |[.lst ws]=>(boolsW ws).map fun bs=>.bl (bs.all id)
 |_=>none
def max2:List W->Option W
 |[.int i,.int j]=>some (.int (if j>i then j else i))
 |_=>none
def int1:List W->Option W
 |[.int i]=>some (.int i)
 |[.bl b]=>some (.int (if b then 1 else 0))
 |_=>none
def eqS(y x:W):Bool:=(eqW y x).getD false
def inW:W->W->Option W
 |x,.tup ws=>if scalW x=true/\ws.all scalW=true then some (.bl (ws.any fun y=>eqS y x))else none
 |x,.lst ws=>if scalW x=true/\ws.all scalW=true then some (.bl (ws.any fun y=>eqS y x))else none
 |_,_=>none
def ninW:W->W->Option W
 |x,.tup ws=>if scalW x=true/\ws.all scalW=true then some (.bl (!ws.any fun y=>eqS y x))else none
 |x,.lst ws=>if scalW x=true/\ws.all scalW=true then some (.bl (!ws.any fun y=>eqS y x))else none
 |_,_=>none
theorem q58(h:scalW w=true)(p:Rep K G w v):flatV v=true:=by
 cases w with
 |non=>cases p;rfl
 |bl b=>cases p;rfl
 |int b=>cases p;rfl
 |str b=>cases p;rfl
 |_=>cases h
theorem y7i(h:scalW w=true)(h':scalW u=true)(p:Rep K G w v)(q:Rep K G u x):eqV v x=eqS w u:=by
 cases w<;>cases u<;>first|(cases p;cases q;rfl)|exact absurd (show false=true from h') w1k|exact absurd (show false=true from h) w1k
theorem q6w{u:W}{x:V}(hu:scalW u=true)(q:Rep K G u x):∀{ws:List W}{xs:List V},ws.all scalW=true->Reps K G ws xs->xs.all flatV=true/\inV x xs=ws.any fun y=>eqS y u
 |[],xs,_,r=>by cases r;exact⟨rfl,rfl⟩
 |w::ws,xs,h,r=>by
  obtain⟨y,r',rfl,p,r⟩:=r;rw[w2t,w0p]at h;obtain⟨i1,i2⟩:=q6w hu q h.2 r;refine⟨by rw[w2t,q58 h.1 p,i1];rfl,?_⟩;show(eqV y x||inV x r')=(eqS w u||ws.any _);rw[y7i h.1 hu p q,i2]
theorem y5j:Op2 K (rIn K false) inW:=by
 intro G H x y wx wy w Q s px py hf h;cases wy with
 |tup ws=>
  simp only[inW]at hf;split at hf
  ·rename_i hc;cases hf;obtain⟨a,xs,rfl,ha,ra⟩:=py;obtain⟨i1,i2⟩:=q6w hc.1 px hc.2 ra;refine⟨a,xs,rfl,.inr (s.tup ha),q58 hc.1 px,i1,?_⟩;rw[i2];exact h G _ H (.refl s) rfl
  ·cases hf
 |lst ws=>
  simp only[inW]at hf;split at hf
  ·rename_i hc;cases hf;obtain⟨a,xs,rfl,ha,ra⟩:=py;obtain⟨i1,i2⟩:=q6w hc.1 px hc.2 ra;refine⟨a,xs,rfl,.inl (s.seq ha),q58 hc.1 px,i1,?_⟩;rw[i2];exact h G _ H (.refl s) rfl
  ·cases hf
 |_=>simp[inW]at hf
theorem z2f:Op2 K (rIn K true) ninW:=by
 intro G H x y wx wy w Q s px py hf h;cases wy with
 |tup ws=>
  simp only[ninW]at hf;split at hf
  ·rename_i hc;cases hf;obtain⟨a,xs,rfl,ha,ra⟩:=py;obtain⟨i1,i2⟩:=q6w hc.1 px hc.2 ra;refine⟨a,xs,rfl,.inr (s.tup ha),q58 hc.1 px,i1,?_⟩;rw[i2];exact h G _ H (.refl s) rfl
  ·cases hf
 |lst ws=>
  simp only[ninW]at hf;split at hf
  ·rename_i hc;cases hf;obtain⟨a,xs,rfl,ha,ra⟩:=py;obtain⟨i1,i2⟩:=q6w hc.1 px hc.2 ra;refine⟨a,xs,rfl,.inl (s.seq ha),q58 hc.1 px,i1,?_⟩;rw[i2];exact h G _ H (.refl s) rfl
  ·cases hf
 |_=>simp[ninW]at hf
theorem x03:∀{ws:List W}{bs:List Bool},boolsW ws=some bs->ws=bs.map .bl
 |[],bs,h=>by cases h;rfl
 |.bl b::ws,bs,h=>by
  obtain⟨cs,h1,rfl⟩:=w0t.mp (show(boolsW ws).map (b::·)=some bs from h);rw[x03 h1];rfl
 |.non::ws,bs,h=>by cases h
 |.int _::ws,bs,h=>by cases h
 |.str _::ws,bs,h=>by cases h
 |.tup _::ws,bs,h=>by cases h
 |.lst _::ws,bs,h=>by cases h
 |.exc _::ws,bs,h=>by cases h
theorem x2r:∀(bs:List Bool),boolsW (bs.map .bl)=some bs
 |[]=>rfl
 |b::bs=>by
  show(boolsW (bs.map W.bl)).map (b::·)=_;rw[x2r bs];rfl
theorem x04:∀{bs:List Bool}{xs:List V},Reps K G (bs.map W.bl) xs->xs=bs.map V.bl
 |[],xs,h=>h
 |b::bs,xs,h=>by
  obtain⟨x,r,rfl,h1,h2⟩:=h;rw[x04 h2,show x=V.bl b from h1];rfl
theorem z2g:OpN K (fun xs H Q=>∃p ys,xs=[.ref p]/\SqL K H p ys/\(∀y∈ys,∃b,y=.bl b)/\Q (.bl (ys.all fun y=>decide (y=.bl true))) H) all1:=by
 intro G H xs ws w Q s pr hf h;unfold all1 at hf;split at hf
 ·obtain⟨bs,hb,rfl⟩:=w0t.mp hf;have:=x03 hb;subst this;obtain⟨x,r,rfl,px,pr⟩:=pr;cases(show r=[]from pr);obtain⟨a,ys,rfl,ha,ra⟩:=px;have:=x04 ra;subst this;refine⟨a,_,rfl,s.seq ha,fun y hy=>?_,h G _ H (.refl s) ?_⟩
  ·grind
  ·show V.bl _=V.bl _
   grind [List.all_map]
 ·cases hf
theorem z2h:OpN K (fun xs H Q=>∃i j,xs=[.int i,.int j]/\Q (.int (if j>i then j else i)) H) max2:=by
 intro G H xs ws w Q s pr hf h;unfold max2 at hf;split at hf
 ·cases hf;obtain⟨x,r,rfl,px,y,r2,rfl,py,pr⟩:=pr;cases(show r2=[]from pr);cases px;cases py;exact⟨_,_,rfl,h G _ H (.refl s) rfl⟩
 ·cases hf
theorem z2i:OpN K (fun xs H Q=>(∃i,xs=[.int i]/\Q (.int i) H)\/∃k,xs=[.bl k]/\Q (.int (if k then 1 else 0)) H) int1:=by
 intro G H xs ws w Q s pr hf h;unfold int1 at hf;split at hf
 ·cases hf;obtain⟨x,r,rfl,px,pr⟩:=pr;cases(show r=[]from pr);cases px;exact .inl ⟨_,rfl,h G _ H (.refl s) rfl⟩
 ·cases hf;obtain⟨x,r,rfl,px,pr⟩:=pr;cases(show r=[]from pr);cases px;exact .inr ⟨_,rfl,h G _ H (.refl s) rfl⟩
 ·cases hf
section
variable{a b c e:Expr}{p pos1 pos2:Pos}{x:Str}
theorem x7x(hu:X.A.units+150<cLine)(ha:DE Z X EE a da)(hb:DE Z X EE b db)(hm:behindInMarks .In b=false:=by with_unfolding_all rfl):DE Z X EE (.Compare a [.In] [b] pos) (dOp inW da db):=q8k x2i y5j ha hb hm
theorem q9h(hu:X.A.units+150<cLine)(ha:DE Z X EE a da)(hb:DE Z X EE b db)(hm:behindInMarks .In b=false:=by with_unfolding_all rfl):DT Z X EE (.Compare a [.In] [b] pos) (dTest (dOp inW da db)):=q54 x2i y5j ha hb hm
theorem x9y(hu:X.A.units+150<cLine)(ha:DE Z X EE a da)(hb:DE Z X EE b db)(hm:behindInMarks .NotIn b=false:=by with_unfolding_all rfl):DT Z X EE (.Compare a [.NotIn] [b] pos) (dTest (dOp ninW da db)):=q54 x4a z2f ha hb hm
theorem z2j(hc:X.calm=true)(hm:X.mg "all"=none)(ha:DA Z X EE [e] dA)(hg:Gl X "all":=by rfl)(he:starEach [e] X.env=(false,eval e X.env)::starEach [] X.env:=by rfl)(hpl:(backTo pos (starEach [] X.env)).any (·.1)=false:=by rfl):DE Z X EE (.Call (.Name "all" p) [e] [] pos) (dFn all1 dA):=
 x4g (y2k hc) z2g PyProof.Rows.Boot.«all» hm ha hg (by decide) (by decide) he hpl
theorem y7j(hc:X.calm=true)(hm:X.mg "max"=none)(ha:DA Z X EE [a,b] dA)(hg:Gl X "max":=by rfl)(he:starEach [a,b] X.env=(false,eval a X.env)::starEach [b] X.env:=by rfl)(hpl:(backTo pos (starEach [b] X.env)).any (·.1)=false:=by rfl):DE Z X EE (.Call (.Name "max" p) [a,b] [] pos) (dFn max2 dA):=
 x4g (x8y hc) z2h PyProof.Rows.Boot.«max» hm ha hg (by decide) (by decide) he hpl
theorem x6o(hm:X.mg "int"=none)(ha:DA Z X EE [e] dA)(hg:Gl X "int":=by rfl)(he:starEach [e] X.env=(false,eval e X.env)::starEach [] X.env:=by rfl)(hpl:(backTo pos (starEach [] X.env)).any (·.1)=false:=by rfl):DE Z X EE (.Call (.Name "int" p) [e] [] pos) (dFn int1 dA):=
 x9c x8z z2i PyProof.Rows.Boot.«int» hm ha hg (by decide) (by decide) he hpl
end
theorem y26:tuprevW (.lst ws)=some (.tup ws.reverse):=rfl
theorem z5v{bs:List Bool}:all1 [.lst (bs.map .bl)]=some (.bl (bs.all id)):=by
 show(boolsW (bs.map W.bl)).map _=_;rw[x2r];rfl
theorem z2k{i:Int}:max2 [.int i,.int j]=some (.int (if j>i then j else i)):=rfl
theorem z5w{i:Int}:int1 [.int i]=some (.int i):=rfl
theorem z5x:int1 [.bl b]=some (.int (if b then 1 else 0)):=rfl
theorem cast0:((0:Nat):Int)=0:=rfl
theorem cast1:((1:Nat):Int)=1:=rfl
theorem x9z{b:List S->SR}(I:Nat->List S->Prop):∀(ws:List W)(k:Nat)(e:List S),I k e->(∀(j:Nat)(w:W)(e:List S),ws[j]?=some w->I (k+j) e->∃e',b (e.set i (.fr w))=.nx e'/\I (k+j+1) e')->∃e',forD i b ws e=.nx e'/\I (k+ws.length) e'
 |[],k,e,h0,_=>⟨e,rfl,h0⟩
 |w::ws,k,e,h0,h=>by
  obtain⟨e1,h1,h2⟩:=h 0 w e rfl h0
  obtain⟨e2,h3,h4⟩:=x9z I ws (k+1) e1 h2 fun j u e hu hI=>by
   have z:=h (j+1) u e (by simpa using hu) (by grind);rw[show k+(j+1)+1=k+1+j+1 by omega]at z;exact z
  grind [x4p,x1y]
theorem q4w:(rangeW lo hi).length=(hi-lo).toNat:=by simp[rangeW]
theorem x90(h:(rangeW lo hi)[j]?=some w):w=.int (lo+j)/\j<(hi-lo).toNat:=by
 grind [rangeW]
theorem q25(n)(hn:(hi-lo).toNat=n)(I:Nat->List S->Prop)(e)(h0:I 0 e)(h:∀(j:Nat)(e:List S),j<n->I j e->∃e',b (e.set i (.fr (.int (lo+j))))=.nx e'/\I (j+1) e'):∃e',forD i b (rangeW lo hi) e=.nx e'/\I n e':=by
 obtain⟨e',h1,h2⟩:=x9z (b:=b) (i:=i) I (rangeW lo hi) 0 e h0 fun j w e hw hI=>by
  obtain⟨rfl,hj⟩:=x90 hw
  grind
 rw[q4w,hn,Nat.zero_add]at h2;exact⟨e',h1,h2⟩
def dLend(F:List W->FR)(i:Nat)(dA:Den (List W)):Den W:=fun e=>match e[i]? with
 |some (.own _ _)=>(dA e).bind fun us e1=>match e1[i]? with
  |some (.own _ ws)=>match F (.lst ws::us)with
   |.ok (.fr w)=>if scalW w=true then .ok w e1 else .no
   |_=>.no
  |_=>.no
 |_=>.no
mutual
def conIn(K:PySem.W.Frag):W->Value->Bool
 |.non,u=>match u with|.none=>true|_=>false
 |.bl b,u=>match u with|.bool c=>b==c|_=>false
 |.int i,u=>match u with|.int j _=>decide (i=j)|_=>false
 |.str x,u=>match u with|.str y _=>decide (x=y)|_=>false
 |.tup ws,u=>match u with
  |.ref a=>match K.lookup a with
   |some o=>(o.cls==.type "tuple"&&o.dict.isNone)&&(match o.data with|.seq its _=>Nat.ble its.size 1000000&&consIn K ws its.toList|_=>false)
   |none=>false
  |_=>false
 |.lst _,_=>false
 |.exc _,_=>false
 |.dic _,_=>false
 |.dw _ _ _ _,_=>false
 |.fn _ _ _,_=>false
def consIn(K:PySem.W.Frag):List W->List Value->Bool
 |[],us=>us.isEmpty
 |w::ws,us=>match us with
  |u::us=>conIn K w u&&consIn K ws us
  |[]=>false
end
mutual
theorem x10{K:PySem.W.Frag}:∀(w:W){u:Value},conIn K w u=true->∃v,RelV v u/\∀G,Rep K G w v
 |.non,u,h=>by
  unfold conIn at h;split at h
  ·exact⟨.non,rfl,fun _=>rfl⟩
  ·cases h
 |.bl b,u,h=>by
  unfold conIn at h;split at h
  ·rename_i c;have:b=c:=by simpa using h
   exact⟨.bl b,by rw[this];rfl,fun _=>rfl⟩
  ·cases h
 |.int i,u,h=>by
  unfold conIn at h;split at h
  ·rename_i j t;have:i=j:=by simpa using h
   exact⟨.int i,⟨t,by rw[this]⟩,fun _=>rfl⟩
  ·cases h
 |.str x,u,h=>by
  unfold conIn at h;split at h
  ·rename_i y t;have:x=y:=by simpa using h
   exact⟨.str x,⟨t,by rw[this]⟩,fun _=>rfl⟩
  ·cases h
 |.tup ws,u,h=>by
  unfold conIn at h;split at h
  ·rename_i a;split at h
   ·rename_i o ho;rw[w0p]at h;obtain⟨h1,h2⟩:=h;split at h2
    ·rename_i its n hd;rw[w0p]at h2;obtain⟨h3,h4⟩:=h2;obtain⟨xs,r,q⟩:=x4t ws h4;exact⟨.ref a,rfl,fun G=>⟨a,xs,rfl,.inr ⟨o,its,n,ho,by grind,Option.isNone_iff_eq_none.mp ((w0p _ _).mp h1).2,hd,by rw[sizeLine_eq];have:=w3i h3;omega,r⟩,q G⟩⟩
    ·cases h2
   ·cases h
  ·cases h
 |.lst _,u,h=>by grind [conIn]
 |.exc _,u,h=>by grind [conIn]
 |.dic _,u,h=>by grind [conIn]
 |.dw _ _ _ _,u,h=>by grind [conIn]
 |.fn _ _ _,u,h=>by grind [conIn]
theorem x4t{K:PySem.W.Frag}:∀(ws:List W){us:List Value},consIn K ws us=true->∃xs,Vals xs us/\∀G,Reps K G ws xs
 |[],us,h=>by
  unfold consIn at h;cases us with
  |nil=>exact⟨[],.nil,fun _=>rfl⟩
  |cons _ _=>cases h
 |w::ws,us,h=>by
  unfold consIn at h;cases us with
  |nil=>cases h
  |cons u us=>
   rw[w0p]at h;obtain⟨v,r,q⟩:=x10 w h.1;obtain⟨xs,r',q'⟩:=x4t ws h.2;exact⟨v::xs,.cons r r',fun G=>⟨v,xs,rfl,q G,q' G⟩⟩
end
theorem q2v{x:Str}{w:W}{u:Value}(hm:X.mg x=some u)(hc:conIn X.K w u=true)(hg:Gl X x:=by rfl)(hd:(x==("__debug__":Str))=false:=by decide):DE Z X EE (.Name x pos) (dC w):=by
 obtain⟨v,r,q⟩:=x10 w hc;exact PE.mono (x1r hg hm r hd) fun σ H Q ⟨G,e,rel,h⟩=>h G v H rel (.refl _) (q G)
theorem x05(l)(items)(n)(b)(items2)(n2)(T)(hT : T = "list" \/ T = "tuple")(hs0 : ¬(!items.isEmpty && Builtin.List.listTooLong (items.size + items2.size)) = true)(hs1 : items.size <= sizeLine)(hs2 : items.size + items2.size <= sizeLine + 1) :
  Meets (Builtin.«list.extend» { pos := [Value.ref l, Value.ref b] }) fun _ R s =>
     s.heap.get? l = some { cls := Value.type "list", data := Data.seq items n } /\
      (∃ o, s.heap.get? b = some o /\ o.cls = .type T /\ o.data = Data.seq items2 n2) /\
       R (Except.ok (Flow.ret Value.none)) { s with heap := s.heap.update l (Obj.mapSeq fun x => x ++ items2) } := by
 refine Meets.of_wp fun prog w A R s h => ?_
 obtain ⟨hl, ⟨o, hb, hc, hd⟩, h⟩ := h;obtain ⟨cls, dict, data, slots⟩ := o;simp only at hc hd;subst hc hd;refine wpAny_bind (wpAny_bind (wpAny_ite_true rfl (wpAny_pure (wpAny_pure ?_))));refine wpAny_bind (wpAny_bind (AutoSeq1.wpAny_loadPart' hb (wpAny_pure (wpAny_ite_true ?_ ?_))))
 ·grind
 refine wpAny_bind (wpAny_bind (wpAny_bind (wpAny_load' hb (wpAny_pure (wpAny_pure ?_)))));refine wpAny_bind (wpAny_bind (wpAny_bind (wpAny_load' hl (wpAny_pure (wpAny_pure ?_)))));refine wpAny_ite_false (by simpa using hs0) ?_;exact wpAny_bind (wpAny_updateSeq hl rfl (wpAny_pure ⟨_, rfl, h⟩) hs1 (by grind))
def rExt(K:PySem.W.Frag):V->List V->Hp->VK->Prop:=fun x vs H Q=>∃l b xs zs,x=.ref l/\vs=[.ref b]/\H l=some (.lst xs)/\(SqL K H b zs\/SqT K H b zs)/\xs.length+zs.length<=sizeLine/\Q .non (upd H l (.lst (xs++zs)))
theorem z2l:MtM X "list.extend" (rExt X.K):=by
 intro pins s σ H x vs v us Q I rx rv h;obtain⟨l,b,xs,zs,rfl,rfl,hH,hB,hz,q⟩:=h;cases rx;obtain⟨u,rfl,ru⟩:=rv.one;cases ru;obtain⟨z,its,n,r,hl,e⟩:=I.lstM hH
 have fin:∀(T:String)(its2:List Value)(n2:Nat)(o:Obj),T="list"\/T="tuple"->Vals zs its2->s.heap.get? b=some o->o.cls=.type T->o.data=.seq its2.toArray n2->wpAny (model X.prog X.w) X.A (call (.builtin "list.extend") [.ref l,.ref b]) (EP X pins σ Q) X.xe s:=fun T its2 n2 o hT r2 e2 hc hd=>by
  have hl2:=r2.length;have hsz:its.toArray.size+its2.toArray.size<=sizeLine:=by grind
  have hlong:¬(!its.toArray.isEmpty&&Builtin.List.listTooLong (its.toArray.size+its2.toArray.size))=true:=by
   simp_all [notLongL]
  refine call_meets F.slot_list_extend ⟨_,e,rfl⟩ F.entry_list_extend (F.args_list_extend_2 _ _)
   (x05 l its.toArray n b its2.toArray n2 T hT hlong (by grind) (by omega)) ⟨e,⟨o,e2,hc,hd⟩,?_⟩
  refine⟨.non,_,I.lset (its':=its++its2) hH e (by simp) (r.append r2) ?_,rfl,q⟩
  grind
 rcases hB with hB|hB
 ·obtain⟨its2,r2,pl,_⟩:=I.list hB;obtain⟨o,e2,hc,n2,hd⟩:=pl.isList
  grind
 ·obtain⟨its2,r2,⟨o,e2,hc,n2,hd⟩,_⟩:=I.tuple hB
  grind
def dExt(i:Nat)(d:Den (List W)):List S->SR:=fun e=>match e[i]? with
 |some (.own _ _)=>(d e).stm fun ws e1=>match ws,e1[i]? with
  |[w],some (.own b xs)=>match seqW w with
   |some ys=>if xs.length+ys.length<=16777216 then .nx (e1.set i (.own b (xs++ys)))else .no
   |none=>.no
  |_,_=>.no
 |_=>.no
section
variable{e:Expr}{p:Pos}{x:Str}
theorem z2m(i:Nat)(ha:DA Z X EE (e::es) dA)(hN:X.N[i]?=some x:=by rfl)(hv:Vis X.env.scope x:=by walk_at "1")(hd:(x==("__debug__":Str))=false:=by decide)(hcd:(x==("__classdict__":Str))=false:=by decide)
  (hbase:attributeBase (.Name x p) "extend" X.env (eval (.Name x p) X.env)=eval (.Name x p) X.env:=by rfl)
  (hfew:((backTo cpos (starEach (e::es) X.env)).all (fun x=>!x.1)&&(backToKw cpos (keywordEach [] X.env)).all (fun x=>x.1.isSome)&&decide ((e::es).length+([]:List Keyword).length+(if([]:List Keyword).isEmpty then 0 else 1)<30))=true:=by rfl)
  (hline:(apos.endLine==cpos.line)=true:=by rfl)(hs:starEach (e::es) X.env=(false,eval e X.env)::starEach es X.env:=by rfl)(hplain:(backTo cpos (starEach es X.env)).any (·.1)=false:=by rfl)
  (hsw:swapsWith (.Call (.Attribute (.Name x p) "extend" apos) (e::es) [] cpos) none pos.line X.env=pure false:=by rfl):
  DS Z X EE (.Expr (.Call (.Attribute (.Name x p) "extend" apos) (e::es) [] cpos) pos) (dExt i dA):=by
 refine PS.mono (q7f (x3s PySem.F.plainAttrs_list PySem.F.slot_list_extend PySem.F.type_list_extend z2l (pv i hN hv hd hcd) ha hbase hfew hline hs hplain) hsw) ?_;rintro D σ H ⟨G,e,rel,h⟩;unfold dExt at h;split at h
 ·rename_i b0 ws0 he0;obtain⟨a,xs,h1,h2,h3,h4,h5⟩:=rel.own he0;refine⟨.ref a,h1,.inl ⟨rfl,xs,SqL.of h2⟩,G,e,rel,(q0x h).imp (fun ws e1 h G1 vs H1 r1 s1 p1=>?_) fun _ _ h=>h⟩
  split at h
  ·rename_i w b ys he1;obtain⟨a',zs,g1,g2,g3,g4,g5⟩:=r1.own he1;rw[h1]at g1;cases g1;obtain⟨y,r,rfl,py,pr⟩:=p1;cases(show r=[]from pr);split at h
   ·rename_i us hu;split at h
    ·rename_i hl
     have step:∀c cs,y=.ref c->(SqL X.K G1 c cs\/SqT X.K G1 c cs)->Reps X.K G1 us cs->rExt X.K (.ref a) [y] H1 (fun v H'=>D.nx σ H'):=fun c cs hy hq hr=>by
      subst hy;refine⟨a,c,zs,cs,rfl,rfl,g2,?_,by grind [Reps.length,sizeLine_eq],?_⟩
      ·rcases hq with q|q
       ·exact .inl (r1.sub.seq q)
       ·exact .inr (r1.sub.tup q)
      ·exact h G1 σ _ (r1.mut he1 h1 (g5.append hr)) s1
     unfold seqW at hu;split at hu
     ·cases hu;obtain⟨c,cs,hy,q,hr⟩:=py
      grind
     ·cases hu;obtain⟨c,cs,hy,q,hr⟩:=py
      grind
     ·cases hu
    ·exact h.elim
   ·exact h.elim
  ·exact h.elim
 ·exact h.elim
end
def ltS:W->W->Option W
 |.str i,.str j=>some (.bl (decide (i.cps.toList<j.cps.toList)))
 |_,_=>none
def leS:W->W->Option W
 |.str i,.str j=>some (.bl (!decide (j.cps.toList<i.cps.toList)))
 |_,_=>none
def rSS(f:Str->Str->Bool):R2:=fun x y H Q=>∃i j,x=.str i/\y=.str j/\Q (.bl (f i j)) H
theorem z2n:OpR X (compareOp .LtE) (rSS fun i j=>!decide (j.cps.toList<i.cps.toList)):=by
 intro pins s σ H x y v u Q I rx ry h;obtain⟨i,j,rfl,rfl,q⟩:=h;obtain⟨t,rfl⟩:=rx;obtain⟨t',rfl⟩:=ry;exact PySem.P.le_str (x8x I q rfl)
theorem z2o:Op2 K (rSS fun i j=>!decide (j.cps.toList<i.cps.toList)) leS:=by
 intro G H x y wx wy w Q s px py hf h;unfold leS at hf;split at hf
 ·cases hf;cases px;cases py;exact⟨_,_,rfl,rfl,h G _ H (.refl s) rfl⟩
 ·cases hf
theorem x91(ha:DE Z X EE a da)(hb:DE Z X EE b db):DE Z X EE (.Compare a [.LtE] [b] pos) (dOp leS da db):=q8k z2n z2o ha hb (nomark _)
def OpM(K:PySem.W.Frag)(r:V->List V->Hp->VK->Prop)(f:W->List W->Option W):Prop:=∀(G H:Hp)(x:V)(xs:List V)(wx:W)(ws:List W)(w:W)(Q:VK),Same G H->Rep K G wx x->Reps K G ws xs->f wx ws=some w->(∀G' v H',Grow G H G' H'->Rep K G' w v->Q v H')->r x xs H Q
def kindW(T:String):W->Bool
 |.str _=>T=="str"
 |.lst _=>T=="list"
 |_=>false
def dMeth(T:String)(f:W->List W->Option W)(d:Den W)(dA:Den (List W)):Den W:=fun e=>(d e).bind fun x e1=>if kindW T x=true then(dA e1).bind fun ws e2=>ofOpt (f x ws) e2 else .no
section
variable{o e:Expr}{p:Pos}{x:Str}
theorem x11{T id:String}{name:Str}{r:V->List V->Hp->VK->Prop}{f:W->List W->Option W}(pa:PlainAttrs T)(slot:Slot T name id)(hty:typeOf (.builtin id)=pure (.type "method_descriptor"))(hm:MtR X id r)(hf:OpM X.K r f)(ho:DE Z X EE o d)(ha:DA Z X EE (e::es) dA)
  (hbase:attributeBase o name X.env (eval o X.env)=eval o X.env:=by rfl)
  (hfew:((backTo cpos (starEach (e::es) X.env)).all (fun x=>!x.1)&&(backToKw cpos (keywordEach [] X.env)).all (fun x=>x.1.isSome)&&decide ((e::es).length+([]:List Keyword).length+(if([]:List Keyword).isEmpty then 0 else 1)<30))=true:=by rfl)
  (hline:(apos.endLine==cpos.line)=true:=by rfl)(hs:starEach (e::es) X.env=(false,eval e X.env)::starEach es X.env:=by rfl)(hplain:(backTo cpos (starEach es X.env)).any (·.1)=false:=by rfl):
  DE Z X EE (.Call (.Attribute o name apos) (e::es) [] cpos) (dMeth T f d dA):=by
 refine PE.mono (x3s pa slot hty hm ho ha hbase hfew hline hs hplain) ?_;rintro σ H Q ⟨G,e,rel,h⟩;simp only[dMeth,R.holds_bind]at h;refine⟨G,e,rel,h.imp (fun wx e1 h G1 v1 H1 r1 s1 p1=>?_) fun _ _ h=>h⟩
 split at h
 ·rename_i hk;refine⟨?_,G1,e1,r1,(R.holds_bind.mp h).imp (fun ws e2 h G2 vs H2 r2 s2 p2=>?_) fun _ _ h=>XH.trans s1 h⟩
  ·cases wx with
   |str z=>cases p1;exact(by simpa [kindW]using hk:T="str")
   |lst ws=>
    obtain⟨a,xs,rfl,q,_⟩:=p1;exact .inl ⟨by simpa [kindW]using hk,xs,r1.sub.seq q⟩
   |_=>cases hk
  ·obtain⟨w,hw,h⟩:=ofOpt_holds.mp h;exact hf G2 H2 v1 vs wx ws w Q r2.sub (Rep.mono s2 wx p1) p2 hw fun G' v H' g p=>h G' v H' (r2.grow g) ((s1.trans s2).trans g.gg) p
 ·exact h.elim
end
def strsW:List W->Option (List Str)
 |[]=>some []
 |.str x::r=>(strsW r).map (x::·)
 |_=>none
def joinOk(sep:Str)(ys:List Str):Bool:=Nat.ble ((ys.map fun x=>x.length).sum+ys.length*sep.length) 16777216
def joinW:W->List W->Option W
 |.str sep,[w]=>match seqW w with
  |some ws=>match strsW ws with
   |some ys=>if joinOk sep ys=true then some (.str (Txt.join sep ys))else none
   |none=>none
  |none=>none
 |_,_=>none
def rJoin(K:PySem.W.Frag):V->List V->Hp->VK->Prop:=fun x vs H Q=>∃sep b zs ys,x=.str sep/\vs=[.ref b]/\(SqL K H b zs\/SqT K H b zs)/\zs=ys.map V.str/\joinOk sep ys=true/\Q (.str (Txt.join sep ys)) H
theorem x0a:∀{ys:List Str}{its:List Value},Vals (ys.map V.str) its->PyProof.Rows.StrsAre its ys
 |[],its,h=>by cases h;exact .nil
 |y::ys,its,h=>by
  cases h with
  |cons r t=>
   obtain⟨k,rfl⟩:=r;exact .cons y k (x0a t)
theorem y7k:MtR X "str.join" (rJoin X.K):=by
 intro pins s σ H x vs v us Q I rx rv h;obtain⟨sep,b,zs,ys,rfl,rfl,hB,rfl,hz,q⟩:=h;obtain⟨t,rfl⟩:=rx;obtain⟨u,rfl,ru⟩:=rv.one;cases ru;have hz':=w3i hz;have fin:∀(t':Tok)(k:Nat),EP X pins σ Q (Value.str (Txt.join sep ys) t') {s with toks:=k}:=fun t' k=>⟨.str _,H,I.tok k,⟨t',rfl⟩,q⟩
 rcases hB with hB|hB
 ·obtain⟨its,r,pl,_⟩:=I.list hB;exact PyProof.Rows.join_list pl.isList (by simpa using x0a r) hz' fin
 ·obtain⟨its,r,pl,_⟩:=I.tuple hB;exact PyProof.Rows.join_tuple pl (by simpa using x0a r) hz' fin
theorem x4u:∀{ws:List W}{ys:List Str}{xs:List V},strsW ws=some ys->Reps K G ws xs->xs=ys.map V.str
 |[],ys,xs,h,r=>by cases h;exact r
 |.str x::ws,ys,xs,h,r=>by
  unfold strsW at h;obtain⟨zs,h1,rfl⟩:=w0t.mp h;obtain⟨v,t,rfl,p,q⟩:=r;cases p;rw[x4u h1 q];rfl
 |.non::ws,_,_,h,_=>by cases h
 |.bl _::ws,_,_,h,_=>by cases h
 |.int _::ws,_,_,h,_=>by cases h
 |.tup _::ws,_,_,h,_=>by cases h
 |.lst _::ws,_,_,h,_=>by cases h
 |.exc _::ws,_,_,h,_=>by cases h
theorem y7l:OpM K (rJoin K) joinW:=by
 intro G H x xs wx ws w Q s px pr hf h;unfold joinW at hf;split at hf
 ·rename_i sep w0;obtain⟨y,r,rfl,py,pr⟩:=pr;cases(show r=[]from pr);cases px;split at hf
  ·rename_i us hu;split at hf
   ·rename_i ys hy;split at hf
    ·rename_i ho;cases hf
     have step:∀c cs,y=.ref c->(SqL K G c cs\/SqT K G c cs)->Reps K G us cs->rJoin K (.str sep) [y] H Q:=fun c cs hc hq hr=>by
      subst hc;refine⟨sep,c,cs,ys,rfl,rfl,?_,x4u hy hr,ho,h G _ H (.refl s) rfl⟩;rcases hq with q|q
      ·exact .inl (s.seq q)
      ·exact .inr (s.tup q)
     unfold seqW at hu;split at hu
     ·cases hu;obtain⟨c,cs,hc,q,hr⟩:=py
      grind
     ·cases hu;obtain⟨c,cs,hc,q,hr⟩:=py
      grind
     ·cases hu
    ·cases hf
   ·cases hf
  ·cases hf
 ·cases hf
section
variable{o e:Expr}
theorem x12(ho:DE Z X EE o d)(ha:DA Z X EE [e] dA)
  (hbase:attributeBase o "join" X.env (eval o X.env)=eval o X.env:=by rfl)
  (hfew:((backTo cpos (starEach [e] X.env)).all (fun x=>!x.1)&&(backToKw cpos (keywordEach [] X.env)).all (fun x=>x.1.isSome)&&decide ([e].length+([]:List Keyword).length+(if([]:List Keyword).isEmpty then 0 else 1)<30))=true:=by rfl)
  (hline:(apos.endLine==cpos.line)=true:=by rfl)(hs:starEach [e] X.env=(false,eval e X.env)::starEach [] X.env:=by rfl)(hplain:(backTo cpos (starEach [] X.env)).any (·.1)=false:=by rfl):
  DE Z X EE (.Call (.Attribute o "join" apos) [e] [] cpos) (dMeth "str" joinW d dA):=
 x11 PySem.F.plainAttrs_str PySem.F.slot_str_join PySem.F.type_str_join y7k y7l ho ha hbase hfew hline hs hplain
end
def SR.turnT(r:SR)(k:List S->SR):SR:=match r with
 |.nx e'=>k e'
 |.ct e'=>k e'
 |.bk e'=>.nx e'
 |.rt s e'=>.rt s e'
 |.ex c e'=>.ex c e'
 |.no=>.no
def idxS(x:Str):List Str->Option Nat
 |[]=>none
 |y::ys=>if y=x then some 0 else(idxS x ys).map (·+1)
structure TabK(P:Program)(w:World)(K:PySem.W.Frag)(d:Addr)(tb:List (Str×Int)):Prop where
 tab:∀h,K.In h->PyProof.Rows.StrTab P w h d (PySem.W.kdpD tb)
 obj:∃o,K.lookup d=some o/\o.cls=.type "dict" /\ o.dict=none
def tabW(tb:List (Str×Int)):W->Option W
 |.str s=>if PySem.W.kdpHas tb s=true then some (.int (PySem.W.kdpLook tb s 0))else none
 |_=>none
section
variable{e k:Expr}{dk:Den W}{p:Pos}{x:Str}{d:Addr}{tb:List (Str×Int)}
def rTab(d:Addr)(tb:List (Str×Int)):R2:=fun x y H Q=>∃s,x=.ref d/\y=.str s/\PySem.W.kdpHas tb s=true/\Q (.int (PySem.W.kdpLook tb s 0)) H
theorem z2p(T:TabK X.prog X.w X.K d tb):IxR X (rTab d tb):=by
 intro value slice pins s σ H x y v u Q I rx ry h hs;obtain⟨z,rfl,rfl,hh,q⟩:=h;cases rx;obtain⟨t,rfl⟩:=ry;obtain⟨o,h1,h2,h3⟩:=T.obj;exact PyProof.Rows.tail_any ⟨o,I.kIn d o h1,h2⟩ F.slot_dict_getitem.lookup (PySem.W.kdp_getItem (T.tab s.heap I.kIn) hh fun t'=>⟨.int _,H,I.tok _,⟨t',rfl⟩,q⟩) hs
theorem y27(T:TabK X.prog X.w X.K d tb)(hm:X.mg x=some (.ref d))(hk:DE Z X EE k dk)(hg:Gl X x:=by rfl)(hd:(x==("__debug__":Str))=false:=by decide)(hs:PlainIx k:=by intro _ _;rfl):
  DE Z X EE (.Subscript (.Name x p) k pos) (dUn (tabW tb) dk):=by
 refine PE.mono (x3r (z2p T) (x1r (v:=.ref d) hg hm rfl hd) hk hs) ?_;rintro σ H Q ⟨G,e,rel,h⟩;simp only[dUn,R.holds_bind,ofOpt_holds]at h;refine⟨G,e,rel,h.imp (fun w e1 h G1 v1 H1 r1 s1 p1=>?_) fun _ _ h=>h⟩
 obtain⟨w',hw,h⟩:=h;unfold tabW at hw;split at hw
 ·split at hw
  ·rename_i hh;cases hw;cases p1;exact⟨_,rfl,rfl,hh,h G1 _ H1 r1 s1 rfl⟩
  ·cases hw
 ·cases hw
end
section
variable{e:List S}{w:W}
def putC(i:Nat)(e:List S)(b:Option Nat)(ws:List W)(w:W):Option Nat->SR
 |some j=>.nx (e.set i (.own b (ws.set j w)))
 |none=>.no
def putB(i:Nat)(e:List S)(w:W):W->Option S->SR
 |.int k,some (.own b ws)=>putC i e b ws w (ixN ws.length k)
 |_,_=>.no
def putA(i:Nat)(dk:Den W)(w:W)(e:List S):Option S->SR
 |some (.own _ _)=>(dk e).stm fun k e2=>putB i e2 w k e2[i]?
 |_=>.no
theorem y28:putA i dk w e (some (.own b ws))=(dk e).stm fun k e2=>putB i e2 w k e2[i]?:=rfl
theorem y29:putB i e w (.int k) (some (.own b ws))=putC i e b ws w (ixN ws.length k):=rfl
theorem x92:putC i e b ws w (some j)=.nx (e.set i (.own b (ws.set j w))):=rfl
def lendC(e:List S):FR->R W
 |.ok (.fr w)=>if scalW w=true then .ok w e else .no
 |_=>.no
def lendB(F:List W->FR)(us:List W)(e:List S):Option S->R W
 |some (.own _ ws)=>lendC e (F (.lst ws::us))
 |_=>.no
def lendA(F:List W->FR)(i:Nat)(dA:Den (List W))(e:List S):Option S->R W
 |some (.own _ _)=>(dA e).bind fun us e1=>lendB F us e1 e1[i]?
 |_=>.no
theorem y7m:dLend F i dA e=lendA F i dA e e[i]?:=by
 unfold dLend lendA;cases e[i]? with
 |none=>rfl
 |some s=>cases s with
  |own b ws=>
   dsimp only;congr 1
  |_=>rfl
theorem x93:lendA F i dA e (some (.own b ws))=(dA e).bind fun us e1=>lendB F us e1 e1[i]?:=rfl
theorem x94:lendB F us e (some (.own b ws))=lendC e (F (.lst ws::us)):=rfl
theorem y3a:lendC e (.ok (.fr w))=if scalW w=true then .ok w e else .no:=rfl
def extB(i:Nat)(e:List S)(b:Option Nat)(xs:List W):Option (List W)->SR
 |some ys=>if xs.length+ys.length<=16777216 then .nx (e.set i (.own b (xs++ys)))else .no
 |none=>.no
def extA(i:Nat)(e:List S):List W->Option S->SR
 |[w],some (.own b xs)=>extB i e b xs (seqW w)
 |_,_=>.no
def ext0(i:Nat)(d:Den (List W))(e:List S):Option S->SR
 |some (.own _ _)=>(d e).stm fun ws e1=>extA i e1 ws e1[i]?
 |_=>.no
theorem z2q{d:Den (List W)}:dExt i d e=ext0 i d e e[i]?:=by
 unfold dExt ext0;cases e[i]? with
 |none=>rfl
 |some s=>cases s with
  |own b ws=>
   dsimp only;congr 1
  |_=>rfl
theorem y3b{d:Den (List W)}:ext0 i d e (some (.own b xs))=(d e).stm fun ws e1=>extA i e1 ws e1[i]?:=rfl
theorem y3c:extA i e [w] (some (.own b xs))=extB i e b xs (seqW w):=rfl
theorem x95:extB i e b xs (some ys)=if xs.length+ys.length<=16777216 then .nx (e.set i (.own b (xs++ys)))else .no:=rfl
theorem y7n:dMeth T f d dA e=(d e).bind fun x e1=>if kindW T x=true then(dA e1).bind fun ws e2=>ofOpt (f x ws) e2 else .no:=rfl
theorem z2r:kindW "str" (.str z)=true:=rfl
theorem z2s:kindW "list" (.lst ws)=true:=rfl
theorem z2t{i:Str}:ltS (.str i) (.str j)=some (.bl (decide (i.cps.toList<j.cps.toList))):=rfl
theorem le_str{i:Str}:leS (.str i) (.str j)=some (.bl (!decide (j.cps.toList<i.cps.toList))):=rfl
end
def forP(i j:Nat)(b:List S->SR):List (W×W)->List S->SR
 |[],e=>.nx e
 |p::ps,e=>(b ((e.set i (.fr p.1)).set j (.fr p.2))).turnT (forP i j b ps)
def dForP(i j:Nat)(d:Den (List (W×W)))(b:List S->SR):List S->SR:=fun e=>(d e).stm fun ps e1=>forP i j b ps e1
structure Walk2(K:PySem.W.Frag)(G1:Hp)(J:It)(ps:List (W×W)):Prop where
 go:∀(i:Nat)(G H:Hp),Same G1 G->Same G H->i<ps.length->J.go i H
 yld:∀(i:Nat)(G H:Hp)(x:V)(H':Hp),Same G1 G->Same G H->J.yld i H x H'->∀u v,ps[i]?=some (u,v) ->
  Grow G H G H'/\∀(m n:Nat)(σ:St)(Q:St->Hp->Prop),(∀y z,Rep K G u y->Rep K G v z->Q ((σ.set m (some y)).set n (some z)) H')->gTup K 2 (gCons (gName m) (gCons (gName n) gNil)) x σ H' Q
 stop:∀(i:Nat)(G H:Hp),Same G1 G->Same G H->ps.length<=i->J.stop i H
def liftI(K:PySem.W.Frag)(Z:Zt)(EE:L2.St->XK)(d:Den (List (W×W))):TI:=fun σ H R=>AtG K Z σ H fun G e=>(d e).holds (fun ps e1=>∀G1 H1 J,Rel K Z G1 σ H1 e1->Same G G1->Walk2 K G1 J ps->R J H1) (XH K Z EE σ G)
def DI(Z:Zt)(X:Cx)(EE:L2.St->XK)(tg iter:Expr)(d:Den (List (W×W))):Prop:=PI X tg iter (liftI X.K Z EE d)
theorem PI.mono(h:PI X tg iter wi)(m:∀σ H R,wi' σ H R->wi σ H R):PI X tg iter wi':=fun pins s σ H R I q=>h pins s σ H R I (m σ H R q)
theorem x96(r:Rel K Z G' σ H e)(s:Same G1 G')(pu:Rep K G' p.1 x)(pv:Rep K G' p.2 y)
  (h:PostS K Z EE D G1 (forP i j s1 (p::ps) e))(hP:∀G'' σ'' H'' e'',Rel K Z G'' σ'' H'' e''->Same G1 G''->PostS K Z EE D G1 (forP i j s1 ps e'')->Pv σ'' H''):
  liftS K Z EE s1 {D with nx:=Pv,ct:=Pv,bk:=D.nx} ((σ.set i (some x)).set j (some y)) H:=by
 refine⟨G',_,(r.set pu).set pv,?_⟩;unfold forP at h;cases q:s1 ((e.set i (.fr p.1)).set j (.fr p.2))with
 |nx e'=>rw[q]at h;exact fun G'' σ'' H'' r'' s''=>hP G'' σ'' H'' e' r'' (s.trans s'') h
 |ct e'=>rw[q]at h;exact fun G'' σ'' H'' r'' s''=>hP G'' σ'' H'' e' r'' (s.trans s'') h
 |bk e'=>rw[q]at h;exact fun G'' σ'' H'' r'' s''=>h G'' σ'' H'' r'' (s.trans s'')
 |rt t e'=>rw[q]at h;exact fun G'' σ'' v H'' r'' s'' p=>h G'' σ'' v H'' r'' (s.trans s'') p
 |ex c e'=>rw[q]at h;exact fun G'' σ'' H'' r'' s''=>h G'' σ'' H'' r'' (s.trans s'')
 |no=>rw[q]at h;exact h
theorem x7y{ps:List (W×W)}(h:ps[k]?=some p):ps.drop k=p::ps.drop (k+1):=by
 grind [List.drop_eq_getElem_cons]
section
variable{elt iter e a:Expr}{body:List Stmt}{ifs:List Expr}{scope sc:Scope}{pt p3:Pos}{x y:Str}{Nf N:List Str}{di:Den (List (W×W))}{c:Den Bool}{s1:List S->SR}
theorem q9i(i j:Nat)(hN:X.N.Nodup)(hp:PassesOwn (model X.prog X.w) X.A X.env X.xe)(hc:X.calm=true)(hl:DI Z X EE (.Tuple [.Name x p1,.Name y p2] kt p3) e di)(hb:DSs Z X EE body s1)
  (hi:X.N[i]?=some x:=by rfl)(hx:Loc X.env.scope x:=by walk_at "3")(hf:X.fn x=true\/X.env.scope.names.lookup x=some .local:=by walk_at "2")
  (hj:X.N[j]?=some y:=by rfl)(hy:Loc X.env.scope y:=by walk_at "3")(hf':X.fn y=true\/X.env.scope.names.lookup y=some .local:=by walk_at "2")
  (hn:(assignEach [.Name x p1,.Name y p2] X.env).length=2:=by rfl)(hst:(assignEach [.Name x p1,.Name y p2] X.env).findIdx? (·.1)=none:=by rfl)
  (g1:(assignEach [.Name x p1,.Name y p2] X.env).map (·.2)=assign (.Name x p1) X.env::(assignEach [.Name y p2] X.env).map (·.2):=by rfl)(g2:(assignEach [.Name y p2] X.env).map (·.2)=assign (.Name y p2) X.env::(assignEach [] X.env).map (·.2):=by rfl)
  (hs:∀x,foldedSetIterable e X.env x=pure x:=by intro _;rfl):
  DS Z X EE (.For (.Tuple [.Name x p1,.Name y p2] kt p3) e body [] pos) (dForP i j di s1):=by
 refine PS.mono (x0r hp hc hl (y94 hc (x35 (q2q i hN hi hx hf) (x35 (q2q j hN hj hy hf') y5z g2) g1) hn hst) hb hs) ?_;rintro D σ H ⟨G,e,rel,h⟩;refine⟨G,e,rel,(q0x h).imp (fun ps e1 h G1 H1 J r1 q1 W0=>?_) fun _ _ h=>h⟩
 have h:=PostS.trans q1 h;refine⟨fun k m σ' H'=>m=ps.length-k/\k<=ps.length/\∃G' e',Rel X.K Z G' σ' H' e'/\Same G1 G'/\PostS X.K Z EE D G1 (forP i j s1 (ps.drop k) e'),⟨ps.length,by omega,w1c _,G1,e1,r1,.refl _,h⟩,?_⟩
 rintro k m σ' H' ⟨rfl,hk,G',e',r',s',h'⟩
 by_cases hlt:k<ps.length
 ·refine .inr ⟨W0.go k G' H' s' r'.sub hlt,fun σ'' H''=>∃G' e',Rel X.K Z G' σ'' H'' e'/\Same G1 G'/\PostS X.K Z EE D G1 (forP i j s1 (ps.drop (k+1)) e'),?_,fun v H2 hy=>?_⟩
  ·rintro σ'' H'' ⟨G'',e'',r'',s'',h''⟩;exact⟨ps.length-(k+1),by omega,rfl,hlt,G'',e'',r'',s'',h''⟩
  ·have hp:ps[k]?=some ((ps[k]).1,(ps[k]).2):=by grind
   obtain⟨g3,hgo⟩:=W0.yld k G' H' v H2 s' r'.sub hy _ _ hp;rw[x7y hp]at h';exact hgo i j σ' _ fun y z py pz=>x96 (p:=((ps[k]).1,(ps[k]).2)) (r'.grow g3) s' py pz h' fun G'' σ'' H'' e'' r'' s'' h''=>⟨G'',e'',r'',s'',h''⟩
 ·have:k=ps.length:=by omega
  subst this;rw[w3l]at h';exact .inl ⟨W0.stop _ G' H' s' r'.sub (by omega),h' G' σ' H' r' s'⟩
def pairsW:List W->Option (List (W×W))
 |[]=>some []
 |.tup [u,v]::ws=>(pairsW ws).map ((u,v)::·)
 |_=>none
def srcP(d:Den W):Den (List (W×W)):=fun e=>(d e).bind fun w e1=>match seqW w with
 |some ws=>ofOpt (pairsW ws) e1
 |none=>.no
theorem x2s:∀{ws:List W}{ps:List (W×W)},pairsW ws=some ps->ws.length=ps.length/\∀(i:Nat) u v,ps[i]?=some (u,v)->ws[i]?=some (.tup [u,v])
 |[],ps,h=>by cases h;grind
 |w::ws,ps,h=>by
  unfold pairsW at h;split at h
  ·rename_i z;cases z
  ·rename_i u v ws' z;cases z;obtain⟨q,hq,rfl⟩:=w0t.mp h;obtain⟨h1,h2⟩:=x2s hq
   grind
  ·cases h
theorem x2t(W0:Walk J xs SQ)(rp:Reps K G1 ws xs)(hp:pairsW ws=some ps)(hSQ:∀G' H',Same G1 G'->Same G' H'->SQ H'):Walk2 K G1 J ps:=by
 obtain⟨hl,hg⟩:=x2s hp;have hx:=rp.length;refine⟨fun i G H a b h=>W0.go i H (hSQ G H a b) (by omega),fun i G H x H' a b hy u v h=>?_,fun i G H a b h=>W0.stop i H (hSQ G H a b) (by omega)⟩
 have hlt:i<ps.length:=(w0n.mp h).1;obtain⟨rfl,hx'⟩:=W0.yld i H x H' (hSQ G H a b) hy (by omega);refine⟨Grow.refl b,fun m n σ Q hQ=>?_⟩
 obtain⟨w,hw,pw⟩:=rp.getV hx';rw[hg i u v h]at hw;cases hw;have pw:=Rep.mono a _ pw;obtain⟨c,ys,rfl,hq,y1,q1,rfl,p1,y2,q2,rfl,p2,rfl⟩:=pw;exact⟨c,[y1,y2],rfl,b.tup hq,rfl,y1,[y2],rfl,y2,[],rfl,rfl,hQ y1 y2 p1 p2⟩
theorem x4v(hl:DE Z X EE l d0):DI Z X EE tg l (srcP d0):=by
 refine PI.mono (x0z hl) ?_;rintro σ H RR ⟨G,e,rel,h⟩;simp only[srcP,R.holds_bind]at h;refine⟨G,e,rel,h.imp (fun w e1 h G1 v1 H1 r1 s1 p1=>?_) fun _ _ h=>h⟩
 split at h
 ·rename_i ws hw;obtain⟨ps,hp,h⟩:=ofOpt_holds.mp h;cases w with
  |tup us=>
   cases hw;obtain⟨a,xs,rfl,hq,rp⟩:=p1;exact⟨a,rfl,.inr ⟨⟨xs,r1.sub.tup hq⟩,h _ _ _ r1 s1 (x2t x9j rp hp fun G' H' s s'=>Same.tup s' (Same.tup s hq))⟩⟩
  |lst us=>
   cases hw;obtain⟨a,xs,rfl,hq,rp⟩:=p1;exact⟨a,rfl,.inl ⟨⟨xs,r1.sub.seq hq⟩,h _ _ _ r1 s1 (x2t x9i rp hp fun G' H' s s'=>Same.seq s' (Same.seq s hq))⟩⟩
  |_=>cases hw
 ·exact h.elim
def enumL:Nat->List W->List (W×W)
 |_,[]=>[]
 |k,w::ws=>(.int k,w)::enumL (k+1) ws
def srcE(dA:Den (List W)):Den (List (W×W)):=fun e=>(dA e).bind fun ws e1=>match ws with
 |[.lst us]=>.ok (enumL 0 us) e1
 |_=>.no
theorem q8r:∀(k:Nat)(ws:List W),(enumL k ws).length=ws.length
 |_,[]=>rfl
 |k,w::ws=>by simp[enumL,q8r (k+1) ws]
theorem q8s:∀(k:Nat)(ws:List W)(i:Nat)(u v:W),(enumL k ws)[i]?=some (u,v)->u=.int ((k+i:Nat):Int)/\ws[i]?=some v
 |_,[],i,u,v,h=>by simp[enumL]at h
 |k,w::ws,i,u,v,h=>by
  cases i with
  |zero=>
   have e:(W.int k,w)=(u,v):=Option.some.inj h
   grind
  |succ i=>
   have h:(enumL (k+1) ws)[i]?=some (u,v):=h;obtain⟨h1,h2⟩:=q8s (k+1) ws i u v h
   grind
def Ite(K:PySem.W.Frag)(a:Addr):It:=
 ⟨fun i H=>∃xs x,SqL K H a xs/\xs[i]?=some x,fun i H x H'=>∃b y,x=.ref b/\H b=none/\(∀xs,SqL K H a xs->xs[i]?=some y)/\H'=upd H b (.tup [.int i,y]),fun i H=>∃xs,SqL K H a xs/\xs.length<=i⟩
theorem x2u{fp:List Addr}{b:Addr}(I:Inv X pins σ H s)(k:∀b o,b∉fp->s.heap.get? b=some o->h'.get? b=some o)(hf:∀b∈fp,FpOk X pins H b)(hp:s.heap.objs.size<=b)(new:ObjOk X.prog X.w (upd H b o) h' b o):Inv X pins σ (upd H b o) {s with heap:=h',toks:=t'}:=by
 have hn:H b=none:=I.hok.fresh hp;have ne:∀c u,H c=some u->c≠b:=fun c u e=>q0o e hn
 have nfp:∀c u,H c=some u->c∉fp:=fun c u e z=>by rw[(hf c z).1]at e;cases e
 have lt:∀c o,s.heap.get? c=some o->c≠b:=fun c o e=>w0u (w0w (Heap.lt_size e) hp)
 refine I.step (g':=s.gens) (d':=s.drawn) (ch:=fp) (fun c hc=>?_) (fun c o _ _ hc e _=>k c o hc e) (fun c o _ _ hc e _=>⟨o.slots,k c o hc e⟩) (fun c o _ e n=>by grind [q0f])
  (fun c o hc e=>⟨o,k c o hc e⟩) (fun c xs e=>by grind [q0f]) (fun c o u e=>by grind [q0f]) (fun c ps e=>⟨#[],by grind [q0f]⟩) (fun m hm=>?_) (fun c u e=>?_) I.bare
 ·obtain⟨f0,f1,f2,f3,f4,f5⟩:=hf c hc
  grind
 ·obtain⟨o,es,ep,ho,r⟩:=hm;exact⟨o,es,ep,k _ o (fun z=>(hf _ z).2.1 rfl) ho,r⟩
 ·by_cases hb:c=b
  ·grind [q0j]
  ·rw[q0f hb]at e;refine(I.hok c u e).stay (fun d v hd q=>k d v ?_ q) (fun d q=>by grind [q0f]) fun d xs _ q=>by grind [q0f]
   grind
theorem x97(a e it)(hne:e≠it):Turn P w K (.Tuple elts kt pt) (Ite K a) [e,it] e (fun i h=>∃old,PySem.IsEnum h e it (i:Nat) old/\h.IsListIter it a i) where
 mem:=by simp
 obj:=fun i h ⟨old,st1,st2⟩ b hb=>by
  simp only[w0d,w0o,or_false]at hb;rcases hb with rfl|rfl
  ·grind
  ·obtain⟨o,e,c,d⟩:=st2
   grind
 keep:=fun i h h' ⟨old,st1,st2⟩ k=>⟨old,k e (by simp) _ st1,st2.at fun o e=>k it (by simp) o e⟩
 item:=by
  intro X hP hw hK hc i pins s σ H E I hf st hg;subst hP hw hK;obtain⟨old,st1,st2⟩:=st;obtain⟨xs,x,hq,hx⟩:=hg;obtain⟨its,rv,p,hz⟩:=I.list hq;obtain⟨u,hu,ru⟩:=rv.get hx;refine wpAny_pyNext_enum_item st1 st2 p.isList (x:=u) (by simpa using hu) hne fun h1 heo hit1 ht1 hz1 hk1=>⟨_,rfl,?_⟩
  refine wpAny_letOwnedTupleGo_enum heo fun h2 he2 hs2=>?_
  have hs2:Heap.SameBut e h1 h2:=hs2;have hlt:e<s.heap.objs.size:=Heap.lt_size st1;have hfr:H s.heap.objs.size=none:=I.hok.fresh (w0b _);have ht2:h2.get? s.heap.objs.size=some {cls:=.type "tuple", data:=.seq #[.int i s.toks,u]}:=(hs2.2 _ (w2r hlt)).trans ht1;refine⟨.ref s.heap.objs.size,upd H s.heap.objs.size (.tup [.int i,x]),?_,rfl,⟨_,x,rfl,hfr,fun ys hy=>by rw[I.list_inj hy hq];exact hx,rfl⟩,⟨u,he2,?_⟩,fun b hb=>?_⟩
  ·show L2.Inv X pins σ _ {s with heap:=h2,toks:=s.toks+1};refine x2u (fp:=[e,it]) I (fun b o hb q=>?_) hf (w0b _) ⟨?_,[.int i s.toks,u],.cons ⟨_,rfl⟩ (.cons ru .nil),⟨_,ht2,rfl,?_⟩,⟨_,ht2,rfl⟩⟩
   ·simp only[w0d,w0o,or_false,not_or]at hb;exact(hs2.2 b hb.1).trans (hk1 b o hb.1 hb.2 q)
   all_goals grind [sizeLine_eq]
  ·exact hit1.at fun o q=>(hs2.2 it (Ne.symm hne)).trans q
  ·have:b≠s.heap.objs.size:=by
    obtain⟨o,q,_⟩:∃o,s.heap.get? b=some o/\True:=by
     simp only[w0d,w0o,or_false]at hb;rcases hb with rfl|rfl
     ·grind
     ·obtain⟨o,e,_⟩:=st2;grind
    exact w0u (Heap.lt_size q)
   rw[q0f this];exact(hf b hb).1
 done:=by
  intro X hP hw hK hc i pins s σ H E I hf st hg;subst hP hw hK;obtain⟨old,st1,st2⟩:=st;obtain⟨xs,hq,hx⟩:=hg;obtain⟨its,rv,p,hz⟩:=I.list hq;obtain⟨f0,f1,f2,f3,f4,f5⟩:=hf it (by simp);have hl:=rv.length;exact wpAny_pyNext_enum_end (I.ok.hd hc) st1 st2 p.isList (by simp;omega) fun h' eb=>⟨rfl,I.turned (t':=s.toks) (fun b o hb e=>eb b o hb e) f0 f1 f3 f4 f5⟩
 self:=fun _ _ _ _ _ ⟨old,st1,_⟩ h=>wpAny_pyIter_enum st1 h
def iEnum(K:PySem.W.Frag)(ta:TA):TI:=fun σ H R=>ta σ H fun vs H1=>∃a,vs=[.ref a]/\(∃xs,SqL K H1 a xs)/\R (Ite K a) H1
theorem y7o{elts:List Expr}{ta:TA}{p:Pos}(hg:Gl X "enumerate")(hm:X.mg "enumerate"=none)(ha:PA X [a] ta)(hs:starEach [a] X.env=[(false,eval a X.env)]:=by rfl):PI X (.Tuple elts kt pt) (.Call (.Name "enumerate" p) [a] [] pos) (iEnum X.K ta):=by
 intro pins s σ H R I h;refine PyProof.Rows.Call_ (q41 I hg hm PyProof.Rows.boot_enumerate (PyProof.Rows.callWith_type1 (thn (ha pos pins s σ H _ I h) fun us s1 ⟨vs,H1,I1,r1,q1⟩=>?_) hs rfl))
 obtain⟨l,e,⟨xs,hq⟩,q⟩:=q1;subst e;cases r1 with
 |cons r rr=>
  cases rr;cases r;obtain⟨its,rv,p,hz⟩:=I1.list hq;refine call_enumerate_list p.isList fun h' he hit hsz hk=>?_
  refine wpAny_pyIter_enum he ?_;refine⟨s1.heap.objs.size+1,[s1.heap.objs.size+1,s1.heap.objs.size],_,_,H1,rfl,I1.kept (t':=s1.toks) hk,x97 l _ _ (w4j _),⟨_,he,hit⟩,fun b hb=>?_,q⟩
  simp only[w0d,w0o,or_false]at hb;rcases hb with rfl|rfl
  ·exact I1.fpOk (by omega) (I1.hok.fresh (by omega))
  ·exact I1.fpOk (w0b _) (I1.hok.fresh (w0b _))
theorem x7z(rp:Reps K G1 ws xs)(hq:SqL K G1 b xs):Walk2 K G1 (Ite K b) (enumL 0 ws):=by
 have hx:=rp.length;have hl:=q8r 0 ws;refine⟨fun i G H s s' h=>⟨xs,xs[i]'(by omega),Same.seq s' (Same.seq s hq),by simp⟩,fun i G H x H' s s' hy u v h=>?_,fun i G H s s' h=>⟨xs,Same.seq s' (Same.seq s hq),by omega⟩⟩
 obtain⟨c,y,rfl,hn,hx',rfl⟩:=hy;obtain⟨hu,hv⟩:=q8s 0 ws i u v h;obtain⟨w,hw,pw⟩:=rp.getV (hx' xs (Same.seq s' (Same.seq s hq)));rw[hv]at hw;cases hw;refine⟨Grow.hid s' hn _,fun m n σ Q hQ=>⟨c,[.int i,y],rfl,SqT.of q0j,rfl,.int i,[y],rfl,y,[],rfl,rfl,hQ _ _ ?_ (Rep.mono s _ pw)⟩⟩
 rw[hu,w4o];exact rfl
theorem y7p{elts:List Expr}{p:Pos}(hm:X.mg "enumerate"=none)(ha:DA Z X EE [a] dA)(hg:Gl X "enumerate":=by rfl)(hs:starEach [a] X.env=[(false,eval a X.env)]:=by rfl):DI Z X EE (.Tuple elts kt pt) (.Call (.Name "enumerate" p) [a] [] pos) (srcE dA):=by
 refine PI.mono (y7o hg hm ha hs) ?_;rintro σ H RR ⟨G,e,rel,h⟩;simp only[srcE,R.holds_bind]at h;refine⟨G,e,rel,h.imp (fun ws e1 h G1 vs H1 r1 s1 p1=>?_) fun _ _ h=>h⟩
 split at h
 ·rename_i us;obtain⟨y,r,rfl,e1,e2⟩:=p1;cases(show r=[]from e2);obtain⟨b,xs,rfl,hq,rp⟩:=e1;exact⟨b,rfl,⟨xs,r1.sub.seq hq⟩,h _ _ _ r1 s1 (x7z rp hq)⟩
 ·exact h.elim
end
section
variable{e:List S}{w:W}{ps:List (W×W)}{c:Prop} [Decidable c]{s t:SR}{k:List S->SR}{st:S}
theorem y7q:dForP i j di b e=(di e).stm fun ps e1=>forP i j b ps e1:=rfl
theorem q3r:forP i j b (p::ps) e=(b ((e.set i (.fr p.1)).set j (.fr p.2))).turnT (forP i j b ps):=rfl
theorem q1f:(SR.nx e).turnT k=k e:=rfl
theorem y3d:(SR.ct e).turnT k=k e:=rfl
theorem y3e:(SR.bk e).turnT k=.nx e:=rfl
theorem y3f:(SR.rt st e).turnT k=.rt st e:=rfl
theorem y3g:(SR.ex v e).turnT k=.ex v e:=rfl
theorem y3h:(SR.no).turnT k=.no:=rfl
theorem x98:(if c then s else t).turnT k=if c then s.turnT k else t.turnT k:=by split<;>rfl
def srcEW(e:List S):List W->R (List (W×W))
 |[.lst us]=>.ok (enumL 0 us) e
 |_=>.no
theorem z2u:srcE dA e=(dA e).bind fun ws e1=>srcEW e1 ws:=by
 unfold srcE;congr 1
theorem y7r:srcEW e [.lst ws]=.ok (enumL 0 ws) e:=rfl
def srcPW(e:List S):Option (List W)->R (List (W×W))
 |some ws=>ofOpt (pairsW ws) e
 |none=>.no
theorem z2v:srcP d e=(d e).bind fun w e1=>srcPW e1 (seqW w):=by
 unfold srcP;congr 1
theorem x70:srcPW e (some ws)=ofOpt (pairsW ws) e:=rfl
end
section
variable{w:World}{s:Shared}
theorem q8t(gi:s.heap.IsTupleIter j b k)(gt:s.heap.IsTuple b vs)(gx:vs[k]?=some x)
  (hQ:∀h',h'.IsTupleIter j b (k+1)->Heap.SameBut j s.heap h'->Q x {s with heap:=h'}):wpAny (model prog w) A (Builtin.SmallTypes.nextOf (.ref j)) Q E s:=by
 obtain⟨o,ho,hc,hd⟩:=id gi;obtain⟨ot,hot,_,m,hdt⟩:=gt;unfold Builtin.SmallTypes.nextOf;refine wpAny_bind (wpAny_callSpecial?_slot (name:=Str.ofString "__next__") gi.typeIs F.slot_tuple_iterator_next (wpAny_call_entry F.slot_tuple_iterator_next gi.typeIs F.entry_tuple_iterator_next ?_ (F.args_tuple_iterator_next_1 _)));show wpAny _ _ (field (.ref j) 0 >>= _) _ _ s;refine wpAny_bind (wpAny_field ho hd (x:=.ref b) rfl ?_);show wpAny _ _ (if(Value.ref b==Value.none)=true then _ else _) _ _ s;rw[if_neg (show ¬((Value.ref b==Value.none)=true)from w1k)];show wpAny _ _ (field (.ref j) 1 >>= _) _ _ s;refine wpAny_bind (wpAny_field ho hd (x:=.int k 0) rfl ?_);show wpAny _ _ (seqItems? (.ref b) >>= _) _ _ s;refine wpAny_bind (wpAny_seqItems hot hdt ?_);simp only[w2f,gx];refine wpAny_bind (wpAny_setField ho hd (by simp) (wpAny_pure ⟨x,rfl,wpAny_pure (hQ _ ⟨_,Heap.get?_update_self _ ho (Obj.isFreed_of_fields (Obj.data_mapFields hd _)),(Obj.cls_mapFields ..).trans hc,by grind [Obj.data_mapFields,rawInt]⟩ (Heap.SameBut.update ..))⟩))
theorem q7a(hh:A.handled=none)(gi:s.heap.IsTupleIter j b k)(gt:s.heap.IsTuple b vs)(gx:vs[k]?=none)
  (hE:∀h' e,Heap.ExtBut j s.heap h'->(∃o,h'.get? e=some o/\o.cls=.type "StopIteration")->E (.ref e) {s with heap:=h'}):wpAny (model prog w) A (Builtin.SmallTypes.nextOf (.ref j)) Q E s:=by
 obtain⟨o,ho,hc,hd⟩:=id gi;obtain⟨ot,hot,_,m,hdt⟩:=gt;unfold Builtin.SmallTypes.nextOf;refine wpAny_bind (wpAny_callSpecial?_slot (name:=Str.ofString "__next__") gi.typeIs F.slot_tuple_iterator_next (wpAny_call_entry F.slot_tuple_iterator_next gi.typeIs F.entry_tuple_iterator_next ?_ (F.args_tuple_iterator_next_1 _)));show wpAny _ _ (field (.ref j) 0 >>= _) _ _ s;refine wpAny_bind (wpAny_field ho hd (x:=.ref b) rfl ?_);show wpAny _ _ (if(Value.ref b==Value.none)=true then _ else _) _ _ s;rw[if_neg (show ¬((Value.ref b==Value.none)=true)from w1k)];show wpAny _ _ (field (.ref j) 1 >>= _) _ _ s;refine wpAny_bind (wpAny_field ho hd (x:=.int k 0) rfl ?_);show wpAny _ _ (seqItems? (.ref b) >>= _) _ _ s;refine wpAny_bind (wpAny_seqItems hot hdt ?_);simp only[w2f,gx];refine wpAny_bind (wpAny_rule (wpAny_bind (wpAny_setField ho hd (by simp) ?_)));show wpAny _ _ (newExc (.type "StopIteration") [] >>= _) _ _ _;refine wpAny_bind ?_;simp only[newExc,newTuple];refine wpAny_bind (wpAny_newObj_type ?_ (by size_fits));refine wpAny_bind (m:=firstArgMember _ _) (wpAny_of_eq (a:=Value.none) (by first|rfl|(simp only[firstArgMember];rfl)) (wpAny_newObj_type ?_ (by size_fits)));simp only[raiseNew];refine wpAny_bind (wpAny_handled ?_)
 first|rw[show A.in1.handled=none from hh]|rw[hh]
 refine wpAny_bind (wpAny_pure (wpAny_throw (hE _ _ (((Heap.SameBut.update ..).extBut.push _).push _) ⟨_,Heap.get?_push_size _ rfl,rfl⟩)))
def IsIt(t:Bool)(j b:Addr)(k:Nat)(h:Heap):Prop:=if t=true then h.IsTupleIter j b k else h.IsListIter j b k
def IsSq(t:Bool)(b:Addr)(vs:Array Value)(h:Heap):Prop:=if t=true then h.IsTuple b vs else h.IsList b vs
theorem IsIt.keep(x:IsIt t j b k h)(e:∀o,h.get? j=some o->h'.get? j=some o):IsIt t j b k h':=by
 cases t with
 |true=>obtain⟨o,ho,r⟩:=(show h.IsTupleIter j b k from x);exact⟨o,e o ho,r⟩
 |false=>obtain⟨o,ho,r⟩:=(show h.IsListIter j b k from x);exact⟨o,e o ho,r⟩
theorem IsSq.keep(x:IsSq t b vs h)(e:∀o,h.get? b=some o->h'.get? b=some o):IsSq t b vs h':=by
 cases t with
 |true=>obtain⟨o,ho,r⟩:=(show h.IsTuple b vs from x);exact⟨o,e o ho,r⟩
 |false=>obtain⟨o,ho,r⟩:=(show h.IsList b vs from x);exact⟨o,e o ho,r⟩
theorem q6n(gi:IsIt t j b k s.heap)(gt:IsSq t b vs s.heap)(gx:vs[k]?=some x)
  (hQ:∀h',IsIt t j b (k+1) h'->Heap.SameBut j s.heap h'->Q x {s with heap:=h'}):wpAny (model prog w) A (Builtin.SmallTypes.nextOf (.ref j)) Q E s:=by
 cases t with
 |true=>exact q8t gi gt gx hQ
 |false=>exact wpAny_nextOf_list_item gi gt gx hQ
theorem x06(hh:A.handled=none)(gi:IsIt t j b k s.heap)(gt:IsSq t b vs s.heap)(gx:vs[k]?=none)
  (hE:∀h' e,Heap.ExtBut j s.heap h'->(∃o,h'.get? e=some o/\o.cls=.type "StopIteration")->E (.ref e) {s with heap:=h'}):wpAny (model prog w) A (Builtin.SmallTypes.nextOf (.ref j)) Q E s:=by
 cases t with
 |true=>exact q7a hh gi gt gx hE
 |false=>exact wpAny_nextOf_list_end hh gi gt gx hE
structure Apart(z I O i j a b:Addr):Prop where
 Iz:I≠z
 Oz:O≠z
 iz:i≠z
 jz:j≠z
 IO:I≠O
 Ii:I≠i
 Ij:I≠j
 Oi:O≠i
 Oj:O≠j
 ij:i≠j
 az:a≠z
 aO:a≠O
 ai:a≠i
 aj:a≠j
 bz:b≠z
 bO:b≠O
 bi:b≠i
 bj:b≠j
theorem y7s{i:Addr}{q:Value}{Q:Value->Shared->Prop}(D:Apart z I O i j a b)
  (gz:IsZip s.heap z I O .none)(gI:IsPair s.heap I (.ref i) (.ref j))(gO:IsPair s.heap O p q)
  (g1:IsIt t i a k s.heap)(g2:IsIt u j b k s.heap)(l1:IsSq t a xs s.heap)(l2:IsSq u b ys s.heap)(hx:xs[k]?=some x)(hy:ys[k]?=some y)
  (hQ:∀h',IsZip h' z I O (rawInt s.heap.objs.size)->IsPair h' O x y->IsIt t i a (k+1) h'->IsIt u j b (k+1) h'->IsPair h' s.heap.objs.size x y->h'.objs.size=s.heap.objs.size+1 ->
   (∀c o,c≠z->c≠O->c≠i->c≠j->s.heap.get? c=some o->h'.get? c=some o)->Q (.ref s.heap.objs.size) {s with heap:=h'}):
  wpAny (model prog w) A (Builtin.«zip.__next__» ⟨[.ref z],[]⟩) (fun fin s'=>∃v,fin=.done (.ret v)/\Q v s') E s:=by
 show wpAny _ _ (field (.ref z) 2 >>= _) _ _ _;refine wpAny_bind (wpAny_field gz rfl (x:=.bool false) rfl ?_);show wpAny _ _ (field (.ref z) 3 >>= _) _ _ _;refine wpAny_bind (wpAny_field gz rfl (x:=.ref I) rfl (wpAny_bind (wpAny_seqItems gI rfl ?_)));show wpAny _ _ (Builtin.SmallTypes.ownedTupleIsFree (.ref z) >>= _) _ _ _;refine wpAny_bind ?_;unfold Builtin.SmallTypes.ownedTupleIsFree;refine wpAny_bind (wpAny_field gz rfl (x:=.none) rfl (wpAny_pure ?_));simp only[if_true];refine wpAny_bind (wpAny_rule (wpAny_bind (wpAny_field gz rfl (x:=.ref O) rfl (wpAny_bind (wpAny_setField_rec gz (by simp) fun ha za sa=>?_)))))
 replace za:IsZip ha z I O .ellipsis:=za
 refine wpAny_bind ?_;simp only[List.zipIdx_cons,List.zipIdx_nil,w2e,w4a];refine wpAny_bind (wpAny_bind (wpAny_onRaise ?_));show wpAny _ _ (Builtin.SmallTypes.nextOf (.ref i) >>= _) _ _ _;refine wpAny_bind (q6n (s:={s with heap:=ha}) (g1.keep fun o e=>sa.extBut _ _ D.iz e) (l1.keep fun o e=>sa.extBut _ _ D.az e) hx fun hb ib sb=>wpAny_pure ?_)
 have Ob:IsPair hb O p q:=sb.extBut _ _ D.Oi (sa.extBut _ _ D.Oz gO);refine wpAny_bind (wpAny_seqItems Ob rfl (wpAny_bind (wpAny_updateSeq_pair Ob fun hc Oc sc=>?_)))
 replace Oc:IsPair hc O x q:=Oc
 refine wpAny_bind (wpAny_letGo (wpAny_pure (wpAny_bind (wpAny_bind (wpAny_onRaise ?_)))));show wpAny _ _ (Builtin.SmallTypes.nextOf (.ref j) >>= _) _ _ _;refine wpAny_bind (q6n (s:={s with heap:=hc}) (g2.keep fun o e=>sc.extBut _ _ D.Oj.symm (sb.extBut _ _ D.ij.symm (sa.extBut _ _ D.jz e))) (l2.keep fun o e=>sc.extBut _ _ D.bO (sb.extBut _ _ D.bi (sa.extBut _ _ D.bz e))) hy fun hd jd sd=>wpAny_pure ?_)
 have Od:IsPair hd O x q:=sd.extBut _ _ D.Oj Oc;refine wpAny_bind (wpAny_seqItems Od rfl (wpAny_bind (wpAny_updateSeq_pair Od fun he Oe se=>?_)))
 replace Oe:IsPair he O x y:=Oe
 refine wpAny_bind (wpAny_letGo (wpAny_pure (wpAny_pure (wpAny_bind (wpAny_seqItems Oe rfl (wpAny_bind (wpAny_newTuple ?_)))))));have sz:he.objs.size=s.heap.objs.size:=by rw[se.1,sd.1,sc.1,sb.1,sa.1]
 have ze:IsZip he z I O .ellipsis:=se.extBut _ _ D.Oz.symm (sd.extBut _ _ D.jz.symm (sc.extBut _ _ D.Oz.symm (sb.extBut _ _ D.iz.symm za)));have ke:∀c o,c≠z->c≠O->c≠i->c≠j->s.heap.get? c=some o->he.get? c=some o:=fun c o c1 c2 c3 c4 e=>se.extBut _ _ c2 (sd.extBut _ _ c4 (sc.extBut _ _ c2 (sb.extBut _ _ c3 (sa.extBut _ _ c1 e))))
 have ie:IsIt t i a (k+1) he:=ib.keep fun o e=>se.extBut _ _ D.Oi.symm (sd.extBut _ _ D.ij (sc.extBut _ _ D.Oi.symm e))
 have je:IsIt u j b (k+1) he:=jd.keep fun o e=>se.extBut _ _ D.Oj.symm e
 have zlt:z<he.objs.size:=Heap.lt_size ze;show wpAny _ _ (Builtin.SmallTypes.ownedTupleHandOut (.ref z) (.ref he.objs.size) >>= _) _ _ _;refine wpAny_bind ?_;unfold Builtin.SmallTypes.ownedTupleHandOut;have zf:IsZip (he.push {cls:=.type "tuple", data:=.seq #[x,y]}) z I O .ellipsis:=Heap.get?_push_of_some _ ze;refine wpAny_bind (wpAny_setField_rec zf (by simp) fun hg zg sg=>?_)
 replace zg:IsZip hg z I O (rawInt he.objs.size):=zg
 refine wpAny_setField_rec zg (by simp) fun hk zk sk=>?_
 replace zk:IsZip hk z I O (rawInt he.objs.size):=zk
 have up:∀c o,c≠z->he.get? c=some o->hk.get? c=some o:=fun c o c1 e=>sk.extBut _ _ c1 (sg.extBut _ _ c1 (Heap.get?_push_of_some _ e))
 have Tk:IsPair hk he.objs.size x y:=sk.extBut _ _ (w2r zlt) (sg.extBut _ _ (w2r zlt) (Heap.get?_push_size _ rfl));have nk:hk.objs.size=he.objs.size+1:=by rw[sk.1,sg.1,Heap.size_push]
 rw[sz]at zk Tk nk;refine wpAny_pure ⟨_,rfl,?_⟩;show Q (.ref he.objs.size) _;rw[sz];exact hQ hk zk (up _ _ D.Oz Oe) (ie.keep fun o e=>up _ o D.iz e) (je.keep fun o e=>up _ o D.jz e) Tk nk fun c o c1 c2 c3 c4 e=>up c o c1 (ke c o c1 c2 c3 c4 e)
theorem z2w{i:Addr}{q:Value}(hh:A.handled=none)(D:Apart z I O i j a b)
  (gz:IsZip s.heap z I O .none)(gI:IsPair s.heap I (.ref i) (.ref j))(gO:IsPair s.heap O p q)
  (g1:IsIt t i a k s.heap)(g2:IsIt u j b k s.heap)(l1:IsSq t a xs s.heap)(l2:IsSq u b ys s.heap)(hend:xs[k]?=none\/ys[k]?=none)
  (hE:∀h' e,(∀c o,c≠z->c≠O->c≠i->c≠j->s.heap.get? c=some o->h'.get? c=some o)->(∃o,h'.get? e=some o/\o.cls=.type "StopIteration")->E (.ref e) {s with heap:=h'}):
  wpAny (model prog w) A (Builtin.«zip.__next__» ⟨[.ref z],[]⟩) Q E s:=by
 show wpAny _ _ (field (.ref z) 2 >>= _) _ _ _;refine wpAny_bind (wpAny_field gz rfl (x:=.bool false) rfl ?_);show wpAny _ _ (field (.ref z) 3 >>= _) _ _ _;refine wpAny_bind (wpAny_field gz rfl (x:=.ref I) rfl (wpAny_bind (wpAny_seqItems gI rfl ?_)));show wpAny _ _ (Builtin.SmallTypes.ownedTupleIsFree (.ref z) >>= _) _ _ _;refine wpAny_bind ?_;unfold Builtin.SmallTypes.ownedTupleIsFree;refine wpAny_bind (wpAny_field gz rfl (x:=.none) rfl (wpAny_pure ?_));simp only[if_true];refine wpAny_bind (wpAny_rule (wpAny_bind (wpAny_field gz rfl (x:=.ref O) rfl (wpAny_bind (wpAny_setField_rec gz (by simp) fun ha za sa=>?_)))))
 replace za:IsZip ha z I O .ellipsis:=za
 refine wpAny_bind ?_;simp only[List.zipIdx_cons,List.zipIdx_nil,w2e,w4a];refine wpAny_bind (wpAny_bind (wpAny_onRaise ?_));show wpAny _ _ (Builtin.SmallTypes.nextOf (.ref i) >>= _) _ _ _;cases hx:xs[k]? with
 |none=>
  refine wpAny_bind (x06 (s:={s with heap:=ha}) hh (g1.keep fun o e=>sa.extBut _ _ D.iz e) (l1.keep fun o e=>sa.extBut _ _ D.az e) hx fun hb e sb ge=>?_)
  obtain⟨oe,hoe,hce⟩:=ge;have zb:IsZip hb z I O .ellipsis:=sb _ _ D.iz.symm za;have nz:e≠z:=fun x=>by grind
  refine wpAny_setField_rec zb (by simp) fun hc _ sc=>hE hc e (fun c o c1 _ c3 _ x=>sc.extBut _ _ c1 (sb _ _ c3 (sa.extBut _ _ c1 x))) ⟨oe,sc.extBut _ _ nz hoe,hce⟩
 |some x=>
  have hy:ys[k]?=none:=by grind
  refine wpAny_bind (q6n (s:={s with heap:=ha}) (g1.keep fun o e=>sa.extBut _ _ D.iz e) (l1.keep fun o e=>sa.extBut _ _ D.az e) hx fun hb ib sb=>wpAny_pure ?_)
  have Ob:IsPair hb O p q:=sb.extBut _ _ D.Oi (sa.extBut _ _ D.Oz gO);refine wpAny_bind (wpAny_seqItems Ob rfl (wpAny_bind (wpAny_updateSeq_pair Ob fun hc Oc sc=>?_)))
  refine wpAny_bind (wpAny_letGo (wpAny_pure (wpAny_bind (wpAny_bind (wpAny_onRaise ?_)))));show wpAny _ _ (Builtin.SmallTypes.nextOf (.ref j) >>= _) _ _ _;refine wpAny_bind (x06 (s:={s with heap:=hc}) hh (g2.keep fun o e=>sc.extBut _ _ D.Oj.symm (sb.extBut _ _ D.ij.symm (sa.extBut _ _ D.jz e))) (l2.keep fun o e=>sc.extBut _ _ D.bO (sb.extBut _ _ D.bi (sa.extBut _ _ D.bz e))) hy fun hd e sd ge=>?_)
  obtain⟨oe,hoe,hce⟩:=ge;have zd:IsZip hd z I O .ellipsis:=sd _ _ D.jz.symm (sc.extBut _ _ D.Oz.symm (sb.extBut _ _ D.iz.symm za));have nz:e≠z:=fun x=>by grind
  refine wpAny_setField_rec zd (by simp) fun he _ se=>hE he e (fun c o c1 c2 c3 c4 x=>se.extBut _ _ c1 (sd _ _ c4 (sc.extBut _ _ c2 (sb.extBut _ _ c3 (sa.extBut _ _ c1 x))))) ⟨oe,se.extBut _ _ nz hoe,hce⟩
theorem y7t{i:Addr}{q:Value}(D:Apart z I O i j a b)
  (gz:IsZip s.heap z I O .none)(gI:IsPair s.heap I (.ref i) (.ref j))(gO:IsPair s.heap O p q)
  (g1:IsIt t i a k s.heap)(g2:IsIt u j b k s.heap)(l1:IsSq t a xs s.heap)(l2:IsSq u b ys s.heap)(hx:xs[k]?=some x)(hy:ys[k]?=some y)
  (hQ:∀h',IsZip h' z I O (rawInt s.heap.objs.size)->IsPair h' O x y->IsIt t i a (k+1) h'->IsIt u j b (k+1) h'->IsPair h' s.heap.objs.size x y->h'.objs.size=s.heap.objs.size+1 ->
   (∀c o,c≠z->c≠O->c≠i->c≠j->s.heap.get? c=some o->h'.get? c=some o)->Q (some (.ref s.heap.objs.size)) {s with heap:=h'}):wpAny (model prog w) A (pyNext (.ref z)) Q E s:=by
 have hT:s.TypeIs (.ref z) "zip":=⟨_,gz,rfl⟩;unfold pyNext;exact wpAny_bind (wpAny_attempt (wpAny_callSpecial?_slot (name:=Str.ofString "__next__") hT F.slot_zip_next (wpAny_call_entry F.slot_zip_next hT F.entry_zip_next (y7s D gz gI gO g1 g2 l1 l2 hx hy fun h' a1 a2 a3 a4 a5 a6 a7=>wpAny_pure (hQ h' a1 a2 a3 a4 a5 a6 a7)) (F.args_zip_next_1 _))))
theorem y7u{i:Addr}{q:Value}(hh:A.handled=none)(D:Apart z I O i j a b)
  (gz:IsZip s.heap z I O .none)(gI:IsPair s.heap I (.ref i) (.ref j))(gO:IsPair s.heap O p q)
  (g1:IsIt t i a k s.heap)(g2:IsIt u j b k s.heap)(l1:IsSq t a xs s.heap)(l2:IsSq u b ys s.heap)(hend:xs[k]?=none\/ys[k]?=none)
  (hQ:∀h',(∀c o,c≠z->c≠O->c≠i->c≠j->s.heap.get? c=some o->h'.get? c=some o)->Q none {s with heap:=h'}):wpAny (model prog w) A (pyNext (.ref z)) Q E s:=by
 have hT:s.TypeIs (.ref z) "zip":=⟨_,gz,rfl⟩;unfold pyNext;refine wpAny_bind (wpAny_attempt (wpAny_callSpecial?_slot (name:=Str.ofString "__next__") hT F.slot_zip_next (wpAny_call_entry F.slot_zip_next hT F.entry_zip_next (z2w hh D gz gI gO g1 g2 l1 l2 hend fun h' e hk he=>?_) (F.args_zip_next_1 _))))
 obtain⟨o,ho,hc⟩:=he;exact wpAny_bind (wpAny_isInstance (T:="StopIteration") (b:=true) ⟨o,ho,hc⟩ isSubtype_stop (wpAny_pure (hQ _ hk)))
end
def itT(t:Bool):String:=if t=true then "tuple_iterator" else "list_iterator"
noncomputable abbrev zq1(t:Bool)(h:Heap)(a:Addr):Heap:=h.push {cls:=.type (itT t),data:=.fields #[.ref a,.int 0 0]}
noncomputable abbrev zq2(t u:Bool)(h:Heap)(a b:Addr):Heap:=(zq1 t h a).push {cls:=.type (itT u),data:=.fields #[.ref b,.int 0 0]}
noncomputable abbrev zq3(t u:Bool)(h:Heap)(a b:Addr):Heap:=(zq2 t u h a b).push {cls:=.type "tuple", data:=.seq #[.ref h.objs.size,.ref (zq1 t h a).objs.size]}
noncomputable abbrev zq4(t u:Bool)(h:Heap)(a b:Addr):Heap:=(zq3 t u h a b).push {cls:=.type "tuple", data:=.seq #[.none,.none]}
noncomputable abbrev zq5(t u:Bool)(h:Heap)(a b:Addr):Heap:=(zq4 t u h a b).push {cls:=.type "zip", data:=.fields #[.none,.bool false,.bool false,.ref (zq2 t u h a b).objs.size,.ref (zq3 t u h a b).objs.size]}
theorem z2x(t u)(a b)(xs ys):
  Meets (Builtin.«zip.__new__» ⟨[.type "zip", .ref a,.ref b],[]⟩) (fun _ R s=>IsSq t a xs s.heap/\IsSq u b ys s.heap/\R (.ok (.ret (.ref (zq4 t u s.heap a b).objs.size))) {s with heap:=zq5 t u s.heap a b}):=
 .of_wp fun prog w A R s hyp=>by
  obtain⟨hp,g,d,tk,os⟩:=s;obtain⟨g1,g2,h⟩:=hyp;have hsub:=sub_zip;have q2:IsSq u b ys (zq1 t hp a):=g2.keep fun o e=>Heap.get?_push_of_some _ e
  cases t with
  |false=>
   have p1:Heap.IsList (Shared.heap ⟨hp,g,d,tk,os⟩) a xs:=g1;cases u with
   |false=>
    have p2:Heap.IsList (Shared.heap ⟨hp.push {cls:=.type "list_iterator", data:=.fields #[.ref a,.int 0 0]},g,d,tk,os⟩) b ys:=q2
    wp_walk using wpAny_pyIter_list p1,wpAny_pyIter_list p2
    exact⟨_,rfl,h⟩
   |true=>
    have p2:Heap.IsTuple (Shared.heap ⟨hp.push {cls:=.type "list_iterator", data:=.fields #[.ref a,.int 0 0]},g,d,tk,os⟩) b ys:=q2
    wp_walk using wpAny_pyIter_list p1,wpAny_pyIter_tuple p2
    exact⟨_,rfl,h⟩
  |true=>
   have p1:Heap.IsTuple (Shared.heap ⟨hp,g,d,tk,os⟩) a xs:=g1;cases u with
   |false=>
    have p2:Heap.IsList (Shared.heap ⟨hp.push {cls:=.type "tuple_iterator", data:=.fields #[.ref a,.int 0 0]},g,d,tk,os⟩) b ys:=q2
    wp_walk using wpAny_pyIter_tuple p1,wpAny_pyIter_list p2
    exact⟨_,rfl,h⟩
   |true=>
    have p2:Heap.IsTuple (Shared.heap ⟨hp.push {cls:=.type "tuple_iterator", data:=.fields #[.ref a,.int 0 0]},g,d,tk,os⟩) b ys:=q2
    wp_walk using wpAny_pyIter_tuple p1,wpAny_pyIter_tuple p2
    exact⟨_,rfl,h⟩
section
variable{s:Shared}
theorem x4w(e:h.get? j=some o)(c:o.cls=.type (itT t))(d:o.data=.fields #[.ref a,.int 0 0]):IsIt t j a 0 h:=by
 cases t with
 |true=>exact(show h.IsTupleIter j a 0 from⟨o,e,c,d⟩)
 |false=>exact(show h.IsListIter j a 0 from⟨o,e,c,d⟩)
theorem x99(g1:IsSq t a xs s.heap)(g2:IsSq u b ys s.heap)
  (h:∀h',IsZip h' (s.heap.objs.size+4) (s.heap.objs.size+2) (s.heap.objs.size+3) .none->IsPair h' (s.heap.objs.size+2) (.ref s.heap.objs.size) (.ref (s.heap.objs.size+1)) ->
   IsPair h' (s.heap.objs.size+3) .none .none->IsIt t s.heap.objs.size a 0 h'->IsIt u (s.heap.objs.size+1) b 0 h'->(∀c o,s.heap.get? c=some o->h'.get? c=some o)->Q (.ref (s.heap.objs.size+4)) {s with heap:=h'}):
  wpAny (model prog w) A (call (.type "zip") [.ref a,.ref b]) Q E s:=by
 refine callType_new F.called_zip (by decide) (F.typeCall_zip_2 _ _) (F.newCall_zip_2 _ _) (fun obj=>F.args_object_init_3 obj _ _) F.entry_zip_new (z2x t u a b xs ys) ⟨g1,g2,?_⟩
 have n1:(zq1 t s.heap a).objs.size=s.heap.objs.size+1:=Heap.size_push ..;have n2:(zq2 t u s.heap a b).objs.size=s.heap.objs.size+2:=by rw[Heap.size_push,n1]
 have n3:(zq3 t u s.heap a b).objs.size=s.heap.objs.size+3:=by rw[Heap.size_push,n2]
 have n4:(zq4 t u s.heap a b).objs.size=s.heap.objs.size+4:=by rw[Heap.size_push,n3]
 have k5:(zq5 t u s.heap a b).get? (zq4 t u s.heap a b).objs.size=some _:=Heap.get?_push_size _ rfl;have k4:(zq5 t u s.heap a b).get? (zq3 t u s.heap a b).objs.size=some _:=Heap.get?_push_of_some _ (Heap.get?_push_size _ rfl);have k3:(zq5 t u s.heap a b).get? (zq2 t u s.heap a b).objs.size=some _:=Heap.get?_push_of_some _ (Heap.get?_push_of_some _ (Heap.get?_push_size _ rfl));have k2:(zq5 t u s.heap a b).get? (zq1 t s.heap a).objs.size=some _:=Heap.get?_push_of_some _ (Heap.get?_push_of_some _ (Heap.get?_push_of_some _ (Heap.get?_push_size _ rfl)));have k1:(zq5 t u s.heap a b).get? s.heap.objs.size=some _:=Heap.get?_push_of_some _ (Heap.get?_push_of_some _ (Heap.get?_push_of_some _ (Heap.get?_push_of_some _ (Heap.get?_push_size _ rfl))));have up:∀c o,s.heap.get? c=some o->(zq5 t u s.heap a b).get? c=some o:=fun c o e=>Heap.get?_push_of_some _ (Heap.get?_push_of_some _ (Heap.get?_push_of_some _ (Heap.get?_push_of_some _ (Heap.get?_push_of_some _ e))))
 show _/\_;rw[n2,n3,n4]at k5;rw[n1,n2]at k3;rw[n3]at k4;rw[n1]at k2;rw[n4];exact⟨⟨_,k5,rfl⟩,h _ k5 k3 k4 (x4w k1 rfl rfl) (x4w k2 rfl rfl) up⟩
end
def SqG(K:PySem.W.Frag)(t:Bool)(H:Hp)(a:Addr)(xs:List V):Prop:=if t=true then SqT K H a xs else SqL K H a xs
theorem y0a(I:Inv X pins σ H s)(h:SqG X.K t H a xs):∃its:List Value,Vals xs its/\IsSq t a its.toArray s.heap:=by
 cases t with
 |true=>
  obtain⟨its,r,p,_⟩:=I.tuple h;exact⟨its,r,(show s.heap.IsTuple a its.toArray from p)⟩
 |false=>
  obtain⟨its,r,p,_⟩:=I.list h;exact⟨its,r,p.isList⟩
theorem IsSq.obj(x:IsSq t a vs h):∃o,h.get? a=some o/\o.cls=.type (if t=true then "tuple" else "list"):=by
 cases t with
 |true=>obtain⟨o,ho,c,_⟩:=(show h.IsTuple a vs from x);exact⟨o,ho,c⟩
 |false=>obtain⟨o,ho,c,_⟩:=(show h.IsList a vs from x);exact⟨o,ho,c⟩
theorem x50{fp:List Addr}(I:Inv X pins σ H s)(k:∀b o,b∉fp->s.heap.get? b=some o->h'.get? b=some o)(hf:∀b∈fp,FpOk X pins H b):Inv X pins σ H {s with heap:=h',toks:=t'}:=by
 have nfp:∀c u,H c=some u->c∉fp:=fun c u e z=>by rw[(hf c z).1]at e;cases e
 refine I.step (g':=s.gens) (d':=s.drawn) (ch:=fp) (fun c hc=>?_) (fun c o _ _ hc e _=>k c o hc e) (fun c o _ _ hc e _=>⟨o.slots,k c o hc e⟩) (fun c o _ e n=>n)
  (fun c o hc e=>⟨o,k c o hc e⟩) (fun c xs e=>e) (fun c o u e=>e) (fun c ps e=>⟨#[],by rw[e];simp⟩) (fun m hm=>?_) (fun c u e=>?_) I.bare
 ·obtain⟨f0,f1,f2,f3,f4,f5⟩:=hf c hc
  grind
 ·obtain⟨o,es,ep,ho,r⟩:=hm;exact⟨o,es,ep,k _ o (fun z=>(hf _ z).2.1 rfl) ho,r⟩
 ·refine(I.hok c u e).stay (fun d v hd q=>k d v ?_ q) (fun d q=>q) fun d xs _ q=>q
  grind
theorem y0b(n a b:Nat)(ha:a<n)(hb:b<n):Apart (n+4) (n+2) (n+3) n (n+1) a b where
 Iz:=by grind
 Oz:=by grind
 iz:=by grind
 jz:=by grind
 IO:=by grind
 Ii:=by grind
 Ij:=by grind
 Oi:=by grind
 Oj:=by grind
 ij:=by grind
 az:=by grind
 aO:=by grind
 ai:=by grind
 aj:=by grind
 bz:=by grind
 bO:=by grind
 bi:=by grind
 bj:=by grind
section
variable{a1 a2:Expr}{pt:Pos}
theorem x6p(h:seqW w=some us)(p:Rep K G w v):∃t a xs,v=.ref a/\SqG K t G a xs/\Reps K G us xs:=by
 cases w with
 |tup l=>
  cases h;obtain⟨a,xs,rfl,hq,rp⟩:=p;exact⟨true,a,xs,rfl,hq,rp⟩
 |lst l=>
  cases h;obtain⟨a,xs,rfl,hq,rp⟩:=p;exact⟨false,a,xs,rfl,hq,rp⟩
 |_=>cases h
theorem x4x(s:Same G H)(h:SqG K t G a xs):SqG K t H a xs:=by
 cases t with
 |true=>exact s.tup h
 |false=>exact s.seq h
end
def hide1:S->S
 |.own _ ws=>.fr (.lst ws)
 |.dic kvs=>.fr (.dic kvs)
 |.thr us ws vs=>.fr (.tup (us++.lst ws::vs))
 |.nest wss=>.fr (.lst (wss.map W.lst))
 |.x (.old w)=>.fr w
 |.x (.new w)=>.fr w
 |.x (.acc ws)=>.fr (.lst ws)
 |.x (.thro us ws vs)=>.fr (.tup (us++.lst ws::vs))
 |.x (.tn us wss)=>.fr (.tup (us++[.lst (wss.map W.lst)]))
 |.x (.pt _ _ _)=>.no
 |.x (.fz w)=>.fr w
 |.x (.fzo w)=>.fr w
 |.dw sh ks ws=>.fr (.dw false sh ks ws)
 |s=>s
theorem NestIn.reps(sg:Same G G')(hf:∀l o ys,FzAt Z G H l o ys->G' l=some (.frz o (.lst ys))):∀{ls:List Addr}{wss:List (List W)},NestIn K Z G H ls wss->Reps K G' (wss.map W.lst) (ls.map V.ref)
 |[],[],_=>rfl
 |l::ls,ws::wss,⟨⟨o,ys,h1,h4⟩,h⟩=>⟨.ref l,ls.map V.ref,rfl,⟨l,ys,rfl,.inl (.inr ⟨o,hf l o ys h1⟩),Reps.mono sg ws h4⟩,h.reps sg hf⟩
 |[],_::_,h=>h.elim
 |_::_,[],h=>h.elim
def hideS(e:List S):List S:=e.map hide1
def borrowR(e:List S):R W->R W
 |.ok w _=>if scalW w=true then .ok w e else .no
 |.ex c _=>.ex c e
 |.no=>.no
def dBorrow(d:Den W):Den W:=fun e=>borrowR e (d (hideS e))
def borrowT(e:List S):R Bool->R Bool
 |.ok b _=>.ok b e
 |.ex c _=>.ex c e
 |.no=>.no
def dBorrowT(d:Den Bool):Den Bool:=fun e=>borrowT e (d (hideS e))
theorem Rel.hide(r:Rel K Z G σ H e):Rel K ⟨H,H,[]⟩ H σ H (hideS e):=by
 have g:∀(i:Nat)(s:S),(hideS e)[i]?=some s->∃s0,e[i]?=some s0/\s=hide1 s0:=fun i s h=>by
  unfold hideS at h
  grind
 refine⟨.refl _,fun i s h=>?_,by grind [hideS,len],fun i j b b' ws ws' a h1 _ _ _=>?_,fun a o h _=>h,(fun a h=>nomatch h),fun a _=>rfl⟩
 ·obtain⟨s0,h0,rfl⟩:=g i s h;have q:=r.slot i s0 h0;cases s0 with
  |no=>trivial
  |fr w=>
   obtain⟨u,q1,q2⟩:=q;exact⟨u,q1,Rep.mono r.sub w q2⟩
  |own b ws=>
   obtain⟨a,xs,q1,q2,q3,q4,q5⟩:=q;exact⟨.ref a,q1,a,xs,rfl,SqL.of q2,Reps.mono r.sub ws q5⟩
  |dic kvs=>
   obtain⟨a,q1,q2,_⟩:=q;exact⟨.ref a,q1,a,rfl,q2⟩
  |thr us ws vs=>
   obtain⟨t,l,o,xs,ys,zs,q1,q2,q3,_,_,q6,q7,q8⟩:=q;exact⟨.ref t,q1,t,_,rfl,SqT.of (r.sub _ _ q2),(Reps.mono r.sub us q6).append ⟨.ref l,zs,rfl,⟨l,ys,rfl,.inl (.inr ⟨o,q3⟩),Reps.mono r.sub ws q7⟩,Reps.mono r.sub vs q8⟩⟩
  |nest wss=>
   obtain⟨a,ls,q1,q2,_,q4⟩:=q;exact⟨.ref a,q1,a,_,rfl,SqL.of (r.sub _ _ q2),q4.reps r.sub fun l o ys z=>z.1⟩
  |x k=>
   cases k with
   |old w=>obtain⟨u,q1,_,q2⟩:=q;exact⟨u,q1,Rep.mono r.sub w q2⟩
   |new w=>obtain⟨u,q1,q2⟩:=q;exact⟨u,q1,Rep.mono r.sub w (RepN.rep w q2)⟩
   |acc ws=>obtain⟨a,o,xs,q1,q2,q3⟩:=q;exact⟨.ref a,q1,a,xs,rfl,.inl (.inr ⟨o,q2.1⟩),Reps.mono r.sub ws (RepNs.reps ws q3)⟩
   |thro us ws vs=>
    obtain⟨t,l,o,xs,ys,zs,q1,_,q2,q3,_,q6,q7,q8⟩:=q;exact⟨.ref t,q1,t,_,rfl,SqT.of (r.sub _ _ q2),(Reps.mono r.sub us q6).append ⟨.ref l,zs,rfl,⟨l,ys,rfl,.inl (.inr ⟨o,q3.1⟩),Reps.mono r.sub ws q7⟩,Reps.mono r.sub vs q8⟩⟩
   |tn us wss=>
    obtain⟨t,l,o,ls,xs,q1,q2,q3,_,q5,q6⟩:=q;exact⟨.ref t,q1,t,_,rfl,SqT.of (r.sub _ _ q2),(Reps.mono r.sub us q5).append ⟨.ref l,[],rfl,⟨l,_,rfl,.inl (.inr ⟨o,q3.1⟩),q6.reps r.sub fun l o ys z=>z.1⟩,rfl⟩⟩
   |pt _ _ _=>trivial
   |fz w=>obtain⟨u,as,q1,_,q3⟩:=q;exact⟨u,q1,RepF.rep r.sub (fun l o ys z=>z.1) w q3⟩
   |fzo w=>obtain⟨u,as,q1,_,_,q3⟩:=q;exact⟨u,q1,RepF.rep r.sub (fun l o ys z=>z.1) w q3⟩
  |dw sh ks ws=>
   obtain⟨a,kvs,kas,q1,q2,_,_,q5,q6,q7⟩:=q;exact⟨.ref a,q1,a,kvs,kas,rfl,q2,q5,q6.mono r.sub,Reps.mono r.sub ws q7.reps⟩
 ·obtain⟨s0,_,h2⟩:=g i _ h1;cases s0 with
  |x k=>cases k<;>cases h2
  |_=>cases h2
theorem Rel.back(r:Rel K Z G σ H e)(r2:Rel K ⟨H,H,[]⟩ G2 σ H2 e2):Rel K Z G σ H2 e:=by
 have hh:Same H H2:=fun a o h=>r2.ent a o h (fun z=>nomatch z)
 exact r.grow ⟨hh,.refl _,fun a o h=>hh a o (r.sub a o h),fun _ _=>rfl⟩
theorem y3i(h:scalW w=true)(p:Rep K G w v):Rep K G' w v:=by
 cases w with
 |non=>exact p
 |bl b=>exact p
 |int b=>exact p
 |str b=>exact p
 |_=>cases h
theorem y0c(he:∀Z',DE Z' X EE e d):DE Z X EE e (dBorrow d):=by
 intro pins s σ H Q I hq;obtain⟨G,e0,rel,h⟩:=hq;refine he ⟨H,H,[]⟩ pins s σ H Q I ⟨H,hideS e0,rel.hide,?_⟩;unfold dBorrow borrowR at h;cases q:d (hideS e0)with
 |ok w e2=>
  rw[q]at h;dsimp only at h;split at h
  ·rename_i hs;intro G2 v H2 r2 s2 p;exact h G v H2 (rel.back r2) (.refl _) (y3i hs p)
  ·exact h.elim
 |ex k e2=>
  rw[q]at h;intro G2 H2 r2 s2;exact h G H2 (rel.back r2) (.refl _)
 |no=>rw[q]at h;exact h.elim
theorem x2v(he:∀Z',DT Z' X EE e c):DT Z X EE e (dBorrowT c):=by
 intro pins s σ H Q I hq;obtain⟨G,e0,rel,h⟩:=hq;refine he ⟨H,H,[]⟩ pins s σ H Q I ⟨H,hideS e0,rel.hide,?_⟩;unfold dBorrowT borrowT at h;cases q:c (hideS e0)with
 |ok w e2=>
  rw[q]at h;intro G2 H2 r2 s2;exact h G H2 (rel.back r2) (.refl _)
 |ex k e2=>
  rw[q]at h;intro G2 H2 r2 s2;exact h G H2 (rel.back r2) (.refl _)
 |no=>rw[q]at h;exact h.elim
section
variable{e:List S} [Decidable p]
theorem y0d:dBorrow d e=borrowR e (d (hideS e)):=rfl
theorem x71{d:Den Bool}:dBorrowT d e=borrowT e (d (hideS e)):=rfl
theorem y0e:borrowR e (.ok w e')=if scalW w=true then .ok w e else .no:=rfl
theorem y0f:borrowR e (.ex v e')=.ex v e:=rfl
theorem x72:borrowT e (.ok k e')=.ok k e:=rfl
theorem x73:borrowT e (.ex v e')=.ex v e:=rfl
theorem x74:borrowR e (if p then x else y)=if p then borrowR e x else borrowR e y:=by split<;>rfl
theorem x51:borrowT e (if p then x else y)=if p then borrowT e x else borrowT e y:=by split<;>rfl
theorem y3j:hideS []=[]:=rfl
theorem y0g:hideS (s::e)=hide1 s::hideS e:=rfl
theorem y3k:hide1 (.own b ws)=.fr (.lst ws):=rfl
theorem y7v:hide1 (.fr w)=.fr w:=rfl
theorem y7w:hide1 .no=.no:=rfl
end
end D
namespace L2
open PySem PySem.Spec PyProof.Rows
structure FlyA(outer:List Env)(H H':Hp)(h h':Heap)(e:Addr)(cls:Value)(B:Heap):Prop where
 stay:B.StaysIn h'
 bare:B.get? e=none
 ff:h'.FunFrames B outer
 tr:∃a0 fl,h'.TracedAtW B e cls a0 fl
 old:∀b o,h.get? b=some o->H b=none->b∉frs outer->B.get? b=some o
 trk:∀b u o,H' b=some u->h'.get? b=some o->B.get? b=some o
 all:∀b o,h.get? b=some o->b∈frs outer\/∃o',B.get? b=some o'
 new:h.get? e=none
end L2
namespace D
open PySem L2
def compX(c:Den Bool)(d:Den W)(pe:List S):List W->Option (Value ⊕ List W)
 |[]=>some (.inr [])
 |w::ws=>match c (.fr w::pe)with
  |.ok true e1=>match d e1 with
   |.ok y _=>(compX c d pe ws).map (Sum.map id (y::·))
   |.ex k _=>some (.inl k)
   |.no=>none
  |.ok false _=>compX c d pe ws
  |.ex k _=>some (.inl k)
  |.no=>none
def compXR(e:List S):Option (Value ⊕ List W)->R (List W)
 |some (.inr out)=>.ok out e
 |some (.inl k)=>.ex k e
 |none=>.no
def compKX(js:List Nat)(c:Den Bool)(d:Den W)(ws:List W)(e1:List S):R (List W):=
 if ws.length<=16777216 then compXR (frzs js e1) (compX c d (pjS js (frzs js e1)) ws)else .no
theorem y3l:compKX js cc d ws e=if ws.length<=16777216 then compXR (frzs js e) (compX cc d (pjS js (frzs js e)) ws)else .no:=rfl
theorem y0h:compXR e (some (.inr out))=.ok out e:=rfl
theorem y0i:compXR e (some (.inl k))=.ex k e:=rfl
section
variable{X:Cx}{Z:Zt}{EE:L2.St->XK}{elt iter a b:Expr}{ifs:List Expr}{scope sc:Scope}{pos pt:Pos}{x:Str}{Nf N:List Str}{js:List Nat}{di:Den W}{dA:Den (List W)}{c:Den Bool}{d:Den W}
theorem z2y(h:(compKX js c d ws e1).holds P Ex):ws.length<=16777216/\∃out,compX c d (pjS js (frzs js e1)) ws=some out/\Sum.elim (fun k=>Ex k (frzs js e1)) (fun o=>P o (frzs js e1)) out:=by
 unfold compKX at h;split at h
 ·rename_i hl;cases ho:compX c d (pjS js (frzs js e1)) ws with
  |none=>rw[ho]at h;exact h.elim
  |some out=>rw[ho]at h;exact⟨hl,out,rfl,by cases out<;>exact h⟩
 ·exact h.elim
end
end D
namespace L2
open PySem PySem.Spec PyProof.Rows
def Rise(t:SetTable):Prop:=t.place.toList.Pairwise (·<·)/\t.dummies=#[]
def valI:Value->Int
 |.int n _=>n
 |_=>0
structure SetData(prog:Program)(w:World)(es:Array (Int×Value))(t:SetTable)(S:List Int):Prop where
 el:ElemsOf (intKind prog w) es.toList
 sz:es.size<scanBound
 fit:t.fits es.size=true
 rise:Rise t
 led:t.led=!w.params.followText "set-order"
 whole:∀e∈es.toList,∃n k,e.2=Value.int n k
 perm:(es.toList.map fun e=>valI e.2).Perm S
namespace SI
theorem own:Manifest.owners.lookup (String.ofList ['r','o','t','a','r','e','t','i','_','t','e','s'].reverse)=some Manifest.sig_set_iterator:=by kernel_rfl
theorem next:Slot "set_iterator" "__next__" "set_iterator.__next__":=.of (owner:="set_iterator") (n:="__next__") (by rw[typeLookup_type,builtinLookup_eq_fast];kernel_rfl) (by decide +kernel) (by decide +kernel) (by decide +kernel) (by first|exact .inl (by decide +kernel)|exact .inr (by decide +kernel)) (by rw[isSubtype_type];kernel_rfl)
theorem iter:Slot "set_iterator" "__iter__" "set_iterator.__iter__":=.of (owner:="set_iterator") (n:="__iter__") (by rw[typeLookup_type,builtinLookup_eq_fast];kernel_rfl) (by decide +kernel) (by decide +kernel) (by decide +kernel) (by first|exact .inl (by decide +kernel)|exact .inr (by decide +kernel)) (by rw[isSubtype_type];kernel_rfl)
end SI
open PySem PySem.Spec PyProof.Rows
end L2
namespace D
open PySem L2
variable{X:Cx}{dA:Den (List W)}{e:Expr}{p:Pos}
def rCat0(K:PySem.W.Frag):R2:=fun x y H Q=>∃a b ys,x=.ref a/\y=.ref b/\SqT K H a []/\SqT K H b ys/\Q (.ref b) H
open PyProof.Rows in
theorem op_cat0:OpR X (binaryOp .Add) (rCat0 X.K):=by
 intro pins s σ H x y v u Q I rx ry h;obtain⟨a,b,ys,rfl,rfl,ha,hb,q⟩:=h;cases rx;cases ry;obtain⟨its,r1,p1,_⟩:=I.tuple ha;obtain⟨its2,r2,p2,_⟩:=I.tuple hb;cases r1;obtain⟨⟨cls,dd,data,sl⟩,ho,hc,n,hd⟩:=id p1;obtain⟨⟨cls2,dd2,data2,sl2⟩,ho2,hc2,n2,hd2⟩:=id p2;simp only at hc hd hc2 hd2;subst hc hd hc2 hd2;exact concat_meets ⟨_,ho,rfl⟩ ⟨_,ho2,rfl⟩ noFill_tuple_add seq_tuple_add PySem.F.slot_tuple_add PySem.F.entry_tuple_add (PySem.F.args_tuple_add_2 _ _) (tuple_addW0 a b _ _ n n2 dd dd2 sl sl2 rfl) ⟨ho,ho2,.ref b,H,I,rfl,q⟩
def addX:W->W->Option W
 |.tup xs,.tup ys=>if xs.length+ys.length<=16777216 then some (.tup (xs++ys))else none
 |x,y=>addW x y
theorem y7x:addX (.tup xs) (.tup ys)=if xs.length+ys.length<=16777216 then some (.tup (xs++ys))else none:=rfl
theorem y7y:addX (.int i) (.int j)=some (.int (i+j)):=rfl
theorem y7z:addX (.lst xs) (.lst ys)=if xs.length+ys.length<=16777216 then some (.lst (xs++ys))else none:=rfl
theorem y70:addX (.str x) (.str y)=if x.length+y.length<=16777216 then some (.str (x++y))else none:=rfl
theorem x6q:Op2 K (fun x y H Q=>rCat0 K x y H Q\/(rI0 (fun i j=>.int (i+j)) x y H Q\/((∃i j,x=.str i/\y=.str j/\i.length+j.length<=sizeLine/\Q (.str (i++j)) H)\/(rCatT K x y H Q\/rCatS K x y H Q)))) addX:=by
 intro G H x y wx wy w Q s px py hf h;unfold addX at hf;split at hf
 ·rename_i xs ys;split at hf
  ·rename_i hl
   by_cases h0:xs=[]
   ·subst h0;cases hf;obtain⟨a,vs,rfl,hq,rp⟩:=px;obtain⟨b,us,rfl,hq2,rp2⟩:=py;cases(show vs=[]from rp);exact .inl ⟨a,b,us,rfl,rfl,s.tup hq,s.tup hq2,h G _ H (.refl s) ⟨b,us,rfl,hq2,rp2⟩⟩
   ·exact .inr (x9f G H x y (.tup xs) (.tup ys) w Q s px py (by show(if xs≠[]/\xs.length+ys.length<=16777216 then some (W.tup (xs++ys))else none)=some w;grind) h)
  ·cases hf
 ·exact .inr (x9f G H x y _ _ w Q s px py hf h)
theorem q0n(ha:DE Z X EE a da)(hb:DE Z X EE b db):DE Z X EE (.BinOp a .Add b pos) (dOp addX da db):=q7s (op_cat0.or (op_add.or (op_add_str.or (op_catT.or x1t)))) x6q ha hb
open PySem L2 PySem.Spec PyProof.Rows
end D
namespace L2
open PySem PySem.Spec PyProof.Rows
section
variable{κ:Type} [DecidableEq κ]
def valV(kvs:List (κ×V))(k:κ):Option V:=(kvs.find? fun kv=>decide (kv.1=k)).map (·.2)
def putK(kvs:List (κ×V))(k:κ)(v:V):List (κ×V):=
 if(kvs.any fun kv=>decide (kv.1=k))=true then kvs.map (fun kv=>if kv.1=k then(kv.1,v)else kv)else kvs++[(k,v)]
theorem q6x{k:κ}(e:p.1=k):valV (p::r) k=some p.2:=by simp[valV,w2g,e]
theorem q6y{k:κ}(e:¬p.1=k):valV (p::r) k=valV r k:=by simp[valV,w2g,e]
theorem x4y(k):∀kvs:List (κ×V),(kvs.any fun kv=>decide (kv.1=k))=(valV kvs k).isSome
 |[]=>rfl
 |p::r=>by
  rw[w4d]
  by_cases e:p.1=k
  ·simp_all [q6x]
  ·rw[q6y e,decide_eq_false e,Bool.false_or];exact x4y k r
theorem q9z(kvs)(k:κ)(v):(putK kvs k v).length<=kvs.length+1:=by
 grind [putK]
theorem RelO.isSome_eq(r:RelO o u):o.isSome=u.isSome:=by
 cases o with
 |none=>cases u with
  |none=>rfl
  |some _=>exact(show False from r).elim
 |some _=>cases u with
  |none=>exact(show False from r).elim
  |some _=>rfl
theorem KV.val(r:KV kvs vs)(k:κ):RelO (valV kvs k) (valueAt vs k):=by
 unfold KV at r
 induction r with
 |nil=>exact True.intro
 | @cons p q ps qs h t ih=>
  obtain⟨h1,h2⟩:=h
  by_cases e:p.1=k
  ·have e':q.1=k:=h1.symm.trans e;have b:valueAt (q::qs) k=some q.2:=by simp[valueAt,w2g,e']
   rw[q6x e,b];exact h2
  simp_all [valueAt,q6y]
theorem KV.any(r:KV kvs vs)(k:κ):(kvs.any fun kv=>decide (kv.1=k))=vs.any fun kv=>decide (kv.1=k):=by
 unfold KV at r
 induction r with
 |nil=>rfl
 |cons h t ih=>grind
theorem KV.repl(r:KV kvs vs)(k:κ)(ry:RelV y u):
  KV (kvs.map fun kv=>if kv.1=k then(kv.1,y)else kv) (vs.map fun kv=>if kv.1=k then(kv.1,u)else kv):=by
 unfold KV at r |-
 induction r with
 |nil=>exact .nil
 | @cons p q ps qs h t ih=>
  rw[w0g,w0g];refine .cons ?_ ih
  grind
theorem KV.put(r:KV kvs vs)(k:κ)(ry:RelV y u):KV (putK kvs k y) (stored vs k u):=by
 unfold putK stored;rw[r.any k]
 by_cases e:(vs.any fun kv=>decide (kv.1=k))=true
 ·rw[if_pos e,if_pos e];exact r.repl k ry
 ·rw[if_neg e,if_neg e];exact Paired.snoc r ⟨rfl,ry⟩
theorem KV.keys{kvs:List (κ×V)}{vs:List (κ×Value)}(r:KV kvs vs):kvs.map (·.1)=vs.map (·.1):=by
 unfold KV at r
 induction r with
 |nil=>rfl
 |cons h t ih=>grind
theorem KV.length{kvs:List (κ×V)}{vs:List (κ×Value)}(r:KV kvs vs):kvs.length=vs.length:=Paired.length r
end
variable{a:Addr}{H:Hp}{σ:St}
theorem x3w(r:RelV (kV k) u):(mixKind P w).is k u=true:=by
 cases k with
 |inl i=>obtain⟨t,e⟩:=(show ∃t,u=Value.int i t from r);grind [x5y]
 |inr x=>obtain⟨t,e⟩:=(show ∃t,u=Value.str x t from r);grind [x5z]
abbrev KT(sh:Sh)(H:Hp):List (Kx×V)->List (Kx×Addr×Value)->Prop:=Paired fun p q=>p.1=q.1/\(KRep H p.1 (.ref q.2.1)/\Conf p.1 sh/\p.1.depth<=7)/\RelV p.2 q.2.2
theorem KT.val(r:KT sh H kvs xs)(k):RelO (valV kvs k) ((atKey xs k).map (·.2)):=by
 induction r with
 |nil=>exact True.intro
 | @cons p q ps qs h t ih=>
  obtain⟨h1,_,h2⟩:=h
  by_cases e:p.1=k
  ·have e':q.1=k:=h1.symm.trans e;have b:atKey (q::qs) k=some q.2:=by simp[atKey,w2g,e']
   rw[q6x e,b];exact h2
  simp_all [atKey,q6y]
theorem KT.repl(r:KT sh H kvs xs)(k)(ry:RelV y u):
  KT sh H (kvs.map fun kv=>if kv.1=k then(kv.1,y)else kv) (xs.map (putAt k u)):=by
 induction r with
 |nil=>exact .nil
 | @cons p q ps qs h t ih=>
  rw[w0g,w0g];refine .cons ?_ ih;obtain⟨h1,h2,h3⟩:=h;unfold putAt
  grind
theorem KT.put(r:KT sh H kvs xs)(k)(hb:KRep H k (.ref b)/\Conf k sh/\k.depth<=7)(ry:RelV y u):
  KT sh H (putK kvs k y) (storedH xs k b u):=by
 have e:(kvs.any fun kv=>decide (kv.1=k))=(atKey xs k).isSome:=by
  rw[x4y,(r.val k).isSome_eq,w2a]
 unfold putK storedH;rw[e]
 by_cases q:(atKey xs k).isSome=true
 ·rw[if_pos q,if_pos q];exact r.repl k ry
 simp_all [Paired.snoc]
def putAd(kvs:List (Kx×V))(kas:List Addr)(k:Kx)(b:Addr):List Addr:=if(valV kvs k).isSome=true then kas else kas++[b]
theorem KT.putAd(r:KT sh H kvs xs)(ka:xs.map (·.2.1)=kas)(k):(storedH xs k b u).map (·.2.1)=L2.putAd kvs kas k b:=by
 unfold storedH L2.putAd;rw[(r.val k).isSome_eq,w2a]
 by_cases q:(atKey xs k).isSome=true
 ·rw[if_pos q,if_pos q,w1a,<- ka];refine w1u fun x _=>?_
  show(putAt k u x).2.1=x.2.1
  grind [putAt]
 grind
theorem KT.keeps(r:KT sh H kvs xs)(ht:∀b u,TupLike u->H b=some u->H' b=some u):KT sh H' kvs xs:=
 Paired.mapP r fun _ _ z=>⟨z.1,⟨KRep.keeps ht _ z.2.1.1,z.2.1.2⟩,z.2.2⟩
section
variable{P:Program}{w:World}{h:Heap}
theorem y5k(ok:HOk P w H h)(e:Rd H a u):ObjOk P w H h a u:=e.ok ok
theorem x3x(ok:HOk P w H h)(e:Rd H a (.dK kvs)):kvs.length<=sizeLine/\(a==sysModules)=false/\∃vs,KV kvs vs/\h.DictOf (mixKind P w) a vs:=
 show ObjOk P w H h a (.dK kvs)from y5k ok e
theorem x3y(ok:HOk P w H h)(e:H a=some (.dK kvs)):kvs.length<=sizeLine/\(a==sysModules)=false/\∃vs,KV kvs vs/\h.DictOf (mixKind P w) a vs:=x3x ok (.inl e)
theorem IsTup.seq{its:List Value}(p:IsTup h a its.toArray):∃o n,h.get? a=some o/\o.cls=.type "tuple" /\ o.data=.seq its.toArray n:=by
 obtain⟨o,h1,h2,n,h3⟩:=p
 grind
mutual
theorem KRep.is(ok:HOk P w H h):∀(k:Kx){x:V}{v:Value},KRep H k x->RelV x v->KIs h k v
 |.non,x,v,e,r=>by cases(show x=.non from e);exact r
 |.bl b,x,v,e,r=>by cases(show x=.bl b from e);exact r
 |.int b,x,v,e,r=>by cases(show x=.int b from e);exact r
 |.str b,x,v,e,r=>by cases(show x=.str b from e);exact r
 |.tup ks,x,v,e,r=>by
  obtain⟨a,xs,rfl,q,rs⟩:=e;cases(show v=Value.ref a from r);obtain⟨_,its,rv,p,_⟩:=(show ObjOk P w H h a (.tup xs)from Rd.ok q ok);obtain⟨o,n,h1,h2,h3⟩:=IsTup.seq p;exact⟨a,o,its.toArray,n,rfl,h1,h2,h3,by simpa using KReps.are ok ks rs rv⟩
theorem KReps.are(ok:HOk P w H h):∀(ks:List Kx){xs:List V}{vs:List Value},KReps H ks xs->Vals xs vs->KAre h ks vs
 |[],xs,vs,e,r=>by
  cases(show xs=[]from e);cases r;rfl
 |k::ks,xs,vs,e,r=>by
  obtain⟨x,r0,rfl,h1,h2⟩:=e;cases r with
  |cons q t=>exact⟨_,_,rfl,KRep.is ok k h1 q,KReps.are ok ks h2 t⟩
end
theorem x07(ok:HOk P w H h)(e:KRep H k (.ref a)/\Conf k sh/\k.depth<=7):(treeKind P w sh).is h k a:=⟨KRep.is ok k e.1 rfl,e.2⟩
theorem x3z(ok:HOk P w H h)(e:Rd H a (.dT sh kvs kas)):kvs.length<=sizeLine/\(a==sysModules)=false /\
  ∃xs,KT sh H kvs xs/\xs.map (·.2.1)=kas/\h.DictOfH (treeKind P w sh) a xs:=by
 obtain⟨z,y,xs,r,ka,o,es,ep,h1,h2,h3,h4,h5⟩:=(show ObjOk P w H h a (.dT sh kvs kas)from y5k ok e);refine⟨z,y,xs,r,ka,o,es,ep,h1,h2,h3,h4,fun x hx=>?_,h5⟩
 have all:∀{l:List (Kx×V)}{m:List (Kx×Addr×Value)},KT sh H l m->∀x∈m,(treeKind P w sh).is h x.1 x.2.1:=by
  intro l m q
  induction q with
  |nil=>grind
  | @cons p q ps qs hq t ih=>
   intro x hx;rcases w0d.mp hx with e|hx
   ·subst e;exact x07 ok (by grind)
   ·exact ih x hx
 exact all r x hx
theorem z5y(ok:HOk P w H h)(e:H a=some (.dT sh kvs kas)):kvs.length<=sizeLine/\(a==sysModules)=false /\
  ∃xs,KT sh H kvs xs/\xs.map (·.2.1)=kas/\h.DictOfH (treeKind P w sh) a xs:=x3z ok (.inl e)
end
def DGet(H:Hp)(a:Addr)(y:V)(r:Option V):Prop:=
 (∃kvs k,Rd H a (.dK kvs)/\y=kV k/\r=valV kvs k)\/∃sh kvs kas k b,Rd H a (.dT sh kvs kas)/\y=.ref b/\(KRep H k (.ref b)/\Conf k sh/\k.depth<=7)/\r=valV kvs k
def DPut(H:Hp)(a:Addr)(y v:V)(H':Hp):Prop:=
 (∃kvs k,H a=some (.dK kvs)/\y=kV k/\kvs.length<sizeLine/\H'=upd H a (.dK (putK kvs k v))) \/
 ∃sh kvs kas k b,H a=some (.dT sh kvs kas)/\y=.ref b/\(KRep H k (.ref b)/\Conf k sh/\k.depth<=7)/\kvs.length<sizeLine/\H'=upd H a (.dT sh (putK kvs k v) (putAd kvs kas k b))
theorem DGet.k{kvs:List (Key×V)}{k:Key}(e:H a=some (.dK kvs)):DGet H a (kV k) (valV kvs k):=.inl ⟨kvs,k,.inl e,rfl,rfl⟩
theorem DPut.k{kvs:List (Key×V)}{k:Key}{v:V}(e:H a=some (.dK kvs))(hl:kvs.length<sizeLine):DPut H a (kV k) v (upd H a (.dK (putK kvs k v))):=.inl ⟨kvs,k,e,rfl,hl,rfl⟩
theorem Inv.big(I:Inv X pins σ H s):sysModules<s.heap.objs.size:=by
 have h:mainGlobals<s.heap.objs.size:=(I.mod.glob.keeps I.bk).lt;exact w5f (by decide) h
theorem x0b{A:Around}(hu:A.units+20<cLine):(treeKind P w sh).room A.in1:=by
 show A.in1.units+8<cLine
 grind
theorem y0j(hu:A.units+20<cLine)(I:Inv X pins σ H s)(g:DGet H a y (some v))(ry:RelV y u)(h:∀w' s',Inv X pins σ H s'->RelV v w'->Q w' s'):
  wpAny (model X.prog X.w) A (getItem (.ref a) u) Q E s:=by
 rcases g with⟨kvs,k,e,ey,l⟩|⟨sh,kvs,kas,k,b,e,ey,eb,l⟩
 ·subst ey;obtain⟨z,hd,vs,rel,dd⟩:=x3x I.hok e;obtain⟨w',hw,rw'⟩:=RelO.some_of (v:=v) (o:=valueAt vs k) (by rw[l];exact rel.val k);exact wpAny_getItem_of (x3w ry) dd.mapOf hw (h w' _ (I.tok _) rw')
 ·subst ey;cases(show u=Value.ref b from ry);obtain⟨z,hd,xs,rel,_,dd⟩:=x3z I.hok e;obtain⟨w',hw,rw'⟩:=RelO.some_of (v:=v) (o:=(atKey xs k).map (·.2)) (by rw[l];exact rel.val k);obtain⟨p,hp,hp2⟩:=w0t.mp hw;refine wpAny_getItem_heap (x0b hu) (x07 I.hok eb) dd hp ?_;rw[hp2];exact h w' _ (I.tok _) rw'
theorem d_in(hu:A.units+20<cLine)(I:Inv X pins σ H s)(g:DGet H a y o)(ry:RelV y u)(h:∀s',Inv X pins σ H s'->Q (.bool o.isSome) s'):
  wpAny (model X.prog X.w) A (compareOp .In u (.ref a)) Q E s:=by
 rcases g with⟨kvs,k,e,ey,l⟩|⟨sh,kvs,kas,k,b,e,ey,eb,l⟩
 ·subst ey;obtain⟨z,hd,vs,rel,dd⟩:=x3x I.hok e;refine wpAny_in_of (x3w ry) hd dd.mapOf ?_;rw[<- (rel.val k).isSome_eq,<- l];exact h _ (I.tok _)
 ·subst ey;cases(show u=Value.ref b from ry);obtain⟨z,hd,xs,rel,_,dd⟩:=x3z I.hok e;refine wpAny_in_heap (x0b hu) (x07 I.hok eb) hd dd ?_;have q:=(rel.val k).isSome_eq;rw[w2a]at q;rw[<- q,<- l];exact h _ (I.tok _)
theorem q9j(I:Inv X pins σ H s)(mu:Mut (H a))(hs:Heap.SameBut a s.heap h')(he:∃q,h'.get? a=some q)(new:ObjOk X.prog X.w (upd H a ob) h' a ob):
  Inv X pins σ (upd H a ob) {s with heap:=h',toks:=t'}:=
 I.write (x:=a) (e:=a) mu (.inl rfl) (fun b q hb z=>(hs.2 b hb).trans z) he new
theorem x4z(z:kvs.length<=sizeLine)(hd:(a==sysModules)=false)(rel:KV kvs vs)(dd:h'.DictOf (mixKind P w) a vs):
  ObjOk P w H' h' a (.dK kvs):=⟨z,hd,vs,rel,dd⟩
theorem y0k(hu:A.units+20<cLine)(I:Inv X pins σ H s)(g:DPut H a y v H')(ry:RelV y u)(rv:RelV v r)(h:∀s',Inv X pins σ H' s'->Q () s'):
  wpAny (model X.prog X.w) A (setItem (.ref a) u r) Q E s:=by
 rcases g with⟨kvs,k,e,ey,l,eH⟩|⟨sh,kvs,kas,k,b,e,ey,eb,l,eH⟩
 ·subst ey eH;obtain⟨z,hd,vs,rel,dd⟩:=x3y I.hok e;have hz:vs.length<=sizeLine:=by grind [KV.length]
  have hl:(putK kvs k v).length<=sizeLine:=by grind [q9z]
  refine wpAny_setItem_pairs (hsz:=hz) (x3w ry) dd fun h' dd' hs=>h _ ?_
  have he:∃q,h'.get? a=some q:=let ⟨q,_,_,hq,_⟩:=dd';⟨q,hq⟩;exact q9j I (by rw[e];exact True.intro) hs he (x4z hl hd (rel.put k rv) dd')
 ·subst ey eH;cases(show u=Value.ref b from ry);obtain⟨z,hd,xs,rel,ka,dd⟩:=z5y I.hok e;have hz:xs.length<=sizeLine:=by grind [Paired.length]
  have hl:(putK kvs k v).length<=sizeLine:=by grind [q9z]
  refine wpAny_setItem_heap (hsz:=hz) (x0b hu) (x07 I.hok eb) dd fun h' dd' hs=>h _ ?_
  obtain⟨q,es,ep,hq,h2,h3,h4,_,h5⟩:=dd';refine q9j I (by rw[e];exact True.intro) hs ⟨q,hq⟩ ⟨hl,hd,_,(rel.put k eb rv).keeps fun c u ys ec=>?_,rel.putAd ka k,q,es,ep,hq,h2,h3,h4,h5⟩
  rw[q0f (q0u ec e (fun z=>by subst z;exact ys))]
  exact ec
def NoSl(i:Expr):Prop:=∀ov iv,subscripted i false ov iv=operate [ov,iv] (getItem ov iv)
theorem y71{id:String}
  (hl:typeLookup (.type T) "__getitem__"=pure (some (.builtin id)))(hs:NoSl slice)
  (h:wpAny (model prog w) A (eval value env) (fun o s₁=>wpAny (model prog w) A (eval slice env) (fun i s₂=>s₂.TypeIs o T/\wpAny (model prog w) A (getItem o i) Q E s₂) E s₁) E s):
  wpAny (model prog w) A (eval (.Subscript value slice pos) env) Q E s:=by
 refine Subscript_ (wpAny_mono h (fun o s₁ h₁=>wpAny_mono h₁ (fun i s₂ h₂=>?_) fun _ _ x=>x) fun _ _ x=>x)
 obtain⟨hT,h₂⟩:=h₂;unfold subscriptTail;refine wpAny_bind ?_;rw[getitemInPython_of_ne hT.not_modules];refine wpAny_bind (wpAny_specialOf hT hl ?_)
 have fin:wpAny (model prog w) A (subscripted slice false o i) (fun r s₃=>wpAny (model prog w) A (letTemporaryGo value o r >>= fun _=>pure r) Q E s₃) E s₂:=by
  rw[hs o i];exact wpAny_operating (wpAny_mono h₂ (fun r s₃ h₃=>wpAny_bind (wpAny_letTemporaryGo (wpAny_pure h₃))) fun _ _ x=>x)
 grind [wpAny_pure,wpAny_bind]
theorem x52(I:Inv X pins σ H s)(g:DGet H a y o):s.TypeIs (.ref a) "dict":=by
 rcases g with⟨kvs,k,e,_,_⟩|⟨sh,kvs,kas,k,b,e,_,_,_⟩
 ·obtain⟨_,_,vs,_,dd⟩:=x3x I.hok e;exact dd.typeIs
 ·obtain⟨_,_,xs,_,_,dd⟩:=x3z I.hok e;exact dd.typeIs
def tDGet(td ty:TE):TE:=fun σ H Q=>td σ H fun x H1=>ty σ H1 fun y H2=>∃a v,x=.ref a/\DGet H2 a y (some v)/\Q v H2
def tDIn(ty td:TE):TE:=fun σ H Q=>ty σ H fun y H1=>td σ H1 fun x H2=>∃a o,x=.ref a/\DGet H2 a y o/\Q (.bl o.isSome) H2
def sDPut(td ty tv:TE):TS:=fun D σ H=>tv σ H fun v H1=>td σ H1 fun x H2=>ty σ H2 fun y H3=>∃a H4,x=.ref a/\DPut H3 a y v H4/\D.nx σ H4
theorem x6r(hu:X.A.units+20<cLine)(ho:PE X o td)(hi:PE X i ty)(hs:NoSl i):PE X (.Subscript o i pos) (tDGet td ty):=by
 intro pins s σ H Q I h;refine y71 PySem.F.slot_dict_getitem.lookup hs (thn (ho pins s σ H _ I h) fun u s1 ⟨x,H1,I1,rx,q1⟩=>thn (hi pins s1 σ H1 _ I1 q1) fun iv s2 ⟨y,H2,I2,ry,a,v,ex,g,q2⟩=>?_)
 subst ex;obtain rfl:u=Value.ref a:=rx;exact⟨x52 I2 g,y0j hu I2 g ry fun w' s3 I3 rw'=>⟨v,H2,I3,rw',q2⟩⟩
theorem y0l(hu:X.A.units+20<cLine)(hi:PE X i ty)(ho:PE X o td):PC X .In i o (tDIn ty td):=by
 intro pins s σ H Q I h;refine thn (hi pins s σ H _ I h) fun iv s1 ⟨y,H1,I1,ry,q1⟩=>thn (ho pins s1 σ H1 _ I1 q1) fun u s2 ⟨x,H2,I2,rx,a,ov,ex,g,q2⟩=>?_
 subst ex;obtain rfl:u=Value.ref a:=rx;exact d_in hu I2 g ry fun s3 I3=>⟨.bl ov.isSome,H2,I3,rfl,q2⟩
theorem y72(hu:X.A.units+20<cLine)(ho:PE X o td)(hi:PE X i ty)(hv:PE X value tv)(hs:swapsWith value (some (.Subscript o i pos')) pos.line X.env=pure false):
  PS X (.Assign [.Subscript o i pos'] value pos) (sDPut td ty tv):=by
 intro pins s σ H D I h;refine wpAny_Assign_Subscript (thn (hv pins s σ H _ I h) fun r s1 ⟨v,H1,I1,rv,q1⟩=>thn (ho pins s1 σ H1 _ I1 q1) fun u s2 ⟨x,H2,I2,rx,q2⟩=>thn (hi pins s2 σ H2 _ I2 q2) fun iv s3 ⟨y,H3,I3,ry,a,H4,ex,g,q3⟩=>?_) hs
 subst ex;obtain rfl:u=Value.ref a:=rx;exact y0k hu I3 g ry rv fun s4 I4=>⟨σ,H4,I4,q3⟩
theorem y3m(h:Heap)(hb:sysModules<h.objs.size):ObjOk P w H (h.push {cls:=.type "dict", data:=.dict #[]}) h.objs.size (.dK []):=
 ⟨w1c _,beq_eq_false_iff_ne.mpr (Ne.symm (w0u hb)),[],.nil,Heap.DictOf.new h⟩
def tDNewK:TE:=fun _ H Q=>∀p,H p=none->Q (.ref p) (upd H p (.dK []))
theorem y3n:PE X (.Dict [] [] pos) tDNewK:=fun pins s σ H Q I h=>
 wpAny_Dict_empty ⟨.ref s.heap.objs.size,_,I.laid (a:=s.heap.objs.size) (o:=.dK []) (t':=s.toks) (fun _ _ q=>Heap.get?_push_of_some _ q) (w0b _) (y3m s.heap I.big),rfl,h _ (I.hok.fresh (w0b _))⟩
end L2
namespace D
open PySem L2 PySem.Spec PyProof.Rows
variable{X:Cx}{σ:L2.St}{EE:L2.St->XK}{i:Nat}{K:PySem.W.Frag}{x:Str}{Z:Zt}
def lk{κ:Type} [DecidableEq κ](kvs:List (κ×Sv))(x:κ):Option Sv:=(kvs.find? fun p=>decide (p.1=x)).map (·.2)
def putL{κ:Type} [DecidableEq κ](kvs:List (κ×Sv))(x:κ)(v:Sv):List (κ×Sv):=if(kvs.any fun p=>decide (p.1=x))=true then kvs.map (fun p=>if p.1=x then(p.1,v)else p)else kvs++[(x,v)]
theorem x40 [DecidableEq κ](x):∀kvs:List (κ×Sv),valV (kvV kvs) x=(lk kvs x).map sV
 |[]=>rfl
 |p::r=>by
  have ih:=x40 x r
  by_cases h:p.1=x
  all_goals simp_all [kvV,q6x,lk,q6y]
theorem z2z [DecidableEq κ](x)(v)(kvs:List (κ×Sv)):putK (kvV kvs) x (sV v)=kvV (putL kvs x v):=by
 unfold putK putL kvV;rw[List.any_map];have e:((fun kv:κ×V=>decide (kv.1=x)) ∘ fun p:κ×Sv=>(p.1,sV p.2))=fun p:κ×Sv=>decide (p.1=x):=rfl
 rw[e];split
 ·rw[w1a,w1a];refine w1u fun p _=>?_
  grind
 grind
def keyW:W->Option Key
 |.int i=>some (.inl i)
 |.str x=>some (.inr x)
 |_=>none
def svW:W->Option Sv
 |.int i=>some (.inl i)
 |.bl b=>some (.inr b)
 |_=>none
def wSv:Sv->W
 |.inl i=>.int i
 |.inr b=>.bl b
theorem x13(p:Rep K G w v)(h:keyW w=some k):v=kV k:=by
 cases w<;>cases h<;>exact p
theorem z20(p:Rep K G w v)(h:svW w=some k):v=sV k:=by
 cases w<;>cases h<;>exact p
theorem y0m(k):Rep K G (wSv k) (sV k):=by cases k<;>rfl
def dicOf:W->Option (List (Key×Sv))
 |.dic (.k kvs)=>some kvs
 |_=>none
theorem x41(h:dicOf w=some kvs):w=.dic (.k kvs):=by
 cases w with
 |dic d=>cases d<;>cases h;rfl
 |_=>cases h
def inD(w d:W):Option W:=(keyW w).bind fun k=>(dicOf d).map fun kvs=>.bl (lk kvs k).isSome
def ixD(d w:W):Option W:=(keyW w).bind fun k=>(dicOf d).bind fun kvs=>(lk kvs k).map wSv
theorem y0n:Op2 K (fun y x H Q=>∃a o,x=.ref a/\DGet H a y o/\Q (.bl o.isSome) H) inD:=by
 intro G H x y wx wy w Q s px py hf h;obtain⟨k,hk,hf⟩:=w2k.mp hf;obtain⟨kvs,hd,hf⟩:=w0t.mp hf;cases hf;cases x13 px hk;cases x41 hd;obtain⟨e,rfl,he⟩:=py;refine⟨e,_,rfl,DGet.k (k:=k) (s _ _ he),h G _ H (.refl s) ?_⟩;rw[x40,w2a];rfl
theorem z21:Op2 K (fun x y H Q=>∃a v,x=.ref a/\DGet H a y (some v)/\Q v H) ixD:=by
 intro G H x y wx wy w Q s px py hf h;obtain⟨k,hk,hf⟩:=w2k.mp hf;obtain⟨kvs,hd,hf⟩:=w2k.mp hf;obtain⟨v,hv,rfl⟩:=w0t.mp hf;cases x13 py hk;cases x41 hd;obtain⟨e,rfl,he⟩:=px;have g:=DGet.k (k:=k) (s _ _ he);rw[x40,hv]at g;exact⟨e,_,rfl,g,h G _ H (.refl s) (y0m v)⟩
section
variable{a b e k:Expr}{da db d dk:Den W}{pos p tpos:Pos}
theorem z22(hu:X.A.units+150<cLine)(ha:DE Z X EE a da)(hb:DE Z X EE b db)(hm:behindInMarks .In b=false:=by rfl):DE Z X EE (.Compare a [.In] [b] pos) (dOp inD da db):=
 PE.mono (y9x (y0l (by omega) ha hb) hm) (q32 y0n)
theorem z23(hu:X.A.units+150<cLine)(ha:DE Z X EE a da)(hb:DE Z X EE b db)(hm:behindInMarks .In b=false:=by rfl):DT Z X EE (.Compare a [.In] [b] pos) (dTest (dOp inD da db)):=
 PT.mono (y9y (y0l (by omega) ha hb) hm) fun σ H Q h=>q32 y0n σ H _ (x2l h)
theorem z24(hu:X.A.units+150<cLine)(ha:DE Z X EE a da)(hb:DE Z X EE b db)(hs:NoSl b:=by intro _ _;rfl):DE Z X EE (.Subscript a b pos) (dOp ixD da db):=
 PE.mono (x6r (by omega) ha hb hs) (q32 z21)
theorem Rel.dic{G H:Hp}{e:List S}(r:Rel K Z G σ H e){kvs:Dd}(h:e[i]?=some (.dic kvs)):∃a,σ[i]?=some (some (.ref a))/\H a=some (dO kvs)/\G a=none/\Z.H a=none:=by
 obtain⟨a,h1,h2,h3,h4⟩:=r.slot i _ h;refine⟨a,?_,h2,h3,h4⟩;cases q:σ[i]? with
 |none=>rw[q]at h1;cases h1
 |some z=>rw[q]at h1;rw[show z=some (.ref a)from h1]
theorem Rel.setDic{G H:Hp}{e:List S}(r:Rel K Z G σ H e){kvs:Dd}{a:Addr}(h2:H a=some (dO kvs))(h3:G a=none)(h4:Z.H a=none):Rel K Z G (σ.set i (some (.ref a))) H (e.set i (.dic kvs)):=by
 refine⟨r.sub,fun j s z=>?_,by simpa using r.len,fun j k b1 b2 w1 w2 c z1 z2 z3 z4=>?_,r.ent,r.ion,r.gen⟩
 ·by_cases hj:j=i
  ·subst hj
   have hi:j<e.length:=by
    have:=(w0n.mp z).1;simpa using this
   rw[w0m hi]at z;cases z;rw[w0m (by rw[<- r.len];exact hi)];exact⟨a,rfl,h2,h3,h4⟩
  ·rw[w0h (fun z=>hj z.symm)]at z |-
   exact r.slot j s z
 ·have old:∀(k:Nat)(bb:Option Nat)(ww:List W),(e.set i (S.dic kvs))[k]?=some (.own bb ww)->k≠i/\e[k]?=some (.own bb ww):=fun k bb ww z=>by
   by_cases hk:k=i
   ·subst hk
    have hi:k<e.length:=by
     have:=(w0n.mp z).1;simpa using this
    rw[w0m hi]at z;cases z
   ·rw[w0h (fun z=>hk z.symm)]at z;exact⟨hk,z⟩
  obtain⟨n1,q1⟩:=old _ _ _ z1;obtain⟨n2,q2⟩:=old _ _ _ z2;rw[w0h (fun z=>n1 z.symm)]at z3
  rw[w0h (fun z=>n2 z.symm)]at z4
  exact r.dis _ _ _ _ _ _ _ q1 q2 z3 z4
def isD:S->Bool
 |.dic _=>true
 |.dw sh _ _=>sh.isI
 |_=>false
theorem Rel.mutDic{G H:Hp}{e:List S}(r:Rel K Z G σ H e){kvs kvs':Dd}{a:Addr}(h:e[i]?=some (.dic kvs))(ha:σ[i]?=some (some (.ref a)))(ho:∀j s,j≠i->e[j]?=some s->isD s=false):Rel K Z G σ (upd H a (dO kvs')) (e.set i (.dic kvs')):=by
 obtain⟨a',h1,h2,h3,h4⟩:=r.dic h;rw[ha]at h1;cases h1;have hi:i<e.length:=(w0n.mp h).1;refine⟨fun c o z=>?_,fun j s z=>?_,by simpa using r.len,fun j k b1 b2 w1 w2 c z1 z2 z3 z4=>?_,fun c o z n=>?_,fun c z=>?_,r.gen⟩
 ·rw[q0f (q0o z h3)];exact r.sub c o z
 ·by_cases hj:j=i
  ·subst hj;rw[w0m hi]at z;cases z;exact⟨a,by rw[ha];rfl,q0j,h3,h4⟩
  ·rw[w0h (fun z=>hj z.symm)]at z
   have y:=r.slot j s z;cases s with
   |no=>trivial
   |fr w=>exact y
   |own b2 w2=>
    obtain⟨c,ys,y1,y2,y3,y4,y5⟩:=y;refine⟨c,ys,y1,?_,y3,y4,y5⟩;rw[q0f (q0u y2 h2 (fun z=>q3k rfl z.symm))];exact y2
   |dic kv=>have:=ho j _ hj z;cases this
   |thr us w2 vs=>
    obtain⟨t,l,o,xs2,ys,zs,y1,y2,y3,y4,y5,y6⟩:=y;refine⟨t,l,o,xs2,ys,zs,y1,y2,?_,y4,y5,y6⟩;rw[q0f (q0u y3 h2 (fun z=>q3k rfl z.symm))];exact y3
   |nest wss=>exact NestOk.move y (.refl _) fun l o ys k1 k2 k3=>⟨by rw[q0f (q0u k1 h2 (fun z=>q3k rfl z.symm))];exact k1,k2,k3⟩
   |x k=>exact XOk.move y (.refl _) fun l o ys k1 k2 k3=>⟨by rw[q0f (q0u k1 h2 (fun z=>q3k rfl z.symm))];exact k1,k2,k3⟩
   |dw sh ks ws=>
    have hI:sh.isI=false:=ho j _ hj z;exact DwOk.move y (.refl _) fun l o ys k1 k2 k3=>⟨by rw[q0f (q0u k1 h2 (fun z=>by rw[z4g hI]at z;exact q3k rfl z.symm))];exact k1,k2,k3⟩
 ·have old:∀(k:Nat)(bb:Option Nat)(ww:List W),(e.set i (S.dic kvs'))[k]?=some (.own bb ww)->e[k]?=some (.own bb ww):=fun k bb ww z=>by
   by_cases hk:k=i
   ·subst hk;rw[w0m hi]at z;cases z
   ·rw[w0h (fun z=>hk z.symm)]at z;exact z
  exact r.dis _ _ _ _ _ _ _ (old _ _ _ z1) (old _ _ _ z2) z3 z4
 ·rw[q0f (q0o z h4)];exact r.ent c o z n
 ·by_cases hc:c=a
  ·subst hc;rw[q0j];exact fun z=>nomatch z
  ·rw[q0f hc];exact r.ion c z
def dSetD(i:Nat):List S->SR:=fun e=>.nx (e.set i (.dic (.k [])))
theorem y73(i:Nat){pos' dpos:Pos}(hN:X.N.Nodup)(hi:X.N[i]?=some x:=by rfl)(hx:Loc X.env.scope x:=by walk_at "3")(hs:swapsWith (.Dict [] [] dpos) (some (.Name x pos')) pos.line X.env=pure false:=by rfl)(hf:X.fn x=true\/X.env.scope.names.lookup x=some .local:=by walk_at "2"):
  DS Z X EE (.Assign [.Name x pos'] (.Dict [] [] dpos) pos) (dSetD i):=by
 refine PS.mono (x0x i hN y3n hi hx hs hf) ?_;rintro D σ H ⟨G,e,rel,h⟩;intro q hq;have g:=Grow.hid rel.sub hq (.dK []);exact h G _ _ ((rel.grow g).setDic (kvs:=.k []) q0j (rel.sub.free hq) (q6u rel hq)) (.refl _)
def dRetD(i:Nat):List S->SR:=fun e=>match e[i]? with
 |some (.dic d)=>.rt (.dic d) e
 |_=>.no
theorem y74(i:Nat)(hN:X.N[i]?=some x:=by rfl)(hv:Vis X.env.scope x:=by walk_at "1")(hd:(x==("__debug__":Str))=false:=by decide)
  (hcd:(x==("__classdict__":Str))=false:=by decide):DS Z X EE (.Return (some (.Name x p)) pos) (dRetD i):=by
 refine PS.mono (q8h (pv i hN hv hd hcd)) ?_;rintro D σ H ⟨G,e,rel,h⟩;unfold dRetD at h;split at h
 ·rename_i kvs hw;obtain⟨a,h1,h2,h3,h4⟩:=rel.dic hw;exact⟨.ref a,h1,h G σ _ H rel (.refl _) ⟨a,rfl,h2,h3,h4⟩⟩
 ·exact h.elim
def onlyD(i:Nat)(e:List S):Bool:=(List.range e.length).all fun j=>decide (j=i)||!((e[j]?.map isD).getD false)
theorem y75{e:List S}(h:onlyD i e=true):∀j s,j≠i->e[j]?=some s->isD s=false:=fun j s hj hs=>by
 have hl:j<e.length:=(w0n.mp hs).1;have:=w1s.mp h j (w2n.mpr hl)
 grind
def putDC(i:Nat)(w kw:W)(e:List S):Option S->SR
 |some (.dic (.k kvs))=>match svW w,keyW kw with
  |some v,some x=>if kvs.length<16777216/\onlyD i e=true then .nx (e.set i (.dic (.k (putL kvs x v))))else .no
  |_,_=>.no
 |_=>.no
def dPutD(i:Nat)(d dk:Den W):List S->SR:=fun e=>(d e).stm fun w e1=>match e1[i]? with
 |some (.dic _)=>(dk e1).stm fun kw e2=>putDC i w kw e2 e2[i]?
 |_=>.no
theorem y76(i:Nat)(hu:X.A.units+150<cLine)(he:DE Z X EE e d)(hk:DE Z X EE k dk)(hN:X.N[i]?=some x:=by rfl)(hv:Vis X.env.scope x:=by walk_at "1")(hd:(x==("__debug__":Str))=false:=by decide)(hcd:(x==("__classdict__":Str))=false:=by decide)
  (hs:swapsWith e (some (.Subscript (.Name x p) k tpos)) pos.line X.env=pure false:=by rfl):DS Z X EE (.Assign [.Subscript (.Name x p) k tpos] e pos) (dPutD i d dk):=by
 refine PS.mono (y72 (by omega) (pv i hN hv hd hcd) hk he hs) ?_;rintro D σ H ⟨G,e,rel,h⟩;refine⟨G,e,rel,(q0x h).imp (fun w e1 h G1 v1 H1 r1 s1 p1=>?_) fun _ _ h=>h⟩
 split at h
 ·rename_i kv0 he0;obtain⟨a,q1,q2,q3,q4⟩:=r1.dic he0;refine⟨.ref a,q1,G1,e1,r1,(q0x (σ:=σ) h).imp (fun kw e2 h G2 v2 H2 r2 s2 p2=>?_) fun _ _ h G' H' r s=>h G' H' r (s1.trans s)⟩
  unfold putDC at h;split at h
  ·rename_i kvs he2;obtain⟨a',g1,g2,g3,g4⟩:=r2.dic he2;rw[q1]at g1;cases g1;split at h
   ·rename_i v t hv1 hk1;split at h
    ·rename_i hc;cases z20 p1 hv1;cases x13 p2 hk1;refine⟨a,_,rfl,DPut.k (k:=t) g2 (by rw[sizeLine_eq];unfold kvV;rw[w0j];exact hc.1),?_⟩;rw[z2z];exact h G2 σ _ (r2.mutDic (kvs':=.k (putL kvs t v)) he2 q1 (y75 hc.2)) (s1.trans s2)
    ·exact h.elim
   ·exact h.elim
  ·exact h.elim
 ·exact h.elim
end
def lkB(kvs:List (Key×Sv))(k:Key):Option Bool:=match lk kvs k with
 |some (.inr b)=>some b
 |_=>none
def keysB(kvs l:List (Key×Sv)):List Key:=(l.filter fun p=>lkB kvs p.1==some true).map (·.1)
def kW:Key->W
 |.inl i=>.int i
 |.inr x=>.str x
def keysC(e:List S):Option S->R (List W)
 |some (.dic (.k kvs))=>if kvs.length<16777216/\(kvs.all fun p=>(lkB kvs p.1).isSome)=true then .ok ((keysB kvs kvs).map kW) e else .no
 |_=>.no
theorem y77:keysC e (some (.dic (.k kvs)))=if kvs.length<16777216/\(kvs.all fun p=>(lkB kvs p.1).isSome)=true then .ok ((keysB kvs kvs).map kW) e else .no:=rfl
theorem y78:dSetD i e=.nx (e.set i (.dic (.k []))):=rfl
def putD0(i:Nat)(dk:Den W)(w:W)(e1:List S):Option S->SR
 |some (.dic _)=>(dk e1).stm fun kw e2=>putDC i w kw e2 e2[i]?
 |_=>.no
theorem y79:dPutD i d dk e=(d e).stm fun w e1=>putD0 i dk w e1 e1[i]?:=by
 unfold dPutD putD0;rfl
theorem y8a:putD0 i dk w e (some (.dic dd))=(dk e).stm fun kw e2=>putDC i w kw e2 e2[i]?:=rfl
theorem y3o:putDC i (.bl b) (.int n) e (some (.dic (.k kvs)))=if kvs.length<16777216/\onlyD i e=true then .nx (e.set i (.dic (.k (putL kvs (.inl n) (.inr b)))))else .no:=rfl
theorem y3p:hide1 (.dic dd)=.fr (.dic dd):=rfl
theorem z5z:ixD (.dic (.k kvs)) (.int n)=(lk kvs (.inl n)).map wSv:=rfl
end D
namespace L2
open PySem PySem.Spec PyProof.Rows
end L2
namespace D
open PySem L2
end D
namespace L2
open PySem PySem.Spec PyProof.Rows
section
open HT
theorem q8d{lo:Option Int}(ht:IsTup s.heap t items)(hs:s.heap.IsSliceOf sl vl vu .none)(pl:IsPart vl lo)(pu:IsPart vu hi)
  (hw:sIx items.size 0 lo=0/\sIx items.size items.size hi=items.size)(h:Q (.ref t) s):wpAny (model prog w) A (getItem (.ref t) (.ref sl)) Q E s:=by
 obtain⟨os,hos,hcs,hds⟩:=id hs;have hTs:s.TypeIs (.ref sl) "slice":=⟨os,hos,hcs⟩;unfold getItem;try with_reducible refine wpAny_holding ?_
 first|refine wpAny_bind (wpAny_pure ?_)|skip
 refine wpAny_bind (wpAny_sequenceKey ht.typeIs (by decide) ?_)
 refine wpAny_bind (wpAny_callSpecial?_slot (name:=Str.ofString "__getitem__") ht.typeIs PyProof.Rows.slot_tuple_getitem
  (wpAny_call_entry PyProof.Rows.slot_tuple_getitem ht.typeIs entry_tuple_getitem ?_ (args_tuple_getitem _ _)))
 show wpAny _ _ (Builtin.Tuple.tupleItemsOf (.ref t) >>= _) _ _ s;refine wpAny_bind (tupleItemsOf_ ht ?_);refine wpAny_bind (wpAny_typeOf hTs ?_);rw[if_pos (by decide)];refine wpAny_bind (q6q hs pl pu ?_);show wpAny _ _ (if(((sIx items.size 0 lo:Nat):Int)==0&&(1:Int)==1&&(sIx items.size items.size hi-sIx items.size 0 lo)==items.size)=true then _ else _) _ _ s;rw[if_pos (by rw[hw.1,hw.2];simp)];refine wpAny_bind (wpAny_bind (wpAny_typeOf ht.typeIs (wpAny_pure ?_)));rw[if_pos (by decide)];exact wpAny_bind (wpAny_rule (wpAny_pure ⟨_,rfl,wpAny_pure h⟩))
end
theorem y8b:SlR X (fun x lo hi H Q=>∃a xs,x=.ref a/\SqT X.K H a xs/\(HT.sIx xs.length 0 lo=0/\HT.sIx xs.length xs.length hi=xs.length)/\Q x H):=by
 intro pins s σ H x v vl vu lo hi sl Q I rx hs pl pu h;obtain⟨a,xs,rfl,hx,hw,q⟩:=h;cases rx;obtain⟨its,r,ht,hz⟩:=I.tuple hx;have hlen:its.toArray.size=xs.length:=by rw[w1z];exact r.length.symm
 refine⟨"tuple", _,PyProof.Rows.slot_tuple_getitem.lookup,ht.typeIs,?_⟩;exact q8d ht hs pl pu (by rw[hlen];exact hw) ⟨.ref a,H,I,rfl,q⟩
def rSlS:V->Option Int->Option Int->Hp->VK->Prop:=fun x lo hi H Q=>∃z,x=.str z/\z.length<=sizeLine/\Q (.str (Txt.slice z lo hi)) H
theorem x6s(p:IsPart v o):∃q:Option (Int×Tok),v=partValue q/\q.map (·.1)=o:=by
 cases p with
 |none=>exact⟨none,rfl,rfl⟩
 |int i t=>exact⟨some (i,t),rfl,rfl⟩
theorem z25:SlR X rSlS:=by
 intro pins s σ H x v vl vu lo hi sl Q I rx hs pl pu h;obtain⟨z,rfl,hz,q⟩:=h;obtain⟨t,rfl⟩:=rx;obtain⟨ql,rfl,e1⟩:=x6s pl;obtain⟨qu,rfl,e2⟩:=x6s pu;refine⟨"str", _,F.slot_str_getitem.lookup,typeIs_str _ _ _,?_⟩;refine wpAny_getItem_str_slice (l:=ql) (u:=qu) (st:=none) hs rfl ?_
 have e3:sliceMade z t ql qu none=if((1:Int)==1&&(Builtin.Str.strSliceIndices lo hi 1 z.length).length==z.length)=true then .val (.str z t)else .str ⟨((Builtin.Str.strSliceIndices lo hi 1 z.length).filterMap (z.cps[·]?)).toArray⟩:=by
  grind [sliceMade,slicePicked]
 rw[e3];have hq:Q (.str (Txt.slice z lo hi)) H:=q;have hl:=Txt.slice_le z lo hi;unfold Txt.slice at hq hl;split
 ·rename_i c;rw[if_pos c]at hq;exact⟨.str z,H,I,⟨t,rfl⟩,hq⟩
 ·rename_i c;rw[if_neg c]at hq hl;exact⟨w0v hl hz,.str _,H,I.tok _,⟨_,rfl⟩,hq⟩
def signs(x:Str):List V:=x.cps.toList.map fun c=>V.str ⟨#[c]⟩
def Itx(x:Str):It:=⟨fun i _=>i<x.cps.size,fun i H v H'=>H'=H/\(signs x)[i]?=some v,fun i _=>x.cps.size<=i⟩
theorem y3q{K:PySem.W.Frag}(x)(t)(it)(hT:T="str_ascii_iterator"\/T="str_iterator"):Turn P w K tg (Itx x) [it] it (fun i h=>h.IsStrIter it T x t i) where
 mem:=by simp
 obj:=fun i h st b hb=>by
  have e:b=it:=by simpa using hb
  subst e;obtain⟨o,e,c,d⟩:=st
  grind
 keep:=fun i h h' st k=>by
  obtain⟨o,e,c,d⟩:=st;exact⟨o,k it (by simp) o e,c,d⟩
 item:=by
  intro X hP hw hK hc i pins s σ H E I hf st hg;subst hP hw hK;have hg:i<x.cps.size:=hg;obtain⟨f0,f1,f2,f3,f4,f5⟩:=hf it (by simp)
  have fin:∀v h' tk,SignAt x i v->h'.IsStrIter it T x t (i+1)->(∀b o,b∉[it]->s.heap.get? b=some o->h'.get? b=some o)->∃u,some v=some u /\
    wpAny (model X.prog X.w) X.A (letOwnedTupleGo tg (.ref it) u) (fun _ s2=>∃y H',Inv X pins σ H' s2/\RelV y u/\(Itx x).yld i H y H'/\s2.heap.IsStrIter it T x t (i+1)/\∀b∈[it],H' b=none) E {s with heap:=h',toks:=tk}:=by
   intro v h' tk hv st' kk;obtain⟨c,u,hcx,rfl⟩:=hv;have I1:Inv X pins σ H {s with heap:=h',toks:=tk}:=I.turned (fun b o hb e=>kk b o (by simpa using hb) e) f0 f1 f3 f4 f5
   obtain⟨o,e,cc,d⟩:=id st';refine⟨_,rfl,x3q (s:={s with heap:=h',toks:=tk}) e cc d (by grind) ⟨.str ⟨#[c]⟩,H,I1,⟨u,rfl⟩,⟨rfl,?_⟩,st',fun b hb=>(hf b hb).1⟩⟩
   grind [signs]
  rcases hT with rfl|rfl
  ·exact(Walks.strAscii (prog:=X.prog) (w:=X.w) (I.ok.hd hc) it x t).item i s _ _ hg st fin
  ·exact(Walks.strWide (prog:=X.prog) (w:=X.w) (I.ok.hd hc) it x t).item i s _ _ hg st fin
 done:=by
  intro X hP hw hK hc i pins s σ H E I hf st hg;subst hP hw hK;have hg:x.cps.size<=i:=hg;obtain⟨f0,f1,f2,f3,f4,f5⟩:=hf it (by simp);rcases hT with rfl|rfl
  ·exact wpAny_pyNext_ascii_end (I.ok.hd hc) st (by simp;omega) fun h' eb=>⟨rfl,I.turned (t':=s.toks) (fun b o hb e=>eb b o hb e) f0 f1 f3 f4 f5⟩
  ·exact wpAny_pyNext_wide_end (I.ok.hd hc) st (by simp;omega) fun h' eb=>⟨rfl,I.turned (t':=s.toks) (fun b o hb e=>eb b o hb e) f0 f1 f3 f4 f5⟩
 self:=fun A i s Q E st h=>by
  grind [wpAny_pyIter_striter_ascii,wpAny_pyIter_striter_wide]
def iStr(tl:TE):TI:=fun σ H R=>tl σ H fun x H1=>∃z,x=.str z/\R (Itx z) H1
theorem z26(hl:PE X l tl):PI X tg l (iStr tl):=by
 intro pins s σ H R I h;refine thn (hl pins s σ H _ I h) fun v s1 ⟨x,H1,I1,r1,q1⟩=>?_
 obtain⟨z,e,q⟩:=q1;subst e;obtain⟨t,rfl⟩:=r1;refine wpAny_pyIter_strU ?_;refine⟨s1.heap.objs.size,[s1.heap.objs.size],_,_,H1,rfl,I1.kept (t':=s1.toks) fun b o e=>Heap.get?_push_of_some _ e,y3q (T:=strIterType z) z t _ ?_,⟨_,Heap.get?_push_size _ rfl,rfl,rfl⟩,fun b hb=>?_,q⟩
 ·grind [strIterType]
 ·have e:b=s1.heap.objs.size:=by simpa using hb
  subst e;exact I1.fpOk (w0b _) (I1.hok.fresh (w0b _))
end L2
namespace D
open PySem L2
variable{EE:L2.St->XK}{N ps:List Str}{i:Nat}{apos cpos p pos:Pos}{K:PySem.W.Frag}{x y:Str}{Z:Zt}
def slX:W->Option Int->Option Int->Option W
 |.str z,lo,hi=>if z.length<=16777216 then some (.str (Txt.slice z lo hi))else none
 |.tup ws,lo,hi=>if ¬(HT.sIx ws.length 0 lo=0/\HT.sIx ws.length ws.length hi=ws.length)then some (.tup (cutW ws lo hi))else some (.tup ws)
 |w,lo,hi=>slW w lo hi
def dSlX(d:Den W)(dl dh:Den (Option Int)):Den W:=fun e=>(d e).bind fun w e1=>(dl e1).bind fun lo e2=>(dh e2).bind fun hi e3=>ofOpt (slX w lo hi) e3
section
variable{X:Cx}{e a b:Expr}{da db:Den W}
theorem q1s(he:DE Z X EE e da)(hl:DO Z X EE lo dl)(hh:DO Z X EE hi dh):DE Z X EE (.Subscript e (.Slice lo hi none p2) pos) (dSlX da dl dh):=by
 refine PE.mono (y2h (((sl_list.or z0f).or y8b).or z25) he hl hh) ?_;rintro σ H Q ⟨G,e,rel,h⟩;simp only[dSlX,R.holds_bind,ofOpt_holds]at h;refine⟨G,e,rel,h.imp (fun w e1 h G1 v1 H1 r1 s1 p1=>?_) fun _ _ h=>h⟩
 refine⟨G1,e1,r1,h.imp (fun lo e2 h G2 H2 r2 s2=>?_) fun _ _ h=>XH.trans s1 h⟩
 refine⟨G2,e2,r2,h.imp (fun hi e3 h G3 H3 r3 s3=>?_) fun _ _ h=>XH.trans (s1.trans s2) h⟩
 obtain⟨y,hf,h⟩:=h;have p3:=Rep.mono (s2.trans s3) w p1;have s03:=(s1.trans s2).trans s3;cases w with
 |str z=>
  simp only[slX]at hf;split at hf
  ·rename_i hz;cases hf;cases p3;exact .inr ⟨z,rfl,by grind [sizeLine_eq],h _ _ _ r3 s03 rfl⟩
  ·cases hf
 |lst ws=>
  cases hf;obtain⟨a,xs,rfl,q,r⟩:=p3;refine .inl (.inl (.inl ⟨a,xs,rfl,r3.sub.seq q,fun p hp=>?_⟩))
  have g:=Grow.laid r3.sub hp (.lst (cutV xs lo hi));exact h _ _ _ (r3.grow g) (s03.trans g.gg) ⟨p,_,rfl,SqL.of q0j,Reps.mono g.gg _ (r.cut lo hi)⟩
 |tup ws=>
  simp only[slX]at hf;obtain⟨a,xs,rfl,q,r⟩:=p3;split at hf
  ·rename_i hw;cases hf;refine .inl (.inl (.inr ⟨a,xs,rfl,r3.sub.tup q,by rw[r.length];exact hw,fun p hp=>?_⟩))
   have g:=Grow.laid r3.sub hp (.tup (cutV xs lo hi));exact h _ _ _ (r3.grow g) (s03.trans g.gg) ⟨p,_,rfl,SqT.of q0j,Reps.mono g.gg _ (r.cut lo hi)⟩
  ·rename_i hw;cases hf;exact .inl (.inr ⟨a,xs,rfl,r3.sub.tup q,by rw[r.length];grind,h _ _ _ r3 s03 ⟨a,xs,rfl,q,r⟩⟩)
 |_=>cases hf
def inS:W->W->Option W
 |.str i,.str j=>match i.cps.toList with
  |[c]=>some (.bl (decide (c∈j.cps.toList)))
  |_=>none
 |_,_=>none
def mulS:W->W->Option W
 |.str x,.int n=>if 1<=x.length/\x.length<=1000/\0<=n/\n<=1000 then some (.str ⟨(List.replicate n.toNat x.cps).foldl (·++·) #[]⟩)else none
 |_,_=>none
theorem y8c:OpR X (binaryOp .Mult) (fun x y H Q=>∃z n,x=.str z/\y=.int n/\1<=z.length/\z.length<=1000/\0<=n/\n<=1000/\Q (.str ⟨(List.replicate n.toNat z.cps).foldl (·++·) #[]⟩) H):=by
 intro pins s σ H x y v u Q I rx ry h;obtain⟨z,n,rfl,rfl,h1,h2,h3,h4,q⟩:=h;obtain⟨t,rfl⟩:=rx;obtain⟨t',rfl⟩:=ry
 have hlen:z.length*n.toNat<=1000000:=by
  have:n.toNat<=1000:=by omega
  calc z.length*n.toNat<=1000*1000:=Nat.mul_le_mul h2 this
   _=1000000:=rfl
 refine P.mul_str ?_ (fun n0 _=>?_) (fun _ _=>?_) ?_
 ·grind
 ·have:(1000:Int)<=(2^63-1) / n:=by
   rw[Int.le_ediv_iff_mul_le (by omega)];omega
  omega
 ·grind [Builtin.Str.tooLong,sizeLine_eq]
 ·by_cases e1:n<1
  ·have h0:n=0:=by omega
   subst h0;rw[if_pos (by decide)];exact⟨by decide,.str _,H,I.tok _,⟨_,rfl⟩,q⟩
  by_cases e0:n=1
  ·subst e0;rw[if_neg (by decide),if_pos (by simp)]
   have eq:(⟨(List.replicate (1:Int).toNat z.cps).foldl (·++·) #[]⟩:Str)=z:=by
    simp_all
   rw[eq]at q;exact⟨.str _,H,I,⟨_,rfl⟩,q⟩
  have e2:(n==1||z.length==0)=false:=by
   grind
  rw[if_neg e1,if_neg (by grind)];refine⟨?_,.str _,H,I.tok _,⟨_,rfl⟩,q⟩
  have hs:∀(m:Nat)(acc:Array Nat),((List.replicate m z.cps).foldl (·++·) acc).size=acc.size+m*z.cps.size:=by
   intro m
   induction m with
   |zero=>intro acc;simp
   |succ m ih=>
    grind
  show((List.replicate n.toNat z.cps).foldl (·++·) #[]).size<=sizeLine
  grind [sizeLine_eq,Str.length]
theorem y8d:Op2 K (fun x y H Q=>∃z n,x=.str z/\y=.int n/\1<=z.length/\z.length<=1000/\0<=n/\n<=1000/\Q (.str ⟨(List.replicate n.toNat z.cps).foldl (·++·) #[]⟩) H) mulS:=by
 intro G H x y wx wy w Q s px py hf h;unfold mulS at hf;split at hf
 ·split at hf
  ·rename_i z n hc;cases hf;cases px;cases py;exact⟨z,n,rfl,rfl,hc.1,hc.2.1,hc.2.2.1,hc.2.2.2,h G _ H (.refl s) rfl⟩
  ·cases hf
 ·cases hf
theorem x6t(ha:DE Z X EE a da)(hb:DE Z X EE b db):DE Z X EE (.BinOp a .Mult b pos) (dOp mulS da db):=q7s y8c y8d ha hb
def reprK:W->Option Str
 |.str z=>if(reprText z).length<=1000000 then some (reprText z)else none
 |_=>none
end
def signsW(x:Str):List W:=x.cps.toList.map fun c=>W.str ⟨#[c]⟩
def dCompS(js:List Nat)(di:Den W)(c:Den Bool)(d:Den W):Den (List W):=fun e=>(di e).bind fun w e1=>match w with
 |.str z=>compK js c d (signsW z) e1
 |_=>.no
section
variable{X:Cx}{elt iter a:Expr}{ifs:List Expr}{scope sc:Scope}{pt:Pos}{Nf:List Str}{js:List Nat}{di:Den W}{dA:Den (List W)}{c:Den Bool}{d:Den W}{kt:Nat}
theorem z27:Walk (Itx z) (signs z) (fun _=>True):=by
 refine⟨fun i H q h=>show i<z.cps.size by simpa [signs]using h,fun i H x H' q ⟨e,y⟩ h=>⟨e,y⟩,fun i H q h=>show z.cps.size<=i by simpa [signs]using h⟩
theorem x08:∀(l:List Nat),Reps K G (l.map fun c=>W.str ⟨#[c]⟩) (l.map fun c=>V.str ⟨#[c]⟩)
 |[]=>rfl
 |c::l=>⟨_,_,rfl,rfl,x08 l⟩
theorem x75:∀σ H Q,liftF K Z EE (dCompS js di c d) σ H Q->tComp (iStr (liftE K Z EE di)) 1 js (gName 0) (cT K c) (cE K d) σ H Q:=by
 rintro σ H Q ⟨G,e,rel,h⟩;simp only[dCompS,R.holds_bind]at h;refine⟨G,e,rel,h.imp (fun w e1 h G1 v1 H1 r1 s1 p1=>?_) fun _ _ h=>h⟩
 split at h
 ·rename_i z;cases p1;refine⟨z,rfl,?_⟩;unfold compK at h;split at h
  ·rename_i hl;split at h
   ·rename_i out ho;obtain⟨G2,s2,r2⟩:=r1.frzs js;exact q9c z27 r2 (s1.trans s2) (x08 _) (fun _ _ _ _=>trivial) hl (ionone r2) ho h
   ·exact h.elim
  ·exact h.elim
 ·exact h.elim
theorem y3r(hc:X.calm=true)(hi:DE Z X EE iter di)(ok:compOk sc scope N Nf js=true)
  (ht:∀Z' cl C s₀ H₀ ex,DTs Z' (X.cp ([x]++Nf) scope cl C s₀ H₀ ex) (fun _=>E0) ifs c)(he:∀Z' cl C s₀ H₀ ex,DE Z' (X.cp ([x]++Nf) scope cl C s₀ H₀ ex) (fun _=>E0) elt d)
  (hg:∀cl C s₀ H₀ ex,PG (X.cp ([x]++Nf) scope cl C s₀ H₀ ex) (.Name x pt) (gName 0))
  (hsc:X.env.scope=sc:=by rfl)(hN:X.N=N:=by rfl)(hs:∀x,foldedSetIterable iter X.env x=pure x:=by intro _;rfl):
  DF Z X EE (.ListComp elt [⟨.Name x pt,iter,ifs,0⟩] scope pos) (dCompS js di c d):=by
 exact PE.mono (x4c (Nl:=[x]) (tc:=cT X.K c) (te:=cE X.K d) hc (z26 hi) ok hg (x3t ht) (x3u he) hsc hN hs) x75
theorem x53(hh:A.handled=none)(it l)(hne:l≠it)(items):
  Draws prog w A it [it,l] items.size (fun i v=>items[i]?=some v) (fun i h=>h.IsTupleIter it l i/\h.IsTuple l items) where
 live:=fun _ _ st=>let ⟨o,ho,_⟩:=st.1;⟨o,ho⟩
 frame:=fun _ _ _ st hk=>⟨st.1.at fun o e=>hk it (by simp) o e,st.2.at fun o e=>hk l (by simp) o e⟩
 item:=fun i s Q E hi st hQ=>by
  refine q8t st.1 st.2 (x:=items[i]) (by simp[hi]) fun h' hit' hs'=>?_
  exact hQ _ h' s.toks (by simp[hi]) ⟨hit',st.2.extBut hs'.extBut hne⟩ hs'
 done:=fun s Q E st hE=>q7a hh st.1 st.2 (by simp) hE
theorem y0o(hh:A.handled=none)(it l)(items)(i)(hx:items[i]?=none):
  Draws prog w A it [it,l] i (fun _ _=>False) (fun j h=>j=i/\h.IsTupleIter it l j/\h.IsTuple l items) where
 live:=fun _ _ st=>let ⟨o,ho,_⟩:=st.2.1;⟨o,ho⟩
 frame:=fun _ _ _ st hk=>⟨st.1,st.2.1.at fun o e=>hk it (by simp) o e,st.2.2.at fun o e=>hk l (by simp) o e⟩
 item:=fun j s Q E hi st hQ=>absurd st.1 (w0u hi)
 done:=fun s Q E st hE=>q7a hh st.2.1 st.2.2 hx hE
def srcET(dA:Den (List W)):Den (List (W×W)):=fun e=>(dA e).bind fun ws e1=>match ws with
 |[.tup us]=>.ok (enumL 0 us) e1
 |_=>.no
def IteT(K:PySem.W.Frag)(a:Addr):It:=
 ⟨fun i H=>∃xs x,SqT K H a xs/\xs[i]?=some x,fun i H x H'=>∃b y,x=.ref b/\H b=none/\(∀xs,SqT K H a xs->xs[i]?=some y)/\H'=upd H b (.tup [.int i,y]),fun i H=>∃xs,SqT K H a xs/\xs.length<=i⟩
section
open AutoSeq1 (wpAny_loadPart')
theorem q7w(l)(items)(n)(dct)(sl):
  Meets (Builtin.«enumerate.__new__» ⟨[.type "enumerate", .ref l],[]⟩) (fun _ R s=>s.heap.get? l=some {cls:=.type "tuple", dict:=dct,data:=.seq items n,slots:=sl} /\
   R (.ok (.ret (.ref (s.heap.push {cls:=.type "tuple_iterator", data:=.fields #[.ref l,.int 0 0]}).objs.size)))
    {s with heap:=(s.heap.push {cls:=.type "tuple_iterator", data:=.fields #[.ref l,.int 0 0]}).push {cls:=.type "enumerate", data:=.fields #[.none,.bool false,.ref s.heap.objs.size,rawInt 0,.none,.none]}}):=
 .of_wp fun prog w A R s h=>by
  obtain⟨hp,g,d,tk,os⟩:=s;obtain⟨hl,h⟩:=h;have hsub:=sub_enumerate;have hL:Heap.IsTuple (Shared.heap ⟨hp,g,d,tk,os⟩) l items:=⟨_,hl,rfl,n,rfl⟩
  wp_walk using wpAny_loadPart' hl
  refine wpAny_stack_any fun st=>wpAny_pure ?_
  split
  ·rename_i c _ _ _ _ _;cases(c==Value.type "enumerate")
   ·wp_walk using wpAny_loadPart' hl,wpAny_pyIter_tuple hL
    exact⟨_,rfl,h⟩
   ·wp_walk using wpAny_loadPart' hl,wpAny_pyIter_tuple hL
    exact⟨_,rfl,h⟩
  ·wp_walk using wpAny_loadPart' hl,wpAny_pyIter_tuple hL
   exact⟨_,rfl,h⟩
end
theorem q7x{s:Shared}(hL:s.heap.IsTuple l items)
  (h:∀h',IsEnum h' (s.heap.objs.size+1) s.heap.objs.size 0 .none->h'.IsTupleIter s.heap.objs.size l 0->h'.objs.size=s.heap.objs.size+2 ->
   (∀b o,s.heap.get? b=some o->h'.get? b=some o)->Q (.ref (s.heap.objs.size+1)) {s with heap:=h'}):
  wpAny (model prog w) A (call (.type "enumerate") [.ref l]) Q E s:=by
 obtain⟨⟨c,dct,dt,sl⟩,hl,hc,n,hd⟩:=hL
 replace hc:c=.type "tuple":=hc
 replace hd:dt=.seq items n:=hd
 subst hc hd
 refine callType_new F.called_enumerate (by decide) (F.typeCall_enumerate_1 _) (F.newCall_enumerate_1 _) (fun obj=>F.args_object_init_2 obj _) F.entry_enumerate_new
  (q7w l items n dct sl) ⟨hl,?_⟩
 have hz:(s.heap.push {cls:=.type "tuple_iterator", data:=.fields #[.ref l,.int 0 0]}).objs.size=s.heap.objs.size+1:=Heap.size_push ..;show _/\_;rw[hz]
 have he:IsEnum ((s.heap.push {cls:=.type "tuple_iterator", data:=.fields #[.ref l,.int 0 0]}).push
   {cls:=.type "enumerate", data:=.fields #[.none,.bool false,.ref s.heap.objs.size,rawInt 0,.none,.none]}) (s.heap.objs.size+1) s.heap.objs.size 0 .none:=by
  have:=Heap.get?_push_size (s.heap.push {cls:=.type "tuple_iterator", data:=.fields #[.ref l,.int 0 0]})
   (o:={cls:=.type "enumerate", data:=.fields #[.none,.bool false,.ref s.heap.objs.size,rawInt 0,.none,.none]}) rfl
  grind
 refine⟨⟨_,he,rfl⟩,h _ he ⟨_,Heap.get?_push_of_some _ (Heap.get?_push_size _ rfl),rfl,rfl⟩ (by rw[Heap.size_push,hz]) fun b o x=>Heap.get?_push_of_some _ (Heap.get?_push_of_some _ x)⟩
theorem x76(a e it)(hne:e≠it):Turn P w K (.Tuple elts kt pt) (IteT K a) [e,it] e (fun i h=>∃old,PySem.IsEnum h e it (i:Nat) old/\h.IsTupleIter it a i) where
 mem:=by simp
 obj:=fun i h ⟨old,st1,st2⟩ b hb=>by
  simp only[w0d,w0o,or_false]at hb;rcases hb with rfl|rfl
  ·grind
  ·obtain⟨o,e,c,d⟩:=st2
   grind
 keep:=fun i h h' ⟨old,st1,st2⟩ k=>⟨old,k e (by simp) _ st1,st2.at fun o e=>k it (by simp) o e⟩
 item:=by
  intro X hP hw hK hc i pins s σ H E I hf st hg;subst hP hw hK;obtain⟨old,st1,st2⟩:=st;obtain⟨xs,x,hq,hx⟩:=hg;obtain⟨its,rv,p,hz⟩:=I.tuple hq;obtain⟨u,hu,ru⟩:=rv.get hx
  have hli:a≠it:=fun z=>by
   obtain⟨o,e1,c1,_⟩:=st2;obtain⟨o',e2,c2,_⟩:=p
   grind
  have hea:e≠a:=fun z=>by
   obtain⟨o',e2,c2,_⟩:=p
   grind
  refine wpAny_pyNext_enum_itemD (x53 (A:=X.A.in1) (I.ok.hd hc) it a hli its.toArray) st1 ⟨st2,p⟩ (by grind) hne (by simp[hne,hea]) fun u' h1 tk hu' heo hst1 ht1 hz1 hk1=>⟨_,rfl,?_⟩
  obtain rfl:u'=u:=Option.some.inj (by grind);have hit1:=hst1.1;refine wpAny_letOwnedTupleGo_enum heo fun h2 he2 hs2=>?_
  have hs2:Heap.SameBut e h1 h2:=hs2;have hlt:e<s.heap.objs.size:=Heap.lt_size st1;have hfr:H s.heap.objs.size=none:=I.hok.fresh (w0b _);have ht2:h2.get? s.heap.objs.size=some {cls:=.type "tuple", data:=.seq #[.int i tk,u']}:=(hs2.2 _ (w2r hlt)).trans ht1;refine⟨.ref s.heap.objs.size,upd H s.heap.objs.size (.tup [.int i,x]),?_,rfl,⟨_,x,rfl,hfr,fun ys hy=>by rw[I.tuple_inj hy hq];exact hx,rfl⟩,⟨u',he2,?_⟩,fun b hb=>?_⟩
  ·show L2.Inv X pins σ _ {s with heap:=h2,toks:=tk+1};refine x2u (fp:=[e,it]) I (fun b o hb q=>?_) hf (w0b _) ⟨?_,[.int i tk,u'],.cons ⟨_,rfl⟩ (.cons ru .nil),⟨_,ht2,rfl,?_⟩,⟨_,ht2,rfl⟩⟩
   ·simp only[w0d,w0o,or_false,not_or]at hb;exact(hs2.2 b hb.1).trans (hk1 b o hb.1 hb.2 q)
   all_goals grind [sizeLine_eq]
  ·exact hit1.at fun o q=>(hs2.2 it (Ne.symm hne)).trans q
  ·have:b≠s.heap.objs.size:=by
    obtain⟨o,q,_⟩:∃o,s.heap.get? b=some o/\True:=by
     simp only[w0d,w0o,or_false]at hb;rcases hb with rfl|rfl
     ·grind
     ·obtain⟨o,e,_⟩:=st2;grind
    exact w0u (Heap.lt_size q)
   rw[q0f this];exact(hf b hb).1
 done:=by
  intro X hP hw hK hc i pins s σ H E I hf st hg;subst hP hw hK;obtain⟨old,st1,st2⟩:=st;obtain⟨xs,hq,hx⟩:=hg;obtain⟨its,rv,p,hz⟩:=I.tuple hq;obtain⟨f0,f1,f2,f3,f4,f5⟩:=hf it (by simp);have hl:=rv.length
  have hli:a≠it:=fun z=>by
   obtain⟨o,e1,c1,_⟩:=st2;obtain⟨o',e2,c2,_⟩:=p
   grind
  refine wpAny_pyNext_enum_endD (y0o (A:=X.A.in1) (I.ok.hd hc) it a its.toArray i (by simp;omega)) st1 ⟨rfl,st2,p⟩ fun h' eb=>⟨rfl,I.turned (t':=s.toks) (fun b o hb e=>eb b o hb e) f0 f1 f3 f4 f5⟩
 self:=fun _ _ _ _ _ ⟨old,st1,_⟩ h=>wpAny_pyIter_enum st1 h
def iEnumT(K:PySem.W.Frag)(ta:TA):TI:=fun σ H R=>ta σ H fun vs H1=>∃a,vs=[.ref a]/\(∃xs,SqT K H1 a xs)/\R (IteT K a) H1
theorem y3s{elts:List Expr}{ta:TA}(hg:Gl X "enumerate")(hm:X.mg "enumerate"=none)(ha:PA X [a] ta)(hs:starEach [a] X.env=[(false,eval a X.env)]:=by rfl):PI X (.Tuple elts kt pt) (.Call (.Name "enumerate" p) [a] [] pos) (iEnumT X.K ta):=by
 intro pins s σ H R I h;refine PyProof.Rows.Call_ (q41 I hg hm PyProof.Rows.boot_enumerate (PyProof.Rows.callWith_type1 (thn (ha pos pins s σ H _ I h) fun us s1 ⟨vs,H1,I1,r1,q1⟩=>?_) hs rfl))
 obtain⟨l,e,⟨xs,hq⟩,q⟩:=q1;subst e;cases r1 with
 |cons r rr=>
  cases rr;cases r;obtain⟨its,rv,p,hz⟩:=I1.tuple hq;refine q7x p fun h' he hit hsz hk=>?_
  refine wpAny_pyIter_enum he ?_;refine⟨s1.heap.objs.size+1,[s1.heap.objs.size+1,s1.heap.objs.size],_,_,H1,rfl,I1.kept (t':=s1.toks) hk,x76 l _ _ (w4j _),⟨_,he,hit⟩,fun b hb=>?_,q⟩
  simp only[w0d,w0o,or_false]at hb;rcases hb with rfl|rfl
  ·exact I1.fpOk (by omega) (I1.hok.fresh (by omega))
  ·exact I1.fpOk (w0b _) (I1.hok.fresh (w0b _))
theorem x54(rp:Reps K G1 ws xs)(hq:SqT K G1 b xs):Walk2 K G1 (IteT K b) (enumL 0 ws):=by
 have hx:=rp.length;have hl:=q8r 0 ws;refine⟨fun i G H s s' h=>⟨xs,xs[i]'(by omega),Same.tup s' (Same.tup s hq),by simp⟩,fun i G H x H' s s' hy u v h=>?_,fun i G H s s' h=>⟨xs,Same.tup s' (Same.tup s hq),by omega⟩⟩
 obtain⟨c,y,rfl,hn,hx',rfl⟩:=hy;obtain⟨hu,hv⟩:=q8s 0 ws i u v h;obtain⟨w,hw,pw⟩:=rp.getV (hx' xs (Same.tup s' (Same.tup s hq)));rw[hv]at hw;cases hw;refine⟨Grow.hid s' hn _,fun m n σ Q hQ=>⟨c,[.int i,y],rfl,SqT.of q0j,rfl,.int i,[y],rfl,y,[],rfl,rfl,hQ _ _ ?_ (Rep.mono s _ pw)⟩⟩
 rw[hu,w4o];exact rfl
theorem y3t{elts:List Expr}(hm:X.mg "enumerate"=none)(ha:DA Z X EE [a] dA)(hg:Gl X "enumerate":=by rfl)(hs:starEach [a] X.env=[(false,eval a X.env)]:=by rfl):DI Z X EE (.Tuple elts kt pt) (.Call (.Name "enumerate" p) [a] [] pos) (srcET dA):=by
 refine PI.mono (y3s hg hm ha hs) ?_;rintro σ H RR ⟨G,e,rel,h⟩;simp only[srcET,R.holds_bind]at h;refine⟨G,e,rel,h.imp (fun ws e1 h G1 vs H1 r1 s1 p1=>?_) fun _ _ h=>h⟩
 split at h
 ·rename_i us;obtain⟨y,r,rfl,e1,e2⟩:=p1;cases(show r=[]from e2);obtain⟨b,xs,rfl,hq,rp⟩:=e1;exact⟨b,rfl,⟨xs,r1.sub.tup hq⟩,h _ _ _ r1 s1 (x54 rp hq)⟩
 ·exact h.elim
end
theorem z28:dSlX d dl dh e=(d e).bind fun w e1=>(dl e1).bind fun lo e2=>(dh e2).bind fun hi e3=>ofOpt (slX w lo hi) e3:=rfl
theorem z50:slX (.lst ws) lo hi=some (.lst (cutW ws lo hi)):=rfl
theorem z51(h:z.length<=16777216):slX (.str z) lo hi=some (.str (Txt.slice z lo hi)):=if_pos h
theorem z52:inS (.str ⟨#[c]⟩) (.str j)=some (.bl (decide (c∈j.cps.toList))):=rfl
def compSW(js:List Nat)(c:Den Bool)(d:Den W)(e1:List S):W->R (List W)
 |.str z=>compK js c d (signsW z) e1
 |_=>.no
theorem y3u:dCompS js da c d e=(da e).bind fun w e1=>compSW js c d e1 w:=by
 unfold dCompS;congr 1
theorem y3v:compSW js c d e (.str z)=compK js c d (signsW z) e:=rfl
def srcETW(e1:List S):List W->R (List (W×W))
 |[.tup us]=>.ok (enumL 0 us) e1
 |_=>.no
theorem y8e:srcET dA e=(dA e).bind fun ws e1=>srcETW e1 ws:=by
 unfold srcET;congr 1
theorem y3w:srcETW e [.tup ws]=.ok (enumL 0 ws) e:=rfl
theorem z53:inD (.str x) (.dic (.k kvs))=some (.bl (lk kvs (.inr x)).isSome):=rfl
theorem z54:ixD (.dic (.k kvs)) (.str x)=(lk kvs (.inr x)).map wSv:=rfl
theorem y3x:putDC i (.int n) (.str x) e (some (.dic (.k kvs)))=if kvs.length<16777216/\onlyD i e=true then .nx (e.set i (.dic (.k (putL kvs (.inr x) (.inl n)))))else .no:=rfl
def retDC(e:List S):Option S->SR
 |some (.dic d)=>.rt (.dic d) e
 |_=>.no
theorem y8f:dRetD i e=retDC e e[i]?:=by
 rfl
theorem y8g:retDC e (some (.dic dd))=.rt (.dic dd) e:=rfl
theorem z29(h:0<=n/\n<=1000):mulS (.str ⟨#[c]⟩) (.int n)=some (.str ⟨(List.replicate n.toNat c).toArray⟩):=by
 show(if 1<=(Str.mk #[c]).length/\(Str.mk #[c]).length<=1000/\0<=n/\n<=1000 then some (W.str ⟨(List.replicate n.toNat #[c]).foldl (·++·) #[]⟩)else none)=_;have e1:(Str.mk #[c]).length=1:=rfl;rw[if_pos ⟨by omega,by omega,h.1,h.2⟩]
 have hs:∀(m:Nat)(acc:List Nat),((List.replicate m #[c]).foldl (·++·) acc.toArray)=(acc++List.replicate m c).toArray:=by
  intro m
  induction m with
  |zero=>intro acc;simp
  |succ m ih=>
   grind
 grind
theorem x6u(e:PyProof.Rows.KTD.tabLook PyProof.Rows.KTD.flatLooks (fun b=>K.lookup b) d (tb.map fun p=>(p.1,PyData.int p.2))=true)
  (n:((tb.map fun p=>(p.1,PyData.int p.2)).map (·.1)).Nodup)(q:PyProof.Rows.KTD.hashesOf (fun b=>K.lookup b) d=(tb.map fun p=>(p.1,PyData.int p.2)).map fun p=>(PySem.strKind P w).hash p.1)
  (o:∃o,K.lookup d=some o/\o.cls=.type "dict" /\ o.dict=none):TabK P w K d tb:=by
 refine⟨fun h x=>?_,o⟩
 have z:=PySem.W.kt_tab_in P w x e n q;rw[w1a]at z;exact z
section
variable{X:Cx}{e k:Expr}{es:List Expr}{dk:Den W}{dA:Den (List W)}{tb:List (Str×Int)}
theorem q8u(T:∃d,X.mg x=some (.ref d)/\TabK X.prog X.w X.K d tb)(hk:DE Z X EE k dk)(hg:Gl X x:=by rfl)(hd:(x==("__debug__":Str))=false:=by decide)(hs:PlainIx k:=by intro _ _;rfl):
  DE Z X EE (.Subscript (.Name x p) k pos) (dUn (tabW tb) dk):=by
 grind [y27]
end
open PyProof.Rows (envOfC)
inductive MutAt(K:PySem.W.Frag)(G H:Hp)(vs:List V)(a1 a2:Addr)(ws1 ws2 ws:List W):Prop where
 |mk (xs1 xs2 us:List V) (h0:vs=.ref a1::.ref a2::us) (sg:Same G H) (ne:a1≠a2) (h1:H a1=some (.lst xs1)) (h2:H a2=some (.lst xs2)) (g1:G a1=none) (g2:G a2=none) (r1:Reps K G ws1 xs1) (r2:Reps K G ws2 xs2) (r:Reps K G ws us):MutAt K G H vs a1 a2 ws1 ws2 ws
structure MutOk(K:PySem.W.Frag)(G H G' H':Hp)(a1 a2:Addr)(o1 o2:List W):Prop where
 ent:∀a o,H a=some o->a≠a1->a≠a2->H' a=some o
 gg:Same G G'
 sub:Same G' H'
 new:∀a,H a≠none->G' a=G a
 l1:∃ys,H' a1=some (.lst ys)/\Reps K G' o1 ys
 l2:∃ys,H' a2=some (.lst ys)/\Reps K G' o2 ys
def mres(r:FR)(P:List W->List W->Prop):Prop:=match r with
 |.ok (.fr (.tup [.lst o1,.lst o2]))=>P o1 o2
 |_=>False
def spM(K:PySem.W.Frag)(F:List W->FR):Sp:=fun vs H Q E=>∃G a1 a2 ws1 ws2 ws,MutAt K G H vs a1 a2 ws1 ws2 ws/\mres (F (.lst ws1::.lst ws2::ws)) fun o1 o2=>∀G' H',MutOk K G H G' H' a1 a2 o1 o2->Q .non H'
def SR.fm:SR->FR
 |.nx (.own (some 0) o1::.own (some 1) o2::_)=>.ok (.fr (.tup [.lst o1,.lst o2]))
 |_=>.no
def initM(n:Nat):List W->List S
 |.lst ws1::.lst ws2::ws=>.own (some 0) ws1::.own (some 1) ws2::(ws.map .fr++List.replicate (n-2-ws.length) .no)
 |_=>[]
theorem x14{r:FR}{P:List W->List W->Prop}(h:mres r P):r≠.no:=fun z=>by rw[z]at h;exact h
theorem y0p{G H:Hp}{a1 a2:Addr}{ws1 ws2 ws:List W}{vs:List V}(m:MutAt K G H vs a1 a2 ws1 ws2 ws):Rel K ⟨H,G,[a1,a2]⟩ G (L2.start (x::y::N) vs) H (initM (x::y::N).length (.lst ws1::.lst ws2::ws)):=by
 obtain⟨xs1,xs2,us,rfl,s,ne,h1,h2,g1,g2,r1,r2,r⟩:=m;have hl:=r.length;have hk:(x::y::N).length-2-ws.length=N.length-ws.length:=by simp
 have hst:L2.start (x::y::N) (.ref a1::.ref a2::us)=some (.ref a1)::some (.ref a2)::(us.map some++List.replicate (N.length-us.length) none):=by
  unfold L2.start;simp
 have hin:initM (x::y::N).length (.lst ws1::.lst ws2::ws)=.own (some 0) ws1::.own (some 1) ws2::(ws.map .fr++List.replicate (N.length-ws.length) .no):=by
  show S.own (some 0) ws1::S.own (some 1) ws2::(ws.map S.fr++List.replicate ((x::y::N).length-2-ws.length) S.no)=_;rw[hk]
 rw[hst,hin]
 have hfr:∀(i:Nat)(s:S),(ws.map S.fr++List.replicate (N.length-ws.length) S.no)[i]?=some s->(s=.no)\/∃w,s=.fr w/\ws[i]?=some w:=fun i s h=>by
  grind
 have hown:∀(i:Nat)(b:Option Nat)(w:List W),(S.own (some 0) ws1::S.own (some 1) ws2::(ws.map S.fr++List.replicate (N.length-ws.length) S.no))[i]?=some (.own b w)->i=0\/i=1:=fun i b w h=>by
  grind
 refine⟨s,fun i t h=>?_,by simp[hl],fun i j b b' w1 w2 a z1 z2 z3 z4=>?_,fun a o h _=>h,(fun a h=>?_),fun a _=>rfl⟩
 ·rcases i with _|_|i
  ·cases h;exact⟨a1,xs1,rfl,h1,g1,rfl,r1⟩
  ·cases h;exact⟨a2,xs2,rfl,h2,g2,rfl,r2⟩
  ·rcases hfr i t h with rfl|⟨w,rfl,q1⟩
   ·trivial
   ·obtain⟨v,q2,q3⟩:=r.get q1;refine⟨v,?_,q3⟩
    grind
 all_goals grind
section
variable{P:Program}{w:World}{mg:Str->Option Value}{base:Heap}
theorem y8h{F:List W->FR}{G H:Hp}{a1 a2:Addr}{ws:List W}{Q:VK}{E:XK}{r:SR}(he:r.fm=F ws)(h:mres (F ws) fun o1 o2=>∀G' H',MutOk K G H G' H' a1 a2 o1 o2->Q .non H'):
  PostS K ⟨H,G,[a1,a2]⟩ (fun _=>E) {nx:=fun _ H'=>Q .non H',rt:=Q} G r:=by
 rw[<- he]at h;unfold SR.fm at h;split at h
 ·rename_i o1 o2 tl;intro G' σ' H' r s;obtain⟨b1,ys1,k1,k2,k3,k4,k5⟩:=r.own (i:=0) rfl;obtain⟨b2,ys2,m1,m2,m3,m4,m5⟩:=r.own (i:=1) rfl;have e1:a1=b1:=Option.some.inj k4;have e2:a2=b2:=Option.some.inj m4;subst e1;subst e2;refine h G' H' ⟨fun a o z n1 n2=>r.ent a o z ?_,s,r.sub,fun a z=>r.gen a z,⟨ys1,k2,k5⟩,⟨ys2,m2,m5⟩⟩
  grind
 ·exact h.elim
theorem conM2{y1 y2:Str}{st:Stmt}{k:Nat}{F:List W->FR}(A:At K mg x st ps)(sc:FnScope (y1::y2::N) ps (defScope st))(len:∀ws,F ws≠.no->ws.length=ps.length)
  (hb:∀ws,F ws≠.no->∀(f:Addr)(cdv:Value)(A:Around)(outer:List Env)(s:Shared)(H:Hp)(E:XK)(Z:Zt),Room k (A.deeper (envOfC x (defScope st) s.heap.objs.size f cdv)) ->
   ∃d,DSs Z (cxOf (CX1 P w) P w K mg base (y1::y2::N) x (defScope st) f cdv A outer s H E) (fun _=>E) (defBody st) d/\(d (initM (y1::y2::N).length ws)).fm=F ws):Cal P w K mg base (k+1) x ps (spM K F):=by
 refine A.cal sc (fun vs H Q E h=>?_) (fun f cdv A outer s H vs Q E hr h=>?_)
 ·obtain⟨G,a1,a2,ws1,ws2,ws,m,h⟩:=h;obtain⟨xs1,xs2,us,rfl,_,_,_,_,_,_,_,_,r⟩:=m
  grind [x14,Reps.length]
 ·obtain⟨G,a1,a2,ws1,ws2,ws,m,h⟩:=h;obtain⟨d,hd,he⟩:=hb _ (x14 h) f cdv A outer s H E ⟨H,G,[a1,a2]⟩ hr;exact⟨_,hd,G,_,y0p m,y8h he h⟩
theorem con0M{st:Stmt}{F:List W->FR}(A:At K mg x st ps)(hF:∀ws,F ws=.no:=by intro _;rfl):Cal P w K mg base 0 x ps (spM K F):=by
 obtain⟨f,fd,F0,m,b⟩:=A.ex
 have no:∀{vs H Q E},spM K F vs H Q E->False:=fun h=>by
  obtain⟨G,a1,a2,ws1,ws2,ws,m,h⟩:=h;exact x14 h (hF _)
 exact⟨f,fd,⟨fun vs H Q E h=>(no h).elim,fun A outer s H args us vs Q E _ _ _ _ h=>(no h).elim⟩,m,F0.kp,b⟩
end
theorem Rel.mut2{G G' H H':Hp}{σ:St}{e:List S}(r:Rel K Z G σ H e){j:Nat}{b1 b2:Option Nat}{ws1 ws2 o1 o2:List W}{a1 a2:Addr}(hij:i≠j)(h1:e[i]?=some (.own b1 ws1))(h2:e[j]?=some (.own b2 ws2))
  (s1:σ[i]?=some (some (.ref a1)))(s2:σ[j]?=some (some (.ref a2)))(m:MutOk K G H G' H' a1 a2 o1 o2):Rel K Z G' σ H' ((e.set i (.own b1 o1)).set j (.own b2 o2)):=by
 obtain⟨c1,xs1,q1,q2,q3,q4,q5⟩:=r.own h1;obtain⟨c2,xs2,p1,p2,p3,p4,p5⟩:=r.own h2;rw[s1]at q1;cases q1;rw[s2]at p1;cases p1
 have ne:a1≠a2:=fun z=>by
  subst z;exact hij (r.dis i j _ _ _ _ _ h1 h2 s1 s2)
 obtain⟨ys1,l1,t1⟩:=m.l1;obtain⟨ys2,l2,t2⟩:=m.l2
 let H1:Hp:=fun a=>if a=a1\/a=a2 then H a else H' a
 have g:Grow G H G' H1:=by
  refine⟨fun a o z=>?_,m.gg,fun a o z=>?_,m.new⟩
  ·show(if a=a1\/a=a2 then H a else H' a)=some o;split
   ·exact z
   ·rename_i n;exact m.ent a o z (fun k=>n (.inl k)) (fun k=>n (.inr k))
  ·show(if a=a1\/a=a2 then H a else H' a)=some o;split
   ·rename_i n
    have:H a≠none:=by
     grind
    rw[m.new a this]at z;exact r.sub a o z
   ·exact m.sub a o z
 have r2:=(r.grow g).mut h1 s1 t1;have r3:=r2.mut (i:=j) (by rw[w0h hij];exact h2) s2 t2
 have he:upd (upd H1 a1 (.lst ys1)) a2 (.lst ys2)=H':=by
  funext a
  by_cases z2:a=a2
  ·grind [q0j]
  ·rw[q0f z2]
   by_cases z1:a=a1
   ·grind [q0j]
   ·rw[q0f z1]
    grind
 rw[he]at r3;exact r3
def mut2C(i j:Nat)(e:List S)(b1 b2:Option Nat):FR->SR
 |.ok (.fr (.tup [.lst o1,.lst o2]))=>.nx ((e.set i (.own b1 o1)).set j (.own b2 o2))
 |_=>.no
def mut2B(F:List W->FR)(i j:Nat)(us:List W)(e:List S):Option S->Option S->SR
 |some (.own b1 ws1),some (.own b2 ws2)=>mut2C i j e b1 b2 (F (.lst ws1::.lst ws2::us))
 |_,_=>.no
def mut2A(F:List W->FR)(i j:Nat)(dA:Den (List W))(e:List S):Option S->Option S->SR
 |some (.own _ _),some (.own _ _)=>(dA e).stm fun us e1=>mut2B F i j us e1 e1[i]? e1[j]?
 |_,_=>.no
def dMut2(F:List W->FR)(i j:Nat)(dA:Den (List W)):List S->SR:=fun e=>mut2A F i j dA e e[i]? e[j]?
section
variable{X:Cx}{es:List Expr}{dA:Den (List W)}{pos' p2 pn:Pos}{k:Nat}{F:List W->FR}{f:Str}
theorem x15(i j:Nat)(hij:i≠j)(C:Cal X.prog X.w X.K X.mg X.base k f ps (spM X.K F))(hr:Room k X.A)(hx:PassX (CX1 X.prog X.w) X EE)(ha:DA Z X EE es dA)
  (hN:X.N[i]?=some x:=by rfl)(hvis:Vis X.env.scope x:=by walk_at "1")(hd:(x==("__debug__":Str))=false:=by decide)(hcd:(x==("__classdict__":Str))=false:=by decide)
  (hN2:X.N[j]?=some y:=by rfl)(hvis2:Vis X.env.scope y:=by walk_at "1")(hd2:(y==("__debug__":Str))=false:=by decide)(hcd2:(y==("__classdict__":Str))=false:=by decide)
  (hg:Gl X f:=by rfl)(hdb:(f==("__debug__":Str))=false:=by decide)(he:starEach (.Name x p::.Name y p2::es) X.env=(false,eval (.Name x p) X.env)::starEach (.Name y p2::es) X.env:=by rfl)(he2:starEach (.Name y p2::es) X.env=(false,eval (.Name y p2) X.env)::starEach es X.env:=by rfl)
  (hpl:(backTo pos (starEach (.Name y p2::es) X.env)).any (·.1)=false:=by rfl)(hs:swapsWith (.Call (.Name f pn) (.Name x p::.Name y p2::es) [] pos) none pos'.line X.env=pure false:=by rfl):
  DS Z X EE (.Expr (.Call (.Name f pn) (.Name x p::.Name y p2::es) [] pos) pos') (dMut2 F i j dA):=by
 refine PS.mono (q7f (x4d C hr hx (q5e (pv i hN hvis hd hcd) (q5e (pv j hN2 hvis2 hd2 hcd2) ha he2) he) hg hdb he hpl) hs) ?_;rintro D σ H ⟨G,e,rel,h⟩;unfold dMut2 mut2A at h;split at h
 ·rename_i b1 ws1 b2 ws2 q1 q2;obtain⟨a1,xs1,k1,k2,k3,k4,k5⟩:=rel.own q1;obtain⟨a2,xs2,m1,m2,m3,m4,m5⟩:=rel.own q2;refine⟨.ref a1,k1,.ref a2,m1,G,e,rel,(q0x h).imp (fun us e1 h G1 vs H1 r1 s1 p1=>?_) fun _ _ h=>h⟩
  unfold mut2B at h;split at h
  ·rename_i c1 vs1 c2 vs2 t1 t2;obtain⟨a1',ys1,n1,n2,n3,n4,n5⟩:=r1.own t1;obtain⟨a2',ys2,l1,l2,l3,l4,l5⟩:=r1.own t2;rw[k1]at n1;cases n1;rw[m1]at l1;cases l1;refine⟨G1,a1,a2,vs1,vs2,us,⟨ys1,ys2,vs,by simp,r1.sub,fun z=>?_,n2,l2,n3,l3,n5,l5,p1⟩,?_⟩
   ·subst z;exact hij (r1.dis i j _ _ _ _ _ t1 t2 k1 m1)
   ·unfold mut2C at h;split at h
    ·rename_i o1 o2 hF;rw[hF];intro G' H' m;exact h G' σ H' (r1.mut2 hij t1 t2 k1 m1 m) (s1.trans m.gg)
    ·exact h.elim
  ·exact h.elim
 ·exact h.elim
end
section
variable{e:List S}{ws1 ws2 us o1 o2:List W}{b1 b2:Option Nat}{j n:Nat}{F:List W->FR}{dA:Den (List W)}
theorem y8i:dMut2 F i j dA e=mut2A F i j dA e e[i]? e[j]?:=rfl
theorem y8j:mut2A F i j dA e (some (.own b1 ws1)) (some (.own b2 ws2))=(dA e).stm fun us e1=>mut2B F i j us e1 e1[i]? e1[j]?:=rfl
theorem y8k:mut2B F i j us e (some (.own b1 ws1)) (some (.own b2 ws2))=mut2C i j e b1 b2 (F (.lst ws1::.lst ws2::us)):=rfl
theorem y8l:mut2C i j e b1 b2 (.ok (.fr (.tup [.lst o1,.lst o2])))=.nx ((e.set i (.own b1 o1)).set j (.own b2 o2)):=rfl
theorem y8m:initM n (.lst ws1::.lst ws2::us)=.own (some 0) ws1::.own (some 1) ws2::(us.map .fr++List.replicate (n-2-us.length) .no):=rfl
theorem z55:SR.fm (.nx (.own (some 0) o1::.own (some 1) o2::e))=.ok (.fr (.tup [.lst o1,.lst o2])):=rfl
end
open PySem L2 PySem.Spec PyProof.Rows
open PySem.Builtin.Str (occurrences partsBetween strKind strSub)
theorem x2w:∀(tk:Nat)(xs:List Str),Vals (xs.map V.str) (strsFrom tk xs)
 |_,[]=>.nil
 |tk,x::xs=>.cons ⟨tk,rfl⟩ (x2w (tk+1) xs)
def okSplit(x y:Str):Bool:=!(y.length==0)&&decide (x.length<=16777216)&&decide ((Txt.split x y).length<=16777216)
def rSplit:V->List V->Hp->VK->Prop:=fun v vs H Q=>∃x y:Str,v=.str x/\vs=[.str y]/\okSplit x y=true/\∀l,H l=none->Q (.ref l) (upd H l (.lst ((Txt.split x y).map V.str)))
theorem y3y:MtR X "str.split" rSplit:=by
 intro pins s σ H x vs v us Q I rx rv h;obtain⟨x0,y0,rfl,rfl,ok,q⟩:=h;unfold okSplit at ok;rw[w0p,w0p,w3g]at ok;obtain⟨⟨hy,hx⟩,hn⟩:=ok;have hx:=of_decide_eq_true hx;have hn:=of_decide_eq_true hn;obtain⟨t,rfl⟩:=rx;obtain⟨u,rfl,ru⟩:=rv.one;obtain⟨t2,rfl⟩:=ru
 have lay:∀(its:List Value)(tk:Nat),Vals ((Txt.split x0 y0).map V.str) its->EP X pins σ Q (.ref s.heap.objs.size) {s with toks:=tk,heap:=s.heap.push {cls:=.type "list", data:=.seq its.toArray}}:=fun its tk hv=>
  ⟨.ref _,_,I.laid (t':=tk) (fun b o e=>Heap.get?_push_of_some _ e) (w0b _) (show ObjOk X.prog X.w _ _ _ (.lst ((Txt.split x0 y0).map V.str))from⟨by grind [sizeLine_eq],its,0,hv,Heap.get?_push_size _ rfl⟩),rfl,q _ (I.hok.fresh (w0b _))⟩
 cases h1:(decide (x0.length<y0.length)||decide (strKind x0<strKind y0))
 ·cases hf:(occurrences x0 y0 0 x0.length (x0.length+1)).isEmpty
  ·have e:Txt.split x0 y0=partsBetween x0 (occurrences x0 y0 0 x0.length (x0.length+1)) y0.length:=(if_neg (ne_true_of_eq_false h1)).trans (if_neg (ne_true_of_eq_false hf));refine call_meets F.slot_str_split (typeIs_str _ _ _) F.entry_str_split (F.args_str_split_2 _ _) (meets_str_split_sep x0 y0 t t2 h1 hy hf (by grind [sizeLine_eq]) (by grind [sizeLine_eq])) ?_
   grind [x2w]
  ·have e:Txt.split x0 y0=[x0]:=(if_neg (ne_true_of_eq_false h1)).trans (if_pos hf);refine call_meets F.slot_str_split (typeIs_str _ _ _) F.entry_str_split (F.args_str_split_2 _ _) (meets_str_split_not_found x0 y0 t t2 h1 hy hf) ?_;exact lay [.str x0 t] s.toks (by rw[e];exact .cons ⟨t,rfl⟩ .nil)
 ·have e:Txt.split x0 y0=[x0]:=if_pos h1;refine call_meets F.slot_str_split (typeIs_str _ _ _) F.entry_str_split (F.args_str_split_2 _ _) (meets_str_split_cannot_occur x0 y0 t t2 h1) ?_;exact lay [.str x0 t] s.toks (by rw[e];exact .cons ⟨t,rfl⟩ .nil)
theorem q8v:∀xs:List Str,Reps K G (xs.map W.str) (xs.map V.str)
 |[]=>rfl
 |_::xs=>⟨_,_,rfl,rfl,q8v xs⟩
def splitW:W->List W->Option W
 |.str x,[.str y]=>if okSplit x y=true then some (.lst ((Txt.split x y).map .str))else none
 |_,_=>none
theorem y3z:OpM K rSplit splitW:=by
 intro G H x xs wx ws w Q s px pr hf h;unfold splitW at hf;split at hf
 ·rename_i x0 y0;split at hf
  ·rename_i ok;cases hf;obtain⟨y,r,rfl,py,pr⟩:=pr;cases(show r=[]from pr);cases(show x=V.str x0 from px);cases(show y=V.str y0 from py);exact⟨x0,y0,rfl,rfl,ok,fun l hl=>h _ (.ref l) _ (Grow.laid s hl _) ⟨l,_,rfl,SqL.of q0j,q8v _⟩⟩
  ·cases hf
 ·cases hf
def partT(x y:Str):List Str:=match occurrences x y 0 x.length 1 with
 |i::_=>[strSub x 0 i,y,strSub x (i+y.length) x.length]
 |[]=>[x,Str.empty,Str.empty]
theorem y0q(x y):(partT x y).length=3:=by grind [partT]
def okPart(x y:Str):Bool:=!(y.length==0)&&decide (x.length<=16777216)
def rPart:V->List V->Hp->VK->Prop:=fun v vs H Q=>∃x y:Str,v=.str x/\vs=[.str y]/\okPart x y=true/\∀l,H l=none->Q (.ref l) (upd H l (.tup ((partT x y).map V.str)))
theorem y8n:MtR X "str.partition" rPart:=by
 intro pins s σ H x vs v us Q I rx rv h;obtain⟨x0,y0,rfl,rfl,ok,q⟩:=h;unfold okPart at ok;rw[w0p,w3g]at ok;obtain⟨hy,hx⟩:=ok;have hx:=of_decide_eq_true hx;obtain⟨t,rfl⟩:=rx;obtain⟨u,rfl,ru⟩:=rv.one;obtain⟨t2,rfl⟩:=ru
 have lay:∀(its:List Value)(tk:Nat),Vals ((partT x0 y0).map V.str) its->EP X pins σ Q (.ref s.heap.objs.size) {s with toks:=tk,heap:=s.heap.push {cls:=.type "tuple", data:=.seq its.toArray}}:=fun its tk hv=>
  ⟨.ref _,_,I.laid (t':=tk) (fun b o e=>Heap.get?_push_of_some _ e) (w0b _) (show ObjOk X.prog X.w _ _ _ (.tup ((partT x0 y0).map V.str))from⟨by grind [y0q,sizeLine_eq],its,hv,IsTup.new _ _,_,Heap.get?_push_size _ rfl,rfl⟩),rfl,q _ (I.hok.fresh (w0b _))⟩
 refine call_meets F.slot_str_partition (typeIs_str _ _ _) F.entry_str_partition (F.args_str_partition_2 _ _) (meets_str_partition x0 y0 t t2 hy (by grind [sizeLine_eq])) ?_
 have e:partT x0 y0=match occurrences x0 y0 0 x0.length 1 with
  |i::_=>[strSub x0 0 i,y0,strSub x0 (i+y0.length) x0.length]
  |[]=>[x0,Str.empty,Str.empty]:=rfl
 revert e lay;generalize partT x0 y0=ps;cases occurrences x0 y0 0 x0.length 1 with
 |nil=>
  rintro lay rfl;exact lay _ _ (.cons ⟨_,rfl⟩ (.cons ⟨_,rfl⟩ (.cons ⟨_,rfl⟩ .nil)))
 |cons i r=>
  rintro lay rfl;exact lay _ _ (.cons ⟨_,rfl⟩ (.cons ⟨_,rfl⟩ (.cons ⟨_,rfl⟩ .nil)))
def partW:W->List W->Option W
 |.str x,[.str y]=>if okPart x y=true then some (.tup ((partT x y).map .str))else none
 |_,_=>none
theorem y8o:OpM K rPart partW:=by
 intro G H x xs wx ws w Q s px pr hf h;unfold partW at hf;split at hf
 ·rename_i x0 y0;split at hf
  ·rename_i ok;cases hf;obtain⟨y,r,rfl,py,pr⟩:=pr;cases(show r=[]from pr);cases(show x=V.str x0 from px);cases(show y=V.str y0 from py);exact⟨x0,y0,rfl,rfl,ok,fun l hl=>h _ (.ref l) _ (Grow.laid s hl _) ⟨l,_,rfl,SqT.of q0j,q8v _⟩⟩
  ·cases hf
 ·cases hf
section
variable{X:Cx}{o e:Expr}{d:Den W}{dA:Den (List W)}
theorem x0c(ho:DE Z X EE o d)(ha:DA Z X EE [e] dA)
  (hbase:attributeBase o "split" X.env (eval o X.env)=eval o X.env:=by rfl)
  (hfew:((backTo cpos (starEach [e] X.env)).all (fun x=>!x.1)&&(backToKw cpos (keywordEach [] X.env)).all (fun x=>x.1.isSome)&&decide ([e].length+([]:List Keyword).length+(if([]:List Keyword).isEmpty then 0 else 1)<30))=true:=by rfl)
  (hline:(apos.endLine==cpos.line)=true:=by rfl)(hs:starEach [e] X.env=(false,eval e X.env)::starEach [] X.env:=by rfl)(hplain:(backTo cpos (starEach [] X.env)).any (·.1)=false:=by rfl):
  DE Z X EE (.Call (.Attribute o "split" apos) [e] [] cpos) (dMeth "str" splitW d dA):=
 x11 PySem.F.plainAttrs_str PySem.F.slot_str_split PySem.F.type_str_split y3y y3z ho ha hbase hfew hline hs hplain
theorem y8p(ho:DE Z X EE o d)(ha:DA Z X EE [e] dA)
  (hbase:attributeBase o "partition" X.env (eval o X.env)=eval o X.env:=by rfl)
  (hfew:((backTo cpos (starEach [e] X.env)).all (fun x=>!x.1)&&(backToKw cpos (keywordEach [] X.env)).all (fun x=>x.1.isSome)&&decide ([e].length+([]:List Keyword).length+(if([]:List Keyword).isEmpty then 0 else 1)<30))=true:=by rfl)
  (hline:(apos.endLine==cpos.line)=true:=by rfl)(hs:starEach [e] X.env=(false,eval e X.env)::starEach [] X.env:=by rfl)(hplain:(backTo cpos (starEach [] X.env)).any (·.1)=false:=by rfl):
  DE Z X EE (.Call (.Attribute o "partition" apos) [e] [] cpos) (dMeth "str" partW d dA):=
 x11 PySem.F.plainAttrs_str PySem.F.slot_str_partition PySem.F.type_str_partition y8n y8o ho ha hbase hfew hline hs hplain
end
open PySem.Builtin.Str (occurrences partsBetween tooLong)
def okRepl(x y z:Str):Bool:=!(y==z)&&decide (x.length+(x.length+1)*z.length<=16777216)
theorem y0r(hu:u≠0)(hv:v≠0)(huv:u≠v)(hyz:(y==z)=false)(hb:x.length+(x.length+1)*z.length<=16777216)
  (hq:∀t' k,s.toks<=k->Q (.str (Txt.replace x y z) t') {s with toks:=k}):wpAny (model prog w) A (call (.builtin "str.replace") [.str x t,.str y u,.str z v]) Q E s:=by
 have e:(2:Nat)^24=16777216:=by decide
 have hl:tooLong (x.length+(occurrences x y 0 x.length (x.length+1)).length*z.length)=false:=by
  have h1:=StrLaws.occ_length_le x y 0 x.length (x.length+1);have h2:(occurrences x y 0 x.length (x.length+1)).length*z.length<=(x.length+1)*z.length:=Nat.mul_le_mul_right _ h1
  grind [tooLong,sizeLine]
 refine call_gives F.slot_str_replace (typeIs_str _ _ _) F.entry_str_replace (F.args_str_replace_3 _ _ _)
  (gives_str_replace x y z t u v fun _=>⟨by simp[hu,hv],by simp[huv],hyz,hl⟩) ?_
 have hq':=hq;unfold Txt.replace at hq';cases hc:((occurrences x y 0 x.length (x.length+1)).isEmpty||(y.length==0&&z.length==0))
 ·rw[hc]at hq';simp only[w3b,if_false]at hq' |-
  exact⟨fits_replaced y hb,hq' _ _ (by omega)⟩
 ·rw[hc]at hq';simp only[if_true]at hq' |-
  exact hq' t s.toks (w0b _)
def PP(X:Cx)(e:Expr)(t:TE):Prop:=
 ∀(pins:List (Addr×Obj))(s:Shared)(σ:L2.St)(H:Hp)(Q:VK),Inv X pins σ H s->0<s.toks->t σ H Q->wpAny (model X.prog X.w) X.A (eval e X.env) (fun v s'=>EP X pins σ Q v s'/\0<s'.toks) X.xe s
section
variable{X:Cx}{e o:Expr}{to:TE}{a b:Str}{p1 p2:Pos}{k1 k2}
theorem z3a(hN:X.N[i]?=some x)(hv:Vis X.env.scope x)(hd:(x==("__debug__":Str))=false:=by decide)(hcd:(x==("__classdict__":Str))=false:=by decide):PP X (.Name x pos) (tVar i):=by
 intro pins s σ H Q I hp h;obtain⟨v,e,h⟩:=h;obtain⟨m,hn,hl⟩:=I.loc;obtain⟨u,r,l⟩:=hl i x v hN e hv;have fin:EP X pins σ Q u s/\0<s.toks:=⟨⟨v,H,I,r,h⟩,hp⟩;rcases l with⟨hk,hm⟩|⟨hk,c,hc,hcell⟩
 ·exact wpAny_Name (wpAny_loadName_local I.ok.kind hk hn hm fin) hd
 ·rcases hk with hk|hk
  ·exact wpAny_Name (wpAny_loadName_cell I.ok.kind hk hc hcell fin) hd
  ·exact wpAny_Name (wpAny_loadName_free I.ok.kind hk hc hcell fin hcd) hd
def tRep(a b:Str)(to:TE):TE:=fun σ H Q=>to σ H fun v H1=>∃x,v=.str x/\okRepl x a b=true/\Q (.str (Txt.replace x a b)) H1
theorem y8q(ho:PP X o to)(hbase:attributeBase o "replace" X.env (eval o X.env)=eval o X.env:=by rfl)
  (hfew:((backTo cpos (starEach [.Constant (.str a) k1 p1,.Constant (.str b) k2 p2] X.env)).all (fun x=>!x.1)&&(backToKw cpos (keywordEach [] X.env)).all (fun x=>x.1.isSome)&&decide ([Expr.Constant (.str a) k1 p1,.Constant (.str b) k2 p2].length+([]:List Keyword).length+(if([]:List Keyword).isEmpty then 0 else 1)<30))=true:=by rfl)
  (hline:(apos.endLine==cpos.line)=true:=by rfl)(hs:starEach [.Constant (.str a) k1 p1,.Constant (.str b) k2 p2] X.env=[(false,eval (.Constant (.str a) k1 p1) X.env),(false,eval (.Constant (.str b) k2 p2) X.env)]:=by rfl):
  PP X (.Call (.Attribute o "replace" apos) [.Constant (.str a) k1 p1,.Constant (.str b) k2 p2] [] cpos) (tRep a b to):=by
 intro pins s σ H Q I hp h;refine wpAny_Call_method_late hbase hfew hline rfl (thn (ho pins s σ H _ I hp h) fun v s1 ⟨⟨x,H1,I1,r1,q1⟩,hp1⟩=>?_)
 obtain⟨x0,rfl,ok,q⟩:=q1;obtain⟨t,rfl⟩:=r1;unfold okRepl at ok;rw[w0p,w3g]at ok;obtain⟨hyz,hb⟩:=ok;have hb:=of_decide_eq_true hb;refine⟨"str", "str.replace", PySem.F.plainAttrs_str,PySem.F.slot_str_replace,PySem.F.type_str_replace,typeIs_str _ _ _,(fun _ e=>nomatch e),?_⟩
 rw[hs];refine Calls.callWith_builtin rfl (Calls.evalArgs_plain ?_);show wpAny _ _ (spliced [(false,eval (.Constant (.str a) k1 p1) X.env),(false,eval (.Constant (.str b) k2 p2) X.env)]) _ _ s1;refine Calls.spliced_cons (Calls.Constant_str (Calls.spliced_cons (Calls.Constant_str (Calls.spliced_nil ?_))));refine y0r (show s1.toks≠0 from w2r hp1) (show s1.toks+1≠0 from Nat.succ_ne_zero _) (show s1.toks≠s1.toks+1 from w0u (w4k _)) hyz hb fun t' k hk=>?_
 exact⟨⟨.str _,H1,(I1.tok _),⟨t',rfl⟩,q⟩,by
  grind⟩
theorem y8r(ho:OpR X (binaryOp .Add) r)(he:PP X e te):PE X (.BinOp (.Constant (.str c) k1 p1) .Add e pos) (tOp r (tC (.str c)) te):=by
 intro pins s σ H Q I h;refine wpAny_BinOp (Calls.Constant_str (thn (he pins _ σ H _ (I.tok _) (Nat.succ_pos _) h) fun u s2 ⟨⟨y,H2,I2,r2,q2⟩,_⟩=>?_))
 exact ho pins s2 σ H2 (.str c) y (.str c s.toks) u Q I2 ⟨_,rfl⟩ r2 q2
theorem z3b{iy:Nat}{w:Str}{c:Int}{te:TE}{pw pk pc py pa:Pos}{kk}(he:PP X e te)(hNd:X.N.Nodup)(hN:X.N[i]?=some w)(hv:Vis X.env.scope w)(hi:X.N[iy]?=some y)(hx:Loc X.env.scope y)
  (hs:swapsWith e (some (.Name y py)) pa.line X.env=pure false:=by rfl)(hf:X.fn y=true\/X.env.scope.names.lookup y=some .local:=by walk_at "2")
  (hm:behindInMarks .Eq (.Constant (.int c) kk pk)=false:=by rfl)(hd:(w==("__debug__":Str))=false:=by decide)(hcd:(w==("__classdict__":Str))=false:=by decide):
  PS X (.If (.Compare (.Name w pw) [.Eq] [.Constant (.int c) kk pk] pc) [.Assign [.Name y py] e pa] [] pos) (fun D σ H=>∃j,σ[i]?=some (some (.int j))/\if(j==c)=true then tAsg te (gName iy) D σ H else D.nx σ H):=by
 intro pins s σ H D I h;obtain⟨j,hj,h⟩:=h;obtain⟨m,hn,hl⟩:=I.loc;obtain⟨u,r,l⟩:=hl i w (.int j) hN hj hv;obtain⟨t,rfl⟩:=r
 have ld:∀Q':Value->Shared->Prop,Q' (.int j t) s->wpAny (model X.prog X.w) X.A (eval (.Name w pw) X.env) Q' X.xe s:=fun Q' fin=>by
  rcases l with⟨hk,hm⟩|⟨hk,c,hc,hcell⟩
  ·exact wpAny_Name (wpAny_loadName_local I.ok.kind hk hn hm fin) hd
  ·rcases hk with hk|hk
   ·exact wpAny_Name (wpAny_loadName_cell I.ok.kind hk hc hcell fin) hd
   ·exact wpAny_Name (wpAny_loadName_free I.ok.kind hk hc hcell fin hcd) hd
 refine wpAny_If (wpAny_isTrue_Compare1 (ld _ (wpAny_Constant_int (eq_int (wpAny_truthy_bool ?_)))) hm);split at h
 ·rename_i hjc;rw[if_pos hjc];refine wpAny_execs_cons (wpAny_Assign_Name (thn (he pins _ σ H _ (I.tok _) (Nat.succ_pos _) h) fun v s1 ⟨⟨x,H1,I1,r1,q1⟩,_⟩=>?_) hs)
  exact q94 I1 hNd hi hx r1 (fun s2 I2=>wpAny_execs_nil ⟨_,H1,I2,q1⟩) hf
 ·rename_i hjc;rw[if_neg hjc];exact wpAny_execs_nil ⟨σ,H,I.tok _,h⟩
end
theorem PP.mono(h:PP X e t)(m:∀σ H Q,t' σ H Q->t σ H Q):PP X e t':=fun pins s σ H Q I hp h'=>h pins s σ H Q I hp (m σ H Q h')
def rplW(a b:Str):W->Option W
 |.str x=>if okRepl x a b=true then some (.str (Txt.replace x a b))else none
 |_=>none
section
variable{X:Cx}{e o:Expr}{d:Den W}{a b:Str}{p1 p2:Pos}{k1 k2}
def DP(X:Cx)(Z:Zt)(EE:L2.St->XK)(e:Expr)(d:Den W):Prop:=PP X e (liftE X.K Z EE d)
theorem x42(i:Nat)(hN:X.N[i]?=some x:=by rfl)(hv:Vis X.env.scope x:=by walk_at "1")(hd:(x==("__debug__":Str))=false:=by decide)(hcd:(x==("__classdict__":Str))=false:=by decide):DP X Z EE (.Name x pos) (dVar i):=PP.mono (z3a hN hv hd hcd) x4e
theorem q9k(ho:DP X Z EE o d)(hbase:attributeBase o "replace" X.env (eval o X.env)=eval o X.env:=by rfl)
  (hfew:((backTo cpos (starEach [.Constant (.str a) k1 p1,.Constant (.str b) k2 p2] X.env)).all (fun x=>!x.1)&&(backToKw cpos (keywordEach [] X.env)).all (fun x=>x.1.isSome)&&decide ([Expr.Constant (.str a) k1 p1,.Constant (.str b) k2 p2].length+([]:List Keyword).length+(if([]:List Keyword).isEmpty then 0 else 1)<30))=true:=by rfl)
  (hline:(apos.endLine==cpos.line)=true:=by rfl)(hs:starEach [.Constant (.str a) k1 p1,.Constant (.str b) k2 p2] X.env=[(false,eval (.Constant (.str a) k1 p1) X.env),(false,eval (.Constant (.str b) k2 p2) X.env)]:=by rfl):
  DP X Z EE (.Call (.Attribute o "replace" apos) [.Constant (.str a) k1 p1,.Constant (.str b) k2 p2] [] cpos) (dUn (rplW a b) d):=by
 refine PP.mono (y8q ho hbase hfew hline hs) ?_;rintro σ H Q ⟨G,e,rel,h⟩;simp only[dUn,R.holds_bind,ofOpt_holds]at h;refine⟨G,e,rel,h.imp (fun x e1 h G1 v1 H1 r1 s1 p1=>?_) fun _ _ h=>h⟩
 obtain⟨w,hw,h⟩:=h;unfold rplW at hw;split at hw
 ·rename_i x0;split at hw
  ·rename_i ok;cases hw;cases(show v1=V.str x0 from p1);exact⟨x0,rfl,ok,h G1 _ H1 r1 s1 rfl⟩
  ·cases hw
 ·cases hw
theorem y8s(he:DP X Z EE e d):DE Z X EE (.BinOp (.Constant (.str c) k1 p1) .Add e pos) (dOp addX (dC (.str c)) d):=by
 refine PE.mono (y8r (op_cat0.or (op_add.or (op_add_str.or (op_catT.or x1t)))) he) ?_;intro σ H Q h;obtain⟨G1,e1,r1,h1⟩:=q32 x6q σ H Q h;exact h1 G1 (.str c) H r1 (.refl _) rfl
def ifPK(c:Int)(k:SR)(e:List S):Option S->SR
 |some (.fr (.int j))=>if j=c then k else .nx e
 |_=>.no
def dIfP(i:Nat)(c:Int)(iy:Nat)(d:Den W):List S->SR:=fun e=>ifPK c (dSet iy d e) e e[i]?
theorem y0s(i iy:Nat){w:Str}{c:Int}{pw pk pc py pa:Pos}{kk}(hNd:X.N.Nodup)(he:DP X Z EE e d)(hN:X.N[i]?=some w:=by rfl)(hv:Vis X.env.scope w:=by walk_at "1")(hi:X.N[iy]?=some y:=by rfl)(hx:Loc X.env.scope y:=by walk_at "3")
  (hs:swapsWith e (some (.Name y py)) pa.line X.env=pure false:=by rfl)(hf:X.fn y=true\/X.env.scope.names.lookup y=some .local:=by walk_at "2")
  (hm:behindInMarks .Eq (.Constant (.int c) kk pk)=false:=by rfl)(hd:(w==("__debug__":Str))=false:=by decide)(hcd:(w==("__classdict__":Str))=false:=by decide):
  DS Z X EE (.If (.Compare (.Name w pw) [.Eq] [.Constant (.int c) kk pk] pc) [.Assign [.Name y py] e pa] [] pos) (dIfP i c iy d):=by
 refine PS.mono (z3b he hNd hN hv hi hx hs hf hm hd hcd) ?_;rintro D σ H ⟨G,e,rel,h⟩;unfold dIfP ifPK at h;split at h
 ·rename_i j hei;obtain⟨v,hv1,hp⟩:=rel.fr hei;cases(show v=V.int j from hp);refine⟨j,hv1,?_⟩;split at h
  ·rename_i hj;rw[if_pos (beq_iff_eq.mpr hj)];exact⟨G,e,rel,(q0x h).imp (fun w e1 h G1 v1 H1 r1 q1 p1=>h G1 _ H1 (r1.set p1) q1) fun _ _ h=>h⟩
  ·rename_i hj;rw[if_neg (fun z=>hj (beq_iff_eq.mp z))]
   exact h G σ H rel (.refl _)
 ·exact h.elim
end
theorem z3c:dIfP i c iy d e=ifPK c (dSet iy d e) e e[i]?:=rfl
theorem z3d:ifPK c k e (some (.fr (.int j)))=if j=c then k else .nx e:=rfl
end D
namespace L2
open PySem PySem.Spec PyProof.Rows
end L2
namespace D
open PySem L2 PySem.Spec PyProof.Rows
open PyProof.Rows (envOfC)
end D
namespace L2
open PySem PySem.Spec PyProof.Rows
end L2
namespace D
open PySem L2 PySem.Spec PyProof.Rows
end D
namespace L2
open PySem PySem.Spec PyProof.Rows
end L2
namespace D
open PySem L2 PySem.Spec PyProof.Rows
open Classical
variable{X:Cx}{G H:Hp}{σ:L2.St}{EE:L2.St->XK}{ks:List Kx}{e:List S}{ws:List W}{i:Nat}{pos:Pos}{K:PySem.W.Frag}{sh:Sh}{Z:Zt}
mutual
def kxW:W->Option Kx
 |.non=>some .non
 |.bl b=>some (.bl b)
 |.int i=>some (.int i)
 |.str x=>some (.str x)
 |.tup ws=>(kxWs ws).map .tup
 |_=>none
def kxWs:List W->Option (List Kx)
 |[]=>some []
 |w::ws=>match kxW w,kxWs ws with
  |some k,some ks=>some (k::ks)
  |_,_=>none
end
def lkW:List Kx->List W->Kx->Option W
 |k::ks,w::ws,x=>if k=x then some w else lkW ks ws x
 |_,_,_=>none
theorem DAt.rd{fz:Bool}{a:Addr}{kvs:List (Kx×V)}{kas:List Addr}(s:Same G H)(h:DAt fz G a sh kvs kas):Rd H a (dwO sh kvs kas):=by
 cases fz with
 |true=>obtain⟨o,h⟩:=h;exact .inr ⟨o,s _ _ h⟩
 |false=>exact .inl (s _ _ h)
section
variable{a b e k o:Expr}{es:List Expr}{da db d dk:Den W}{dA:Den (List W)}{p tpos:Pos}{x:Str}{body:List Stmt}{s1:List S->SR}
def isDw:S->Bool
 |.dw _ _ _=>true
 |.dic _=>true
 |_=>false
theorem Rel.dwX{e:List S}(r:Rel K Z G σ H e)(h:e[i]?=some (.dw sh ks ws)):∃a kvs kas,σ[i]?=some (some (.ref a))/\H a=some (dwO sh kvs kas)/\G a=none/\Z.H a=none/\kvs.map (·.1)=ks/\KeysS sh G ks kas/\RepsX K Z G sh ws (kvs.map (·.2)):=by
 obtain⟨a,kvs,kas,h1,h2,h3,h4,h5,h6,h7⟩:=r.slot i _ h;refine⟨a,kvs,kas,?_,h2,h3,h4,h5,h6,h7⟩;cases q:σ[i]? with
 |none=>rw[q]at h1;cases h1
 |some z=>rw[q]at h1;rw[show z=some (V.ref a)from h1]
theorem Rel.dw{e:List S}(r:Rel K Z G σ H e)(h:e[i]?=some (.dw sh ks ws)):∃a kvs kas,σ[i]?=some (some (.ref a))/\H a=some (dwO sh kvs kas)/\G a=none/\Z.H a=none/\kvs.map (·.1)=ks/\KeysS sh G ks kas/\Reps K G ws (kvs.map (·.2)):=by
 obtain⟨a,kvs,kas,h1,h2,h3,h4,h5,h6,h7⟩:=r.dwX h;exact⟨a,kvs,kas,h1,h2,h3,h4,h5,h6,h7.reps⟩
theorem Rel.setS{e:List S}(r:Rel K Z G σ H e){s:S}{v:V}(hs:∀b ws,s≠.own b ws)(q:SlotOk K Z G H s (some v)):Rel K Z G (σ.set i (some v)) H (e.set i s):=by
 refine⟨r.sub,fun j t z=>?_,by simpa using r.len,fun j k b1 b2 w1 w2 c z1 z2 z3 z4=>?_,r.ent,r.ion,r.gen⟩
 ·by_cases hj:j=i
  ·subst hj
   have hi:j<e.length:=by
    have:=(w0n.mp z).1;simpa using this
   rw[w0m hi]at z;cases z;rw[w0m (by rw[<- r.len];exact hi)];exact q
  ·rw[w0h (fun z=>hj z.symm)]at z |-
   exact r.slot j t z
 ·have old:∀(k:Nat)(bb:Option Nat)(ww:List W),(e.set i s)[k]?=some (.own bb ww)->k≠i/\e[k]?=some (.own bb ww):=fun k bb ww z=>by
   by_cases hk:k=i
   ·subst hk
    have hi:k<e.length:=by
     have:=(w0n.mp z).1;simpa using this
    rw[w0m hi]at z;cases z;exact absurd rfl (hs _ _)
   ·rw[w0h (fun z=>hk z.symm)]at z;exact⟨hk,z⟩
  obtain⟨n1,q1⟩:=old _ _ _ z1;obtain⟨n2,q2⟩:=old _ _ _ z2;rw[w0h (fun z=>n1 z.symm)]at z3
  rw[w0h (fun z=>n2 z.symm)]at z4
  exact r.dis _ _ _ _ _ _ _ q1 q2 z3 z4
theorem Rel.mutDw{e:List S}(r:Rel K Z G σ H e){sh:Sh}{ks':List Kx}{ws':List W}{a:Addr}{kvs':List (Kx×V)}{kas':List Addr}(h:e[i]?=some (.dw sh ks ws))(ha:σ[i]?=some (some (.ref a)))(ho:∀s∈e.set i .no,isDw s=false)
  (h5:kvs'.map (·.1)=ks')(h6:KeysS sh G ks' kas')(h7:RepsX K Z G sh ws' (kvs'.map (·.2))):Rel K Z G σ (upd H a (dwO sh kvs' kas')) (e.set i (.dw sh ks' ws')):=by
 obtain⟨a',kvs,kas,h1,h2,h3,h4,_⟩:=r.dw h;rw[ha]at h1;cases h1;have hi:i<e.length:=(w0n.mp h).1;refine⟨fun c o z=>?_,fun j s z=>?_,by simpa using r.len,fun j k b1 b2 w1 w2 c z1 z2 z3 z4=>?_,fun c o z n=>?_,fun c z=>?_,r.gen⟩
 ·rw[q0f (q0o z h3)];exact r.sub c o z
 ·by_cases hj:j=i
  ·subst hj;rw[w0m hi]at z;cases z;exact⟨a,kvs',kas',by rw[ha];rfl,q0j,h3,h4,h5,h6,h7⟩
  ·rw[w0h (fun z=>hj z.symm)]at z
   have y:=r.slot j s z;cases s with
   |no=>trivial
   |fr w=>exact y
   |own b2 w2=>
    obtain⟨c,ys,y1,y2,y3,y4,y5⟩:=y;refine⟨c,ys,y1,?_,y3,y4,y5⟩;rw[q0f (q0u y2 h2 (fun z=>q53 rfl z.symm))];exact y2
   |dic _=>
    have:=ho _ (w1m (i:=j) (by rw[w0h (fun z=>hj z.symm)];exact z))
    cases this
   |thr us w2 vs=>
    obtain⟨t,l,o,xs2,ys,zs,y1,y2,y3,y4,y5,y6⟩:=y;refine⟨t,l,o,xs2,ys,zs,y1,y2,?_,y4,y5,y6⟩;rw[q0f (q0u y3 h2 (fun z=>q53 rfl z.symm))];exact y3
   |nest wss=>exact NestOk.move y (.refl _) fun l o ys k1 k2 k3=>⟨by rw[q0f (q0u k1 h2 (fun z=>q53 rfl z.symm))];exact k1,k2,k3⟩
   |x k=>exact XOk.move y (.refl _) fun l o ys k1 k2 k3=>⟨by rw[q0f (q0u k1 h2 (fun z=>q53 rfl z.symm))];exact k1,k2,k3⟩
   |dw _ _ _=>
    have:=ho _ (w1m (i:=j) (by rw[w0h (fun z=>hj z.symm)];exact z))
    cases this
 ·have old:∀(k:Nat)(bb:Option Nat)(ww:List W),(e.set i (S.dw sh ks' ws'))[k]?=some (.own bb ww)->e[k]?=some (.own bb ww):=fun k bb ww z=>by
   by_cases hk:k=i
   ·subst hk;rw[w0m hi]at z;cases z
   ·rw[w0h (fun z=>hk z.symm)]at z;exact z
  exact r.dis _ _ _ _ _ _ _ (old _ _ _ z1) (old _ _ _ z2) z3 z4
 ·rw[q0f (q0o z h4)];exact r.ent c o z n
 ·by_cases hc:c=a
  ·subst hc;rw[q0j];exact fun z=>nomatch z
  ·rw[q0f hc];exact r.ion c z
def setDI(i:Nat)(e:List S):FR->SR
 |.ok (.dw sh ks ws)=>.nx (e.set i (.fr (.dw false sh ks ws)))
 |_=>.no
def dSetDI(i:Nat)(F:List W->FR)(dA:Den (List W)):List S->SR:=fun e=>(dA e).stm fun ws e1=>setDI i e1 (F ws)
theorem y30(i:Nat){f:Str}{k:Nat}{ps:List Str}{F:List W->FR}{np cpos:Pos}(hN:X.N.Nodup)(C:Cal X.prog X.w X.K X.mg X.base k f ps (spF X.K F))(hr:Room k X.A)(hx:PassX (CX1 X.prog X.w) X EE)(ha:DA Z X EE (e::es) dA)(hg:Gl X f:=by rfl)
  (hdb:(f==("__debug__":Str))=false:=by decide)(he:starEach (e::es) X.env=(false,eval e X.env)::starEach es X.env:=by rfl)(hpl:(backTo cpos (starEach es X.env)).any (·.1)=false:=by rfl)
  (hi:X.N[i]?=some x:=by rfl)(hl:Loc X.env.scope x:=by walk_at "3")(hs:swapsWith (.Call (.Name f np) (e::es) [] cpos) (some (.Name x p)) pos.line X.env=pure false:=by rfl)(hf:X.fn x=true\/X.env.scope.names.lookup x=some .local:=by walk_at "2"):
  DS Z X EE (.Assign [.Name x p] (.Call (.Name f np) (e::es) [] cpos) pos) (dSetDI i F dA):=by
 refine PS.mono (x0x i hN (x4d C hr hx ha hg hdb he hpl) hi hl hs hf) ?_;rintro D σ H ⟨G,e,rel,h⟩;refine⟨G,e,rel,(q0x h).imp (fun ws e1 h G1 vs H1 r1 s1 p1=>?_) fun _ _ h=>h⟩
 refine⟨G1,ws,r1.sub,by grind,?_⟩;cases q:F ws with
 |ok s=>
  rw[q]at h;intro G' H' v g sl;cases s with
  |dw sh ks ws'=>
   obtain⟨a,kvs,kas,h1,h2,h3,h4,h5,h6,h7⟩:=sl;cases h1;have hn:H1 a=none:=h4;have sg:Same G' (upd G' a (dwO sh kvs kas)):=q24 h3 _
   have g2:Grow G1 H1 (upd G' a (dwO sh kvs kas)) H':=
    ⟨g.hh,g.gg.trans sg,fun c u z=>by
     by_cases hc:c=a
     ·grind [q0j]
     ·rw[q0f hc]at z;exact g.sub _ _ z,fun c z=>by rw[q0f (fun y=>z (by rw[y];exact hn))];exact g.new c z⟩
   exact h _ _ _ ((r1.grow g2).set (w:=.dw false sh ks ws') (v:=.ref a) ⟨a,kvs,kas,rfl,q0j,h5,h6.mono sg,Reps.mono sg ws' h7.reps⟩) (s1.trans g2.gg)
  |_=>exact h.elim
 |ex c=>rw[q]at h;exact h.elim
 |no=>rw[q]at h;exact h.elim
theorem y31{F:List W->FR}{e:List S}:dSetDI i F dA e=(dA e).stm fun ws e1=>setDI i e1 (F ws):=rfl
theorem y33{e:List S}:setDI i e (.ok (.dw sh ks ws))=.nx (e.set i (.fr (.dw false sh ks ws))):=rfl
def retW(e:List S):Option S->SR
 |some (.dw sh ks ws)=>.rt (.dw sh ks ws) e
 |_=>.no
def dRetW(i:Nat):List S->SR:=fun e=>retW e e[i]?
theorem y8t(i:Nat)(hN:X.N[i]?=some x:=by rfl)(hv:Vis X.env.scope x:=by walk_at "1")(hd:(x==("__debug__":Str))=false:=by decide)(hcd:(x==("__classdict__":Str))=false:=by decide):
  DS Z X EE (.Return (some (.Name x p)) pos) (dRetW i):=by
 refine PS.mono (q8h (pv i hN hv hd hcd)) ?_;rintro D σ H ⟨G,e,rel,h⟩;unfold dRetW retW at h;split at h
 ·rename_i sh ks ws hw;obtain⟨a,kvs,kas,h1,h2,h3,h4,h5,h6,h7⟩:=rel.dwX hw;exact⟨.ref a,h1,h G σ (.ref a) H rel (.refl _) ⟨a,kvs,kas,rfl,h2,h3,h4,h5,h6,h7⟩⟩
 ·exact h.elim
end
section
variable{w kw dflt:W}{x:Kx}{fz:Bool}
theorem y8u:dRetW i e=retW e e[i]?:=rfl
theorem z3e:retW e (some (.dw sh ks ws))=.rt (.dw sh ks ws) e:=rfl
theorem y8v:hide1 (.dw sh ks ws)=.fr (.dw false sh ks ws):=rfl
end
open PySem L2
section
variable{a b:Expr}{da db:Den W}
def ixS(d w:W):Option W:=match d,w with
 |.dw _ .str ks ws,.str n=>lkW ks ws (.str n)
 |_,_=>none
theorem x6v{n:Str}:∀{kvs:List (Kx×V)}{ws:List W}{w:W},(∀k∈kvs.map (·.1),∃i,k=Kx.str i)->Reps K G ws (kvs.map (·.2))->lkW (kvs.map (·.1)) ws (.str n)=some w->∃v,valV (kvs.map fun p=>(kxK p.1,p.2)) (.inr n:Key)=some v/\Rep K G w v
 |[],_,_,_,_,e=>by grind [lkW]
 |p::l,[],_,_,h,_=>nomatch (show(p::l).map (·.2)=[]from h)
 |p::l,w0::ws,w,hk,⟨y,r,e0,h1,h2⟩,e=>by
  injection e0 with e0 e0'
  subst e0;subst e0';obtain⟨i,hi⟩:=hk p.1 (by simp);have e:(if p.1=Kx.str n then some w0 else lkW (l.map (·.1)) ws (.str n))=some w:=e
  by_cases hp:p.1=Kx.str n
  ·rw[if_pos hp]at e;cases e;refine⟨p.2,?_,h1⟩;rw[w0g,hp];exact q6x rfl
  ·rw[if_neg hp]at e;obtain⟨v,h3,h4⟩:=x6v (fun k hk'=>hk k (by grind)) h2 e
   refine⟨v,?_,h4⟩;rw[w0g,q6y]
   ·exact h3
   ·intro z;rw[hi]at z hp;injection z with z
    exact hp (by rw[z])
theorem z3f:Op2 K (fun x y H Q=>∃a v,x=.ref a/\DGet H a y (some v)/\Q v H) ixS:=by
 intro G H x y wx wy w Q s px py hf h;unfold ixS at hf;split at hf
 ·rename_i fz ks ws n;cases(show y=V.str n from py);obtain⟨a,kvs,kas,rfl,h1,rfl,h3,h4⟩:=px;obtain⟨v,e1,e2⟩:=x6v h3 h4 hf;have rd:Rd H a (.dK (kvs.map fun p=>(kxK p.1,p.2))):=h1.rd s
  exact⟨a,v,rfl,.inl ⟨_,.inr n,rd,rfl,e1.symm⟩,h G v H (.refl s) e2⟩
 ·cases hf
theorem q2w(hu:X.A.units+150<cLine)(ha:DE Z X EE a da)(hb:DE Z X EE b db)(hs:NoSl b:=by intro _ _;rfl):DE Z X EE (.Subscript a b pos) (dOp ixS da db):=
 PE.mono (x6r (by omega) ha hb hs) (q32 z3f)
end
end D
namespace L2
open PySem PySem.Spec PyProof.Rows
end L2
namespace D
open PySem PySem.Spec L2 PyProof.Rows
section
variable{prog:Program}{w:World}{A:Around}{E:Value->Shared->Prop}{s:Shared}
def IsZp(h:Heap)(z I O c:Addr)(f:Bool):Prop:=h.get? z=some {cls:=.type "zip", data:=.fields #[rawInt c,.bool f,.bool false,.ref I,.ref O]}
theorem alive{a:Addr}{o:Obj}{Q:Option Obj->Shared->Prop}(h:s.heap.get? a=some o)(q:Q (some o) s):wpAny (model prog w) A (loadIfAlive a) Q E s:=by
 intro Γ p _;show Sem.wp _ _ (Sem.loadIfAlive a Sem.pure) _ _ _ _;rw[Sem.wp_loadIfAlive,h];exact q
theorem x43{z I O c:Addr}{f:Bool}{Q:Bool->Shared->Prop}{oc:Obj}(gz:IsZp s.heap z I O c f)(hc:s.heap.get? c=some oc)(hQ:∀h',IsZp h' z I O c true->Heap.SameBut z s.heap h'->Q false {s with heap:=h'}):
  wpAny (model prog w) A (Builtin.SmallTypes.ownedTupleIsFree (.ref z)) Q E s:=by
 unfold Builtin.SmallTypes.ownedTupleIsFree;refine wpAny_bind (wpAny_field gz rfl (x:=rawInt c) rfl ?_);show wpAny _ _ (loadIfAlive (((c:Nat):Int).toNat) >>= _) _ _ _;refine wpAny_bind (alive (o:=oc) hc ?_);show wpAny _ _ (field (.ref z) 1 >>= _) _ _ _;refine wpAny_bind (wpAny_field gz rfl (x:=.bool f) rfl ?_);cases f with
 |true=>exact wpAny_pure (hQ s.heap gz (Heap.SameBut.refl _ _))
 |false=>
  show wpAny _ _ (setField (.ref z) 1 (.bool true) >>= _) _ _ _;exact wpAny_bind (wpAny_setField_rec gz (by simp) fun ha za sa=>wpAny_pure (hQ ha za sa))
theorem y34{z I O i j a b c:Addr}{t u f:Bool}{k:Nat}{xs ys:Array Value}{x y:Value}{oc:Obj}{Q:Value->Shared->Prop}(D:Apart z I O i j a b)
  (gz:IsZp s.heap z I O c f)(hc:s.heap.get? c=some oc)(gI:IsPair s.heap I (.ref i) (.ref j))
  (g1:IsIt t i a k s.heap)(g2:IsIt u j b k s.heap)(l1:IsSq t a xs s.heap)(l2:IsSq u b ys s.heap)(hx:xs[k]?=some x)(hy:ys[k]?=some y)
  (hQ:∀h',IsZp h' z I O c true->IsIt t i a (k+1) h'->IsIt u j b (k+1) h'->IsPair h' s.heap.objs.size x y->h'.objs.size=s.heap.objs.size+1 ->
   (∀c o,c≠z->c≠i->c≠j->s.heap.get? c=some o->h'.get? c=some o)->Q (.ref s.heap.objs.size) {s with heap:=h'}):
  wpAny (model prog w) A (Builtin.«zip.__next__» ⟨[.ref z],[]⟩) (fun fin s'=>∃v,fin=.done (.ret v)/\Q v s') E s:=by
 show wpAny _ _ (field (.ref z) 2 >>= _) _ _ _;refine wpAny_bind (wpAny_field gz rfl (x:=.bool false) rfl ?_);show wpAny _ _ (field (.ref z) 3 >>= _) _ _ _;refine wpAny_bind (wpAny_field gz rfl (x:=.ref I) rfl (wpAny_bind (wpAny_seqItems gI rfl ?_)));show wpAny _ _ (Builtin.SmallTypes.ownedTupleIsFree (.ref z) >>= _) _ _ _;refine wpAny_bind (x43 gz hc fun ha za sa=>?_)
 simp only[w3b,if_false];refine wpAny_bind ?_;simp only[<- w3a,w2e,w4a];refine wpAny_bind (wpAny_bind (wpAny_holding ?_));show wpAny _ _ (Builtin.SmallTypes.nextOf (.ref i) >>= _) _ _ _;refine wpAny_bind (q6n (s:={s with heap:=ha}) (g1.keep fun o e=>sa.extBut _ _ D.iz e) (l1.keep fun o e=>sa.extBut _ _ D.az e) hx fun hb ib sb=>wpAny_pure (wpAny_pure (wpAny_bind (wpAny_bind (wpAny_holding ?_)))))
 show wpAny _ _ (Builtin.SmallTypes.nextOf (.ref j) >>= _) _ _ _;refine wpAny_bind (q6n (s:={s with heap:=hb}) (g2.keep fun o e=>sb.extBut _ _ D.ij.symm (sa.extBut _ _ D.jz e)) (l2.keep fun o e=>sb.extBut _ _ D.bi (sa.extBut _ _ D.bz e)) hy fun hd jd sd=>wpAny_pure (wpAny_pure (wpAny_pure (wpAny_bind (wpAny_newTuple (wpAny_pure ⟨_,rfl,?_⟩) (by rw[sizeLine_eq];simp))))))
 have sz:hd.objs.size=s.heap.objs.size:=by rw[sd.1,sb.1,sa.1]
 have up:∀c o,c≠z->c≠i->c≠j->s.heap.get? c=some o->(hd.push {cls:=.type "tuple", data:=.seq #[x,y]}).get? c=some o:=fun c o c1 c3 c4 e=>Heap.get?_push_of_some _ (sd.extBut _ _ c4 (sb.extBut _ _ c3 (sa.extBut _ _ c1 e)))
 show Q (.ref hd.objs.size) _;have tk:IsPair (hd.push {cls:=.type "tuple", data:=.seq #[x,y]}) hd.objs.size x y:=Heap.get?_push_size _ rfl;rw[sz]at tk |-
 exact hQ _ (Heap.get?_push_of_some _ (sd.extBut _ _ D.jz.symm (sb.extBut _ _ D.iz.symm za))) (ib.keep fun o e=>Heap.get?_push_of_some _ (sd.extBut _ _ D.ij e)) (jd.keep fun o e=>Heap.get?_push_of_some _ e) tk (by rw[Heap.size_push,sz]) up
theorem y8w{z I O i j a b c:Addr}{t u f:Bool}{k:Nat}{xs ys:Array Value}{oc:Obj}{Q:Fin->Shared->Prop}(hh:A.handled=none)(D:Apart z I O i j a b)
  (gz:IsZp s.heap z I O c f)(hc:s.heap.get? c=some oc)(gI:IsPair s.heap I (.ref i) (.ref j))
  (g1:IsIt t i a k s.heap)(g2:IsIt u j b k s.heap)(l1:IsSq t a xs s.heap)(l2:IsSq u b ys s.heap)(hend:xs[k]?=none\/ys[k]?=none)
  (hE:∀h' e,(∀c o,c≠z->c≠i->c≠j->s.heap.get? c=some o->h'.get? c=some o)->(∃o,h'.get? e=some o/\o.cls=.type "StopIteration")->E (.ref e) {s with heap:=h'}):
  wpAny (model prog w) A (Builtin.«zip.__next__» ⟨[.ref z],[]⟩) Q E s:=by
 show wpAny _ _ (field (.ref z) 2 >>= _) _ _ _;refine wpAny_bind (wpAny_field gz rfl (x:=.bool false) rfl ?_);show wpAny _ _ (field (.ref z) 3 >>= _) _ _ _;refine wpAny_bind (wpAny_field gz rfl (x:=.ref I) rfl (wpAny_bind (wpAny_seqItems gI rfl ?_)));show wpAny _ _ (Builtin.SmallTypes.ownedTupleIsFree (.ref z) >>= _) _ _ _;refine wpAny_bind (x43 gz hc fun ha za sa=>?_)
 simp only[w3b,if_false];refine wpAny_bind ?_;simp only[<- w3a,w2e,w4a];refine wpAny_bind (wpAny_bind (wpAny_holding ?_));show wpAny _ _ (Builtin.SmallTypes.nextOf (.ref i) >>= _) _ _ _;cases hx:xs[k]? with
 |none=>exact wpAny_bind (x06 (s:={s with heap:=ha}) hh (g1.keep fun o e=>sa.extBut _ _ D.iz e) (l1.keep fun o e=>sa.extBut _ _ D.az e) hx fun hb e sb ge=>hE hb e (fun c o c1 c3 _ x=>sb _ _ c3 (sa.extBut _ _ c1 x)) ge)
 |some x=>
  have hy:ys[k]?=none:=by rcases hend with h|h;rw[hx]at h;cases h;exact h
  refine wpAny_bind (q6n (s:={s with heap:=ha}) (g1.keep fun o e=>sa.extBut _ _ D.iz e) (l1.keep fun o e=>sa.extBut _ _ D.az e) hx fun hb ib sb=>wpAny_pure (wpAny_pure (wpAny_bind (wpAny_bind (wpAny_holding ?_)))))
  show wpAny _ _ (Builtin.SmallTypes.nextOf (.ref j) >>= _) _ _ _;exact wpAny_bind (x06 (s:={s with heap:=hb}) hh (g2.keep fun o e=>sb.extBut _ _ D.ij.symm (sa.extBut _ _ D.jz e)) (l2.keep fun o e=>sb.extBut _ _ D.bi (sa.extBut _ _ D.bz e)) hy fun hd e sd ge=>hE hd e (fun c o c1 c3 c4 x=>sd _ _ c4 (sb.extBut _ _ c3 (sa.extBut _ _ c1 x))) ge)
def ZSt(h:Heap)(z I O i j a b:Addr)(t u:Bool)(k:Nat)(cs:List Addr):Prop:=
 IsPair h I (.ref i) (.ref j)/\IsIt t i a k h/\IsIt u j b k h/\match cs with
  |[]=>IsZip h z I O .none/\∃p q,IsPair h O p q
  |c::_=>∃f,IsZp h z I O c f
theorem y8x{z I O i j a b:Addr}{t u:Bool}{k:Nat}{cs:List Addr}{xs ys:Array Value}{x y:Value}{Q:Option Value->Shared->Prop}(D:Apart z I O i j a b)(st:ZSt s.heap z I O i j a b t u k cs)(hcs:∀c∈cs,∃o,s.heap.get? c=some o)
  (l1:IsSq t a xs s.heap)(l2:IsSq u b ys s.heap)(hx:xs[k]?=some x)(hy:ys[k]?=some y)
  (hQ:∀h',ZSt h' z I O i j a b t u (k+1) (cs++[s.heap.objs.size])->IsPair h' s.heap.objs.size x y->h'.objs.size=s.heap.objs.size+1 ->
   (∀c o,c≠z->c≠O->c≠i->c≠j->s.heap.get? c=some o->h'.get? c=some o)->Q (some (.ref s.heap.objs.size)) {s with heap:=h'}):wpAny (model prog w) A (pyNext (.ref z)) Q E s:=by
 obtain⟨gI,g1,g2,st⟩:=st;cases cs with
 |nil=>
  obtain⟨gz,p,q,gO⟩:=st;exact y7t D gz gI gO g1 g2 l1 l2 hx hy fun h' a1 a2 a3 a4 a5 a6 a7=>hQ h' ⟨a7 _ _ D.Iz D.IO D.Ii D.Ij gI,a3,a4,false,a1⟩ a5 a6 a7
 |cons c cs=>
  obtain⟨f,gz⟩:=st;obtain⟨oc,hc⟩:=hcs c w0f;have hT:s.TypeIs (.ref z) "zip":=⟨_,gz,rfl⟩;unfold pyNext;exact wpAny_bind (wpAny_attempt (wpAny_callSpecial?_slot (name:=Str.ofString "__next__") hT F.slot_zip_next (wpAny_call_entry F.slot_zip_next hT F.entry_zip_next (y34 D gz hc gI g1 g2 l1 l2 hx hy fun h' a1 a3 a4 a5 a6 a7=>wpAny_pure (hQ h' ⟨a7 _ _ D.Iz D.Ii D.Ij gI,a3,a4,true,a1⟩ a5 a6 fun c o c1 _ c3 c4 e=>a7 c o c1 c3 c4 e)) (F.args_zip_next_1 _))))
theorem y8y{z I O i j a b:Addr}{t u:Bool}{k:Nat}{cs:List Addr}{xs ys:Array Value}{Q:Option Value->Shared->Prop}(hh:A.handled=none)(D:Apart z I O i j a b)(st:ZSt s.heap z I O i j a b t u k cs)(hcs:∀c∈cs,∃o,s.heap.get? c=some o)
  (l1:IsSq t a xs s.heap)(l2:IsSq u b ys s.heap)(hend:xs[k]?=none\/ys[k]?=none)
  (hQ:∀h',(∀c o,c≠z->c≠O->c≠i->c≠j->s.heap.get? c=some o->h'.get? c=some o)->Q none {s with heap:=h'}):wpAny (model prog w) A (pyNext (.ref z)) Q E s:=by
 obtain⟨gI,g1,g2,st⟩:=st;cases cs with
 |nil=>
  obtain⟨gz,p,q,gO⟩:=st;exact y7u hh D gz gI gO g1 g2 l1 l2 hend hQ
 |cons c cs=>
  obtain⟨f,gz⟩:=st;obtain⟨oc,hc⟩:=hcs c w0f;have hT:s.TypeIs (.ref z) "zip":=⟨_,gz,rfl⟩;unfold pyNext;refine wpAny_bind (wpAny_attempt (wpAny_callSpecial?_slot (name:=Str.ofString "__next__") hT F.slot_zip_next (wpAny_call_entry F.slot_zip_next hT F.entry_zip_next (y8w hh D gz hc gI g1 g2 l1 l2 hend fun h' e hk he=>?_) (F.args_zip_next_1 _))))
  obtain⟨o,ho,hc⟩:=he;exact wpAny_bind (wpAny_isInstance (T:="StopIteration") (b:=true) ⟨o,ho,hc⟩ isSubtype_stop (wpAny_pure (hQ _ fun c o c1 _ c3 c4 e=>hk c o c1 c3 c4 e)))
def PairsAt(h:Heap)(cs:List Addr)(ps:List (Value×Value)):Prop:=cs.length=ps.length/\∀(k:Nat)(c:Addr)(p:Value×Value),cs[k]?=some c->ps[k]?=some p->IsPair h c p.1 p.2
theorem PairsAt.keep{h h':Heap}{cs:List Addr}{ps:List (Value×Value)}(pa:PairsAt h cs ps)(e:∀c∈cs,∀o,h.get? c=some o->h'.get? c=some o):PairsAt h' cs ps:=⟨pa.1,fun k c p h1 h2=>e c (w1m h1) _ (pa.2 k c p h1 h2)⟩
theorem PairsAt.there{h:Heap}{cs:List Addr}{ps:List (Value×Value)}(pa:PairsAt h cs ps):∀c∈cs,∃o,h.get? c=some o:=fun c hc=>by
 obtain⟨q,hq,e⟩:=w3s hc;exact⟨_,pa.2 q c (ps[q]'(by rw[<- pa.1];exact hq)) (by rw[w0a hq,e]) (w0a _)⟩
theorem PairsAt.snoc{h:Heap}{cs:List Addr}{ps:List (Value×Value)}{c:Addr}{p:Value×Value}(pa:PairsAt h cs ps)(e:IsPair h c p.1 p.2):PairsAt h (cs++[c]) (ps++[p]):=by
 refine⟨by simp[pa.1],fun k c' p' h1 h2=>?_⟩
 by_cases hk:k<cs.length
 ·rw[w1w hk]at h1;rw[w1w (by rw[<- pa.1];exact hk)]at h2;exact pa.2 k c' p' h1 h2
 ·rw[w1d (by omega)]at h1;rw[w1d (by rw[<- pa.1];omega)]at h2;rw[<- pa.1]at h2;cases hq:k-cs.length with
  |zero=>rw[hq]at h1 h2;cases h1;cases h2;exact e
  |succ q=>rw[hq]at h1;simp at h1
theorem y8z{z I O i j a b S:Addr}{t u:Bool}{xs ys:Array Value}{R:Result->Shared->Prop}{res:Value}(hh:A.handled=none)(D:Apart z I O i j a b)(hS:S∉[z,O,i,j,a,b,I])(hn:(xs.toList.zip ys.toList).length<=sizeLine):
  ∀(m k:Nat)(s:Shared)(cs:List Addr)(n:Nat),(xs.toList.zip ys.toList).length-k=m->k<=(xs.toList.zip ys.toList).length->ZSt s.heap z I O i j a b t u k cs->PairsAt s.heap cs ((xs.toList.zip ys.toList).take k)->(∀c∈cs,c∉[z,O,i,j,S])->(∀d∈[z,O,i,j,S],d<s.heap.objs.size)->IsSq t a xs s.heap->IsSq u b ys s.heap ->
  s.heap.get? S=some {cls:=.type "list", dict:=none,data:=.seq (cs.map Value.ref).toArray n,slots:=#[]} ->
  (∀h' cs' n',(∃tl,cs'=cs++tl/\(∀c∈tl,s.heap.objs.size<=c)/\tl.Nodup)->PairsAt h' cs' (xs.toList.zip ys.toList)->h'.get? S=some {cls:=.type "list", dict:=none,data:=.seq (cs'.map Value.ref).toArray n',slots:=#[]} ->
   (∀c o,c∉[z,O,i,j,S]->s.heap.get? c=some o->h'.get? c=some o)->R (.ok (.ret res)) {s with heap:=h'}) ->
  codeAny (model prog w) A (.builtin "list.extend.loop" ⟨[.ref S,.ref z,res],[]⟩) R s:=by
 simp only[w0d,w0o,or_false,not_or]at hS;obtain⟨Sz,SO,Si,Sj,Sa,Sb,SI⟩:=hS;have no:∀c,c∉[z,O,i,j,S]↔c≠z/\c≠O/\c≠i/\c≠j/\c≠S:=fun c=>by simp only[w0d,w0o,or_false,not_or]
 intro m
 induction m with
 |zero=>
  intro k s cs n hk hle st pa hcS hlt l1 l2 hSs hR;have ek:k=(xs.toList.zip ys.toList).length:=by omega
  refine codeAny_builtin F.entry_extend_loop ?_;rw[Around.under_plainId F.plain_extend_loop _];show wpAny _ A.in1 (pyNext (.ref z) >>= _) _ _ s;refine wpAny_bind (y8y hh D st pa.there l1 l2 ?_ fun h' kp=>?_)
  ·rw[w3d]at ek;rcases Nat.le_total xs.toList.length ys.toList.length with h|h
   ·left;rw[w2h h]at ek;simp at ek |-;omega
   ·right;rw[Nat.min_eq_right h]at ek;simp at ek |-;omega
  ·rw[ek,w2b]at pa;refine wpAny_pure (hR h' cs n ⟨[],by simp,(fun c hc=>nomatch hc),.nil⟩ (pa.keep fun c hc o e=>?_) (kp S _ Sz SO Si Sj hSs) fun c o hc e=>?_)
   ·obtain⟨c1,c2,c3,c4,_⟩:=(no c).mp (hcS c hc);exact kp c o c1 c2 c3 c4 e
   ·obtain⟨c1,c2,c3,c4,_⟩:=(no c).mp hc;exact kp c o c1 c2 c3 c4 e
 |succ m ih=>
  intro k s cs n hk hle st pa hcS hlt l1 l2 hSs hR;have hlk:k<(xs.toList.zip ys.toList).length:=by omega
  have hlk2:=hlk;rw[w3d]at hlk2;have kx:k<xs.size:=by simp at hlk2;omega
  have ky:k<ys.size:=by simp at hlk2;omega
  refine codeAny_builtin F.entry_extend_loop ?_;rw[Around.under_plainId F.plain_extend_loop _];show wpAny _ A.in1 (pyNext (.ref z) >>= _) _ _ s;refine wpAny_bind (y8x D st pa.there l1 l2 (w4b kx) (w4b ky) fun h' st' pr sz kp=>?_)
  have hSs':=kp S _ Sz SO Si Sj hSs;have hcl:cs.length=k:=by rw[pa.1,w3m];omega
  show wpAny _ A.in1 (updateSeq S (·.push (.ref s.heap.objs.size)) >>= _) _ _ _;refine wpAny_bind ?_;have hl5:∀d∈[z,O,i,j,S],d≠s.heap.objs.size:=fun d hd=>w0u (hlt d hd)
  obtain⟨n2,en⟩:∃n2,Obj.mapSeq (·.push (.ref s.heap.objs.size)) {cls:=.type "list", dict:=none,data:=.seq (cs.map Value.ref).toArray n,slots:=#[]}={cls:=.type "list", dict:=none,data:=.seq ((cs++[s.heap.objs.size]).map Value.ref).toArray n2,slots:=#[]}:=⟨_,by rw[w0i];unfold Obj.mapSeq;simp only[List.push_toArray];rfl⟩;have up:∀c o,c≠S->h'.get? c=some o->(h'.update S (Obj.mapSeq (·.push (.ref s.heap.objs.size)))).get? c=some o:=fun c o hc e=>(Heap.get?_update_other _ _ (Ne.symm hc)).trans e
  have hcS':∀c∈cs++[s.heap.objs.size],c∉[z,O,i,j,S]:=fun c hc=>by
   rcases w0z.mp hc with hc|hc
   ·exact hcS c hc
   ·rw[w1g.mp hc];exact fun z=>hl5 _ z rfl
  have szu:(h'.update S (Obj.mapSeq (·.push (.ref s.heap.objs.size)))).objs.size=s.heap.objs.size+1:=by rw[Heap.size_update];exact sz
  refine wpAny_updateSeq hSs' rfl (wpAny_pure ⟨plainId_quiet F.plain_extend_loop _,ih (k+1) _ (cs++[s.heap.objs.size]) n2 (by omega) hlk ?_ ?_ hcS' ?_ ?_ ?_ ((Heap.get?_update_self _ hSs' rfl).trans (by rw[en])) fun h'' cs' n' hcs' pa' hS'' kp'=>?_⟩)
   (by simp;omega) (by simp;omega)
  ·obtain⟨q1,q2,q3,q4⟩:=st';refine⟨up _ _ (Ne.symm SI) q1,q2.keep fun o e=>up _ _ (Ne.symm Si) e,q3.keep fun o e=>up _ _ (Ne.symm Sj) e,?_⟩
   cases cs with
   |nil=>obtain⟨f,q4⟩:=q4;exact⟨f,up _ _ (Ne.symm Sz) q4⟩
   |cons c cs=>obtain⟨f,q4⟩:=q4;exact⟨f,up _ _ (Ne.symm Sz) q4⟩
  ·have:(xs.toList.zip ys.toList).take (k+1)=(xs.toList.zip ys.toList).take k++[(xs[k],ys[k])]:=by
    rw[w2i,w0a hlk];simp
   rw[this];refine((pa.keep fun c hc o e=>?_).snoc pr).keep fun c hc o e=>?_
   ·obtain⟨c1,c2,c3,c4,_⟩:=(no c).mp (hcS c hc);exact kp c o c1 c2 c3 c4 e
   ·exact up c o ((no c).mp (hcS' c hc)).2.2.2.2 e
  ·intro d hd;show d<(h'.update S _).objs.size;rw[szu];exact w1n (hlt d hd)
  ·exact l1.keep fun o e=>up _ _ (Ne.symm Sa) (kp _ _ D.az D.aO D.ai D.aj e)
  ·exact l2.keep fun o e=>up _ _ (Ne.symm Sb) (kp _ _ D.bz D.bO D.bi D.bj e)
  ·obtain⟨tl,rfl,htl,hnd⟩:=hcs'
   have htl:∀c∈tl,s.heap.objs.size+1<=c:=fun c hc=>by
    have this:(h'.update S (Obj.mapSeq (·.push (.ref s.heap.objs.size)))).objs.size<=c:=htl c hc;rw[szu]at this;exact this
   refine hR h'' _ n' ⟨s.heap.objs.size::tl,by simp,fun c hc=>?_,w1x.mpr ⟨fun hm=>?_,hnd⟩⟩ pa' hS'' fun c o hc e=>?_
   ·rcases w0d.mp hc with rfl|hc
    ·exact w0b _
    ·exact Nat.le_of_succ_le (htl c hc)
   ·exact absurd (htl _ hm) (Nat.not_succ_le_self _)
   ·obtain⟨c1,c2,c3,c4,c5⟩:=(no c).mp hc;exact kp' c o hc (up c o c5 (kp c o c1 c2 c3 c4 e))
theorem y35:typeLookup (.type "zip") "__len__"=pure none:=by rw[typeLookup_type,builtinLookup_eq_fast];kernel_rfl
theorem y0t:typeLookup (.type "zip") "__length_hint__"=pure none:=by rw[typeLookup_type,builtinLookup_eq_fast];kernel_rfl
theorem x55{z I O i j a b:Addr}{t u:Bool}{xs ys:Array Value}{Q:List Value->Shared->Prop}(hh:A.handled=none)(D:Apart z I O i j a b)(gz:IsZip s.heap z I O .none)(gO:∃p q,IsPair s.heap O p q)(gI:IsPair s.heap I (.ref i) (.ref j))(g1:IsIt t i a 0 s.heap)(g2:IsIt u j b 0 s.heap)(l1:IsSq t a xs s.heap)(l2:IsSq u b ys s.heap)(hn:(xs.toList.zip ys.toList).length<=sizeLine)(hlt:∀d∈[z,O,i,j,a,b,I],d<s.heap.objs.size)
  (hQ:∀h' cs,(∀c∈cs,s.heap.objs.size<=c)->cs.Nodup->PairsAt h' cs (xs.toList.zip ys.toList)->(∀c o,c∉[z,O,i,j]->s.heap.get? c=some o->h'.get? c=some o)->Q (cs.map Value.ref) {s with heap:=h'}):wpAny (model prog w) A (collect (.ref z)) Q E s:=by
 have hSf:s.heap.objs.size∉[z,O,i,j,a,b,I]:=fun hm=>w2j _ (hlt _ hm)
 have hSI:s.heap.objs.size≠z:=fun e=>hSf (by rw[e];simp)
 have hT:∀h',(∀c o,s.heap.get? c=some o->h'.get? c=some o)->Shared.TypeIs {s with heap:=h'} (.ref z) "zip":=fun h' up=>⟨_,up _ _ gz,rfl⟩
 have up1:∀c o,s.heap.get? c=some o->(s.heap.push {cls:=.type "list", data:=.seq ([]:List Value).toArray}).get? c=some o:=fun c o e=>Heap.get?_push_of_some _ e
 unfold collect;refine wpAny_bind (wpAny_runValue (codeAny_builtin F.entry_proto_collect ?_));rw[Around.under_plainId F.plain_proto_collect _];show wpAny _ A.in1 (newList [] >>= fun l=>again (.builtin "list.__iadd__" ⟨[l,.ref z],[]⟩)) _ _ s
 refine wpAny_bind (wpAny_newObj_type ?_);refine wpAny_pure ⟨plainId_quiet F.plain_list_iadd _,codeAny_builtin F.entry_list_iadd ?_⟩;rw[Around.under_plainId F.plain_list_iadd _];have hS1:(s.heap.push {cls:=.type "list", data:=.seq ([]:List Value).toArray}).get? s.heap.objs.size=some {cls:=.type "list", data:=.seq ([]:List Value).toArray}:=Heap.get?_push_size _ rfl;have h1:Builtin.List.listSameRef (.ref s.heap.objs.size) (.ref z)=false:=by simp[Builtin.List.listSameRef,hSI]
 show wpAny _ A.in1 (Builtin.List.listExtendWith (.ref s.heap.objs.size) (.ref z) (.ref s.heap.objs.size)) _ _ _;unfold Builtin.List.listExtendWith;refine wpAny_bind (wpAny_typeOf (hT _ up1) ?_);rw[if_neg (by rw[h1];decide)];refine wpAny_bind (wpAny_pyIter_zip (up1 _ _ gz) ?_);refine wpAny_bind (wpAny_holding ?_);unfold Builtin.List.listLengthHint;refine wpAny_bind (wpAny_specialOf (hT _ up1) y35 ?_);show wpAny _ A.in1 (specialOf (Value.ref z) (Str.ofString "__length_hint__") >>= _) _ _ _;refine wpAny_bind (wpAny_specialOf (hT _ up1) y0t ?_);refine wpAny_pure ?_
 show wpAny _ A.in1 (rule "list.extend.makes-room" >>= fun _=>Builtin.List.listTouch (.ref s.heap.objs.size) >>= fun _=>
  again (.builtin "list.extend.loop" ⟨[.ref s.heap.objs.size,.ref z,.ref s.heap.objs.size],[]⟩)) _ _ _
 refine wpAny_bind (wpAny_rule (wpAny_bind ?_));show wpAny _ A.in1 (updateSeq s.heap.objs.size (·.push .none) >>= fun _=>updateSeq s.heap.objs.size (·.pop)) _ _ _
 refine wpAny_bind (wpAny_updateSeq hS1 rfl ?_);have hS2:=Heap.get?_update_self (Obj.mapSeq (·.push Value.none)) hS1 rfl;refine wpAny_updateSeq hS2 rfl ?_;have hS3:=Heap.get?_update_self (Obj.mapSeq (·.pop)) hS2 rfl
 have oth:∀b o,s.heap.get? b=some o->(((s.heap.push {cls:=.type "list", data:=.seq ([]:List Value).toArray}).update s.heap.objs.size (Obj.mapSeq (·.push Value.none))).update s.heap.objs.size (Obj.mapSeq (·.pop))).get? b=some o:=
  fun b o e=>(Heap.get?_update_other _ _ (w2r (Heap.lt_size e))).trans ((Heap.get?_update_other _ _ (w2r (Heap.lt_size e))).trans (up1 b o e))
 have sz3:(((s.heap.push {cls:=.type "list", data:=.seq ([]:List Value).toArray}).update s.heap.objs.size (Obj.mapSeq (·.push Value.none))).update s.heap.objs.size (Obj.mapSeq (·.pop))).objs.size=s.heap.objs.size+1:=by rw[Heap.size_update,Heap.size_update,Heap.size_push]
 refine wpAny_pure ⟨plainId_quiet F.plain_extend_loop _,y8z hh D hSf hn _ 0 _ [] _ rfl (w1c _) ⟨oth _ _ gI,g1.keep fun o e=>oth _ _ e,g2.keep fun o e=>oth _ _ e,oth _ _ gz,?_⟩ ⟨rfl,fun _ _ _ h=>nomatch h⟩ (fun _ h=>nomatch h) (fun d hd=>?_) (l1.keep fun o e=>oth _ _ e) (l2.keep fun o e=>oth _ _ e) hS3 fun h' cs n' hcs pa hS' kp=>?_⟩
 ·obtain⟨p,q,gO⟩:=gO;exact⟨p,q,oth _ _ gO⟩
 ·show d<_;rw[sz3];simp only[w0d,w0o,or_false]at hd;rcases hd with rfl|rfl|rfl|rfl|rfl
  ·exact w1n (hlt _ (by simp))
  ·exact w1n (hlt _ (by simp))
  ·exact w1n (hlt _ (by simp))
  ·exact w1n (hlt _ (by simp))
  ·exact w4k _
 ·obtain⟨tl,rfl,htl,hnd⟩:=hcs;show wpAny _ A (load s.heap.objs.size >>= _) _ _ _;refine wpAny_bind (wpAny_load hS' (wpAny_pure ?_));refine hQ h' _ (fun c hc=>?_) hnd pa fun c o hc e=>kp c o (fun hm=>?_) (oth c o e)
  ·have:=htl c hc;have this:(((s.heap.push {cls:=.type "list", data:=.seq ([]:List Value).toArray}).update s.heap.objs.size (Obj.mapSeq (·.push Value.none))).update s.heap.objs.size (Obj.mapSeq (·.pop))).objs.size<=c:=this;rw[sz3]at this;omega
  ·simp only[w0d,w0o,or_false]at hm hc;rcases hm with h|h|h|h|h
   ·exact hc (.inl h)
   ·exact hc (.inr (.inl h))
   ·exact hc (.inr (.inr (.inl h)))
   ·exact hc (.inr (.inr (.inr h)))
   ·exact absurd (Heap.lt_size e) (by rw[h];exact w2j _)
theorem x3f(z I O i j a b:Addr)(t u:Bool)(xs ys:Array Value)(D:Apart z I O i j a b)(hn:(xs.toList.zip ys.toList).length<=sizeLine):
  Meets (Builtin.«tuple.__new__» ⟨[.type "tuple", .ref z],[]⟩)
   (fun A R s=>A.handled=none/\IsZip s.heap z I O .none/\(∃p q,IsPair s.heap O p q)/\IsPair s.heap I (.ref i) (.ref j)/\IsIt t i a 0 s.heap/\IsIt u j b 0 s.heap/\IsSq t a xs s.heap/\IsSq u b ys s.heap/\(∀d∈[z,O,i,j,a,b,I],d<s.heap.objs.size) /\
    ∀h' cs,(∀c∈cs,s.heap.objs.size<=c)->cs.Nodup->PairsAt h' cs (xs.toList.zip ys.toList)->(∀c o,c∉[z,O,i,j]->s.heap.get? c=some o->h'.get? c=some o) ->
    R (.ok (.ret (.ref h'.objs.size))) {s with heap:=h'.push {cls:=.type "tuple", data:=.seq (cs.map Value.ref).toArray}}):=
 .of_wp fun prog w A R s h=>by
  obtain⟨hh,gz,gO,gI,g1,g2,l1,l2,hlt,h⟩:=h;have hsub:=sub_tuple_self;have hinit:=init_tuple_lookup;have hmh:=madeHere_tuple;have hT:s.TypeIs (.ref z) "zip":=⟨_,gz,rfl⟩;have hh1:A.in1.handled=none:=hh
  wp_walk using wpAny_typeOf hT,x55 hh1 D gz gO gI g1 g2 l1 l2 hn hlt
  intro h' cs hc hnd pa kp;show wpAny _ _ (Builtin.Tuple.tupleExact (cs.map Value.ref).toArray >>= fun v=>ret v) _ _ _
  unfold Builtin.Tuple.tupleExact;refine wpAny_bind (wpAny_newObj_type ?_ (show(cs.map Value.ref).toArray.size<=sizeLine by rw[w1z,w0j,pa.1];exact hn));exact wpAny_pure ⟨_,rfl,h h' cs hc hnd pa kp⟩
end
end D
namespace L2
open PySem PySem.Spec PyProof.Rows
theorem Inv.adopt{X:Cx}{pins:List (Addr×Obj)}{σ:St}{H:Hp}{s:Shared}{p:Addr}{o:HO}(I:Inv X pins σ H s)(f:FpOk X pins H p)(new:ObjOk X.prog X.w (upd H p o) s.heap p o):Inv X pins σ (upd H p o) s:=by
 obtain⟨hn,hl,hf,h0,hc,hpn⟩:=f;refine⟨I.ok,I.os,I.bare,⟨I.base.keep,I.base.slot,fun b u h1 h2 h3=>?_,I.base.there,fun b xs h1=>?_,fun b u v h1=>?_,fun b ps h1=>?_⟩,I.loc,I.cell,?_,fun x c h1=>?_,fun q hq=>?_,fun b u h1=>?_,I.len⟩
 ·rw[q0f (fun z=>?_)]
  ·exact I.base.free b u h1 h2 h3
  ·subst z;exact h0.elim h3 fun z=>absurd (w0w (Heap.lt_size h1) z) (w2j _)
 ·have:=I.base.tups b xs h1;rw[q0f (q0o this hn)];exact this
 ·have:=I.base.frzs b u v h1;rw[q0f (q0o this hn)];exact this
 ·obtain⟨m,this⟩:=I.base.tbls b ps h1;exact⟨m,by rw[q0f (q0o this hn)];exact this⟩
 ·rw[q0f (Ne.symm hl)];exact I.free
 ·rw[q0f (hc x c h1)];exact I.freeC x c h1
 ·obtain⟨a1,a2,a3,a4,a5⟩:=I.pin q hq;exact⟨a1,by rw[q0f (hpn q hq)];exact a2,a3,a4,a5⟩
 ·by_cases hb:b=p
  ·subst hb;rw[q0j]at h1;cases h1;exact new
  ·rw[q0f hb]at h1;exact(I.hok b u h1).stay (fun c v _ q=>q) (fun c q=>by rw[q0f (q0o q hn)];exact q) fun c xs _ q=>by rw[q0f (q0o q hn)];exact q
end L2
namespace D
open PySem PySem.Spec L2 PyProof.Rows
def layP(H:Hp):List Addr->List (V×V)->Hp
 |c::cs,p::ps=>layP (upd H c (.tup [p.1,p.2])) cs ps
 |_,_=>H
theorem x44{X:Cx}{pins:List (Addr×Obj)}{σ:L2.St}{s:Shared}:∀{cs:List Addr}{ps:List (V×V)}{qs:List (Value×Value)}{H:Hp},Inv X pins σ H s->(∀c∈cs,FpOk X pins H c)->cs.Nodup->PairsAt s.heap cs qs->ps.length=qs.length->(∀(k:Nat)(p:V×V)(q:Value×Value),ps[k]?=some p->qs[k]?=some q->RelV p.1 q.1/\RelV p.2 q.2)->Inv X pins σ (layP H cs ps) s
 |[],_,_,_,I,_,_,_,_,_=>I
 |_::_,[],_,_,I,_,_,_,_,_=>I
 |_::_,_::_,[],_,_,_,_,_,h,_=>by cases h
 |c::cs,p::ps,q::qs,H,I,hf,hn,hp,hl,hr=>by
  have hc:=hp.2 0 c q rfl rfl;obtain⟨r1,r2⟩:=hr 0 p q rfl rfl;obtain⟨n1,n2⟩:=w1x.mp hn;have I2:Inv X pins σ (upd H c (.tup [p.1,p.2])) s:=I.adopt (hf c w0f) ⟨by rw[sizeLine_eq];simp,[q.1,q.2],.cons r1 (.cons r2 .nil),⟨_,hc,rfl,_,rfl⟩,⟨_,hc,rfl⟩⟩;show L2.Inv X pins σ (layP (upd H c (.tup [p.1,p.2])) cs ps) s;refine x44 (qs:=qs) I2 (fun d hd=>?_) n2 ⟨by have:=hp.1;simpa using this,fun k c' p' h1 h2=>hp.2 (k+1) c' p' h1 h2⟩ (by simpa using hl) fun k p' q' h1 h2=>hr (k+1) p' q' h1 h2
  obtain⟨f1,f2⟩:=hf d (w0c _ hd);exact⟨by rw[q0f (fun z=>n1 (by rw[<- z];exact hd))];exact f1,f2⟩
def tTupZip(K:PySem.W.Frag)(ta:TA):TE:=fun σ H Q=>ta σ H fun vs H1=>∃t u a b xs ys,vs=[.ref a,.ref b]/\SqG K t H1 a xs/\SqG K u H1 b ys/\(xs.zip ys).length<=sizeLine/\∀cs l,cs.length=(xs.zip ys).length->cs.Nodup->(∀c∈cs,H1 c=none)->layP H1 cs (xs.zip ys) l=none->Q (.ref l) (upd (layP H1 cs (xs.zip ys)) l (.tup (cs.map V.ref)))
theorem x2x:∀cs:List Addr,Vals (cs.map V.ref) (cs.map Value.ref)
 |[]=>.nil
 |_::cs=>.cons rfl (x2x cs)
theorem Vals.rel{xs:List V}{us:List Value}(h:Vals xs us){k:Nat}{x:V}{u:Value}(h1:xs[k]?=some x)(h2:us[k]?=some u):RelV x u:=by
 obtain⟨v,hv,r⟩:=h.get h1;rw[h2]at hv;cases hv;exact r
theorem y0u{X:Cx}{a1 a2:Expr}{ta:TA}{p1 p2 pos1 pos2:Pos}(hc:X.calm=true)(hm1:X.mg "tuple"=none)(hm2:X.mg "zip"=none)(ha:PA X [a1,a2] ta)(hg1:Gl X "tuple":=by rfl)(hg2:Gl X "zip":=by rfl)
  (hs1:starEach [.Call (.Name "zip" p2) [a1,a2] [] pos2] X.env=(false,eval (.Call (.Name "zip" p2) [a1,a2] [] pos2) X.env)::starEach [] X.env:=by rfl)(hs:starEach [a1,a2] X.env=[(false,eval a1 X.env),(false,eval a2 X.env)]:=by rfl)(hs2:starEach [a2] X.env=[(false,eval a2 X.env)]:=by rfl):
  PE X (.Call (.Name "tuple" p1) [.Call (.Name "zip" p2) [a1,a2] [] pos2] [] pos1) (tTupZip X.K ta):=by
 intro pins s σ H Q I h;refine wpAny_Call_Name_kw (q41 I hg1 hm1 PyProof.Rows.Boot.«tuple» ?_ (by decide));refine PyProof.Rows.callWith_type1 ?_ hs1 rfl;rw[hs1];show wpAny _ _ (spliced ((false,eval (.Call (.Name "zip" p2) [a1,a2] [] pos2) X.env)::backTo pos1 (starEach [] X.env))) _ _ s;refine Calls.spliced_cons ?_;refine PyProof.Rows.Call_ (q41 I hg2 hm2 PyProof.Rows.boot_zip (PyProof.Rows.callWith_type1 (thn (ha pos2 pins s σ H _ I h) fun us s1 ⟨vs,H1,I1,r1,q1⟩=>?_) (by rw[hs,hs2]) (by rw[hs2];rfl)))
 obtain⟨t,u,a,b,xs,ys,e,hx,hy,hz,q⟩:=q1;subst e;obtain⟨u1,u2,rfl,r1,r2⟩:=r1.two;cases r1;cases r2;obtain⟨is1,v1,k1⟩:=y0a I1 hx;obtain⟨is2,v2,k2⟩:=y0a I1 hy;obtain⟨oa,ea,_⟩:=k1.obj;obtain⟨ob,eb,_⟩:=k2.obj;have la:=Heap.lt_size ea;have lb:=Heap.lt_size eb;refine x99 k1 k2 fun h1 z1 i1 o1 g1 g2 up=>?_
 refine Calls.spliced_nil ?_
 have D:Apart (s1.heap.objs.size+4) (s1.heap.objs.size+2) (s1.heap.objs.size+3) s1.heap.objs.size (s1.heap.objs.size+1) a b:=by
  have la':(a:Nat)<s1.heap.objs.size:=la;have lb':(b:Nat)<s1.heap.objs.size:=lb;generalize s1.heap.objs.size=n at la' lb';exact y0b n a b la' lb'
 have hh:X.A.handled=none:=I1.ok.hd hc;have hsz:(is1.toArray.toList.zip is2.toArray.toList).length=(xs.zip ys).length:=by simp[<- v1.length,<- v2.length]
 have zlt:=Heap.lt_size z1
 refine callType_new F.called_tuple (by decide) (F.typeCall_tuple_1 _) (F.newCall_tuple_1 _) (fun obj=>F.args_object_init_2 obj _) F.entry_tuple_new
  (x3f _ _ _ _ _ a b t u is1.toArray is2.toArray D (by rw[hsz];exact hz)) ⟨hh,z1,⟨_,_,o1⟩,i1,g1,g2,k1.keep fun o e=>up _ _ e,k2.keep fun o e=>up _ _ e,fun d hd=>?_,fun h' cs hcs hnd pa kp=>⟨⟨_,Heap.get?_push_size _ rfl,rfl⟩,?_⟩⟩
 ·show d<h1.objs.size;have z4:(s1.heap.objs.size+4:Nat)<h1.objs.size:=zlt;have la':(a:Nat)<s1.heap.objs.size:=la;have lb':(b:Nat)<s1.heap.objs.size:=lb;simp only[w0d,w0o,or_false]at hd;rcases hd with rfl|rfl|rfl|rfl|rfl|rfl|rfl
  ·exact z4
  ·show(s1.heap.objs.size+3:Nat)<_;omega
  ·show(s1.heap.objs.size:Nat)<_;omega
  ·show(s1.heap.objs.size+1:Nat)<_;omega
  ·exact w5f la (by show(s1.heap.objs.size:Nat)<h1.objs.size;omega)
  ·exact w5f lb (by show(s1.heap.objs.size:Nat)<h1.objs.size;omega)
  ·show(s1.heap.objs.size+2:Nat)<_;omega
 ·have hcs':∀c∈cs,s1.heap.objs.size<=c:=fun c hc=>by
   have h2:h1.objs.size<=c:=hcs c hc;have z4:(s1.heap.objs.size+4:Nat)<h1.objs.size:=zlt;show(s1.heap.objs.size:Nat)<=c;exact w0v (by omega) h2
  have fr:∀c∈cs,H1 c=none:=fun c hc=>I1.hok.fresh (hcs' c hc)
  have I2:Inv X pins σ H1 {s1 with heap:=h',toks:=s1.toks}:=x50 (fp:=[s1.heap.objs.size+4,s1.heap.objs.size+3,s1.heap.objs.size,s1.heap.objs.size+1]) I1 (fun c o hc e=>kp c o hc (up c o e)) fun c hc=>by
   simp only[w0d,w0o,or_false]at hc;rcases hc with rfl|rfl|rfl|rfl<;>exact I1.fpOk (by omega) (I1.hok.fresh (by omega))
  have I3:Inv X pins σ (layP H1 cs (xs.zip ys)) {s1 with heap:=h',toks:=s1.toks}:=x44 I2 (fun c hc=>I1.fpOk (hcs' c hc) (fr c hc)) hnd pa hsz.symm fun k p q e1 e2=>by
   obtain⟨f1,f2⟩:=w2w.mp e1;obtain⟨f3,f4⟩:=w2w.mp e2;exact⟨Vals.rel v1 f1 (by simpa using f3),Vals.rel v2 f2 (by simpa using f4)⟩
  have hfr:=I3.hok.fresh (w0b h'.objs.size);have lc:cs.length=(xs.zip ys).length:=by rw[pa.1,hsz]
  have I4:=I3.laid (h':=h'.push {cls:=.type "tuple", data:=.seq (cs.map Value.ref).toArray}) (t':=s1.toks) (a:=h'.objs.size) (o:=.tup (cs.map V.ref)) (fun b o e=>Heap.get?_push_of_some _ e) (w0b _) ⟨by rw[w0j,lc];exact hz,cs.map Value.ref,x2x cs,IsTup.new _ _,_,Heap.get?_push_size _ rfl,rfl⟩
  exact⟨.ref h'.objs.size,_,I4,rfl,q cs _ lc hnd fr hfr⟩
def pairW(us vs:List W):List W:=(us.zip vs).map fun p=>.tup [p.1,p.2]
def zip1:List W->Option W
 |[x,y]=>match seqW x,seqW y with
  |some us,some vs=>if(us.zip vs).length<=16777216 then some (.tup (pairW us vs))else none
  |_,_=>none
 |_=>none
theorem x2y{K:PySem.W.Frag}:∀{cs:List Addr}{us vs:List W}{xs ys:List V}{G H:Hp},Same G H->cs.Nodup->(∀c∈cs,H c=none)->cs.length=(xs.zip ys).length->Reps K G us xs->Reps K G vs ys->∃G',Grow G H G' (layP H cs (xs.zip ys))/\Reps K G' (pairW us vs) (cs.map V.ref)
 |cs,[],vs,xs,ys,G,H,sg,_,_,hl,r1,_=>by
  cases(show xs=[]from r1);cases cs with
  |nil=>exact⟨G,.refl sg,rfl⟩
  |cons _ _=>cases hl
 |cs,_::_,[],xs,ys,G,H,sg,_,_,hl,_,r2=>by
  cases(show ys=[]from r2);rw[List.zip_nil_right]at hl |-
  cases cs with
  |nil=>exact⟨G,.refl sg,rfl⟩
  |cons _ _=>cases hl
 |[],u::us,v::vs,xs,ys,G,H,sg,_,_,hl,r1,r2=>by
  obtain⟨x,xs',rfl,_,_⟩:=r1;obtain⟨y,ys',rfl,_,_⟩:=r2;cases hl
 |c::cs,u::us,v::vs,xs,ys,G,H,sg,hn,hf,hl,r1,r2=>by
  obtain⟨x,xs',rfl,p1,r1⟩:=r1;obtain⟨y,ys',rfl,p2,r2⟩:=r2;obtain⟨n1,n2⟩:=w1x.mp hn;have g:=Grow.laid sg (hf c w0f) (.tup [x,y]);obtain⟨G',g',r'⟩:=x2y (K:=K) (cs:=cs) (us:=us) (vs:=vs) (xs:=xs') (ys:=ys') (G:=upd G c (.tup [x,y])) (H:=upd H c (.tup [x,y])) g.sub n2 (fun d hd=>by rw[q0f (fun z=>n1 (by rw[<- z];exact hd))];exact hf d (w0c _ hd)) (by simpa using hl) (Reps.mono g.gg _ r1) (Reps.mono g.gg _ r2)
  refine⟨G',g.trans g',⟨.ref c,cs.map V.ref,rfl,?_,r'⟩⟩;exact⟨c,[x,y],rfl,SqT.of (g'.gg c _ q0j),⟨x,[y],rfl,Rep.mono (g.gg.trans g'.gg) u p1,⟨y,[],rfl,Rep.mono (g.gg.trans g'.gg) v p2,rfl⟩⟩⟩
section
variable{X:Cx}{Z:Zt}{EE:L2.St->XK}{a1 a2:Expr}{dA:Den (List W)}
theorem y0v{p1 p2 pos1 pos2:Pos}(hc:X.calm=true)(hm1:X.mg "tuple"=none)(hm2:X.mg "zip"=none)(ha:DA Z X EE [a1,a2] dA)(hg1:Gl X "tuple":=by rfl)(hg2:Gl X "zip":=by rfl)
  (hs1:starEach [.Call (.Name "zip" p2) [a1,a2] [] pos2] X.env=(false,eval (.Call (.Name "zip" p2) [a1,a2] [] pos2) X.env)::starEach [] X.env:=by rfl)(hs:starEach [a1,a2] X.env=[(false,eval a1 X.env),(false,eval a2 X.env)]:=by rfl)(hs2:starEach [a2] X.env=[(false,eval a2 X.env)]:=by rfl):
  DE Z X EE (.Call (.Name "tuple" p1) [.Call (.Name "zip" p2) [a1,a2] [] pos2] [] pos1) (dFn zip1 dA):=by
 refine PE.mono (y0u hc hm1 hm2 ha hg1 hg2 hs1 hs hs2) ?_;rintro σ H Q ⟨G,e,rel,h⟩;simp only[dFn,R.holds_bind,ofOpt_holds]at h;refine⟨G,e,rel,h.imp (fun ws e1 h G1 vs H1 r1 s1 p1=>?_) fun _ _ h=>h⟩
 obtain⟨out,hf,h⟩:=h;unfold zip1 at hf;split at hf
 ·rename_i x y;split at hf
  ·rename_i us vs' hx hy;split at hf
   ·rename_i hz;cases hf;obtain⟨v1,r,rfl,q1,⟨v2,r',e2,q2,q3⟩⟩:=p1;subst e2;cases(show r'=[]from q3);obtain⟨t,a,xs,rfl,g1,g2⟩:=x6p hx q1;obtain⟨u,b,ys,rfl,g3,g4⟩:=x6p hy q2;refine⟨t,u,a,b,xs,ys,rfl,x4x r1.sub g1,x4x r1.sub g3,by rw[w3d,g2.length,g4.length,<- w3d,sizeLine_eq];exact hz,fun cs l lc hnd hcs hl=>?_⟩
    obtain⟨G',g',r'⟩:=x2y (K:=X.K) r1.sub hnd hcs lc g2 g4;have g'':=Grow.laid g'.sub hl (.tup (cs.map V.ref));have g:=g'.trans g'';exact h _ _ _ (r1.grow g) (s1.trans g.gg) ⟨l,_,rfl,SqT.of q0j,Reps.mono g''.gg _ r'⟩
   ·cases hf
  ·cases hf
 ·cases hf
end
end D
namespace L2
open PySem PySem.Spec PyProof.Rows
variable{X:Cx}{es:List Expr}{ks:List Str}{t:TA}
def keyLits:List (Option Expr)->Option (List Str)
 |[]=>some []
 |some (.Constant (.str k) _ _)::r=>(keyLits r).map (k::·)
 |_=>none
theorem q8w{o:Option Expr}{r:List (Option Expr)}(h:keyLits (o::r)=some ks):∃k kk p ks',o=some (.Constant (.str k) kk p)/\keyLits r=some ks'/\ks=k::ks':=by
 unfold keyLits at h;split at h
 ·rename_i h2;cases h2
 ·rename_i k kk p r' e;cases e;obtain⟨ks',h1,h2⟩:=w0t.mp h;exact⟨k,kk,p,ks',rfl,h1,h2.symm⟩
 ·cases h
def kz(ks:List Str)(vs:List V):List (Key×V):=(ks.map Sum.inr).zip vs
def PV(X:Cx)(es:List Expr)(t:TA):Prop:=
 ∀(keys:List (Option Expr))(ks:List Str),keyLits keys=some ks->keys.length=es.length->∀(pos:Pos)(pins:List (Addr×Obj))(s:Shared)(σ:St)(H:Hp)(Q:List V->Hp->Prop),Inv X pins σ H s->t σ H Q ->
  wpAny (model X.prog X.w) X.A (evalPairs (pairTrees keys es X.env pos)) (fun us s'=>∃vs H' kv,Inv X pins σ H' s'/\vs.length=ks.length/\Carries (mixKind X.prog X.w) us kv/\KV (kz ks vs) kv/\Q vs H') X.xe s
theorem z3g:PV X [] tNil:=by
 intro keys ks hk hl pos pins s σ H Q I h;cases keys with
 |cons _ _=>cases hl
 |nil=>cases hk;exact evalPairs_nil ⟨[],H,[],I,rfl,trivial,.nil,h⟩
theorem y80{e:Expr}{te:TE}(he:PE X e te)(hr:PV X es t):PV X (e::es) (tCons te t):=by
 intro keys ks hk hl pos pins s σ H Q I h;cases keys with
 |nil=>cases hl
 |cons o r=>
  obtain⟨k,kk,p,ks',rfl,h1,rfl⟩:=q8w hk;show wpAny _ _ (evalPairs ((eval (.Constant (.str k) kk p) X.env,do let x <- eval e X.env;standAt pos;pure x)::pairTrees r es X.env pos)) _ _ _;refine evalPairs_cons (thn (x8s (X:=X) pins s σ H (fun v H1=>v=.str k/\H1=H) I ⟨rfl,rfl⟩) fun ku s1 ⟨v,H1,I1,rk,e1,e2⟩=>?_)
  subst e1 e2;refine wpAny_bind (thn (he pins s1 σ H1 _ I1 h) fun vu s2 ⟨v,H2,I2,rv,q⟩=>wpAny_bind (wpAny_standAt (wpAny_pure ?_)))
  refine thn (hr r ks' h1 (by simpa using hl) pos pins s2 σ H2 _ I2 q) fun us s3 ⟨vs,H3,kv,I3,l3,c3,kv3,q3⟩=>?_
  exact⟨v::vs,H3,(.inr k,vu)::kv,I3,by simp[l3],⟨x3w (k:=.inr k) rk,rfl,c3⟩,.cons ⟨rfl,rv⟩ kv3,q3⟩
theorem PV.mono{t':TA}(h:PV X es t)(m:∀σ H Q,t' σ H Q->t σ H Q):PV X es t':=fun keys ks hk hl pos pins s σ H Q I q=>h keys ks hk hl pos pins s σ H Q I (m σ H Q q)
def tDS(ks:List Str)(t:TA):TE:=fun σ H Q=>t σ H fun vs H1=>∀p,H1 p=none->Q (.ref p) (upd H1 p (.dK (kz ks vs)))
def okKeys(keys:List (Option Expr))(ks:List Str):Bool:=decide (keyLits keys=some ks)&&decide (ks.length<=15)&&decide (ks≠[])&&decide ks.Nodup
theorem q90:∀{keys:List (Option Expr)}{ks:List Str},keyLits keys=some ks->keys.all (·.isSome)=true/\keys.length=ks.length
 |[],_,h=>by cases h;exact⟨rfl,rfl⟩
 |o::r,ks,h=>by
  obtain⟨k,kk,p,ks',rfl,h1,rfl⟩:=q8w h;obtain⟨a,b⟩:=q90 h1;exact⟨by rw[w2t,a];rfl,by simp[b]⟩
theorem x45{vs:List V}(h:vs.length=ks.length):(kz ks vs).length=ks.length:=by simp[kz,h]
theorem y81{vs:List V}(h:vs.length=ks.length):(kz ks vs).map (·.1)=ks.map Sum.inr:=by
 unfold kz;rw[List.map_fst_zip];simp[h]
theorem y5l{keys:List (Option Expr)}{pos:Pos}(ok:okKeys keys ks=true)(hl:keys.length=es.length)(h:PV X es t):PE X (.Dict keys es pos) (tDS ks t):=by
 intro pins s σ H Q I q;simp only[okKeys,w0p,decide_eq_true_eq]at ok;obtain⟨⟨⟨k1,k2⟩,k3⟩,k4⟩:=ok;obtain⟨ka,kl⟩:=q90 k1;refine wpAny_Dict_any ka hl (fun z=>by subst z;cases k1;exact k3 rfl) (by omega) ?_
 have fr:H s.heap.objs.size=none:=I.hok.fresh (w0b _);have f:=I.fpOk (w0b _) fr
 have I0:Inv X ((s.heap.objs.size,{cls:=.type "dict", data:=.dict #[]})::pins) σ H {s with heap:=s.heap.push {cls:=.type "dict", data:=.dict #[]}}:=(I.kept (t':=s.toks) (fun b u z=>Heap.get?_push_of_some _ z)).pins_of fun p hp=>by
  rcases w0d.mp hp with rfl|hp
  ·exact⟨Heap.get?_push_size _ rfl,fr,f.2.1,f.2.2.1,fun _ z=>nomatch z⟩
  ·obtain⟨a1,a2⟩:=I.pin p (w0e _ hp);exact⟨Heap.get?_push_of_some _ a1,a2⟩
 have hd:(s.heap.objs.size==sysModules)=false:=beq_eq_false_iff_ne.mpr (Ne.symm (w0u I.big));refine thn (h keys ks k1 hl pos _ _ σ H _ I0 q) fun us s1 ⟨vs,H1,kv,I1,l1,c1,kv1,q1⟩=>?_
 have hp:=(I1.pin _ (w0e _ w0f));have I2:Inv X pins σ (upd H1 s.heap.objs.size (.dK [])) s1:=(I1.pins_of fun q hq=>I1.pin q (w0e _ (w0c _ hq))).adopt ⟨hp.2.1,f.2⟩ ⟨w1c _,hd,[],.nil,⟨_,#[],0,hp.1,⟨rfl,rfl,rfl⟩,rfl,(fun _ he=>by simp at he),Pairs.nil,List.nodup_nil⟩⟩
 obtain⟨z,hd',xs,rel,dd⟩:=x3y I2.hok (q0j (H:=H1) (a:=s.heap.objs.size) (o:=.dK []));cases rel;have hkv:kv.length=ks.length:=by have:=congrArg List.length kv1.keys;simp only[w0j]at this;rw[<- this,x45 l1]
 have hm:merged [] kv=kv:=merged_nil_of_nodup kv (by
  rw[<- kv1.keys,y81 l1];exact(List.pairwise_map.mpr (k4.imp fun z h=>z (by injection h))))
 refine wpAny_storeAll (knd:=mixKind X.prog X.w) us kv [] s1 _ c1 dd (by rw[sizeLine_eq,hkv];simp;omega) fun h' dd' hs=>?_
 rw[hm]at dd';have he:∃q,h'.get? s.heap.objs.size=some q:=let ⟨q,_,_,hq,_⟩:=dd';⟨q,hq⟩;have w:=q9j (t':=s1.toks+us.length) I2 (by rw[q0j];exact True.intro) hs he (x4z (kvs:=kz ks vs) (by rw[sizeLine_eq,x45 l1];omega) hd kv1 dd');rw[y5s]at w;exact⟨.ref s.heap.objs.size,_,w,rfl,q1 _ hp.2.1⟩
def putAll(kvs more:List (Key×V)):List (Key×V):=more.foldl (fun acc p=>putK acc p.1 p.2) kvs
theorem KV.all:∀{more:List (Key×V)}{mv:List (Key×Value)}{kvs:List (Key×V)}{vs:List (Key×Value)},KV kvs vs->KV more mv->KV (putAll kvs more) (merged vs mv)
 |[],[],_,_,h,_=>h
 |p::l,q::r,_,_,h,.cons h1 h2=>by
  have:=KV.all (h.put p.1 h1.2) h2;rw[show merged _ (q::r)=merged (stored _ q.1 q.2) r from rfl,<- h1.1];exact this
def rUpd:V->List V->Hp->VK->Prop:=fun x vs H Q=>∃a b kvs more,x=.ref a/\vs=[.ref b]/\a≠b/\H a=some (.dK kvs)/\H b=some (.dK more)/\kvs.length+more.length<=sizeLine/\(putAll kvs more).length<=sizeLine/\Q .non (upd H a (.dK (putAll kvs more)))
theorem z3h:MtM X "dict.update" rUpd:=by
 intro pins s σ H x vs v us Q I rx rv h;obtain⟨a,b,kvs,more,rfl,rfl,hab,ha,hb,hz,hz2,q⟩:=h;cases(show v=Value.ref a from rx);obtain⟨u,rfl,ru⟩:=rv.one;cases(show u=Value.ref b from ru);obtain⟨z1,d1,xs,r1,dd1⟩:=x3y I.hok ha;obtain⟨z2,d2,ys,r2,dd2⟩:=x3y I.hok hb;have l1:=congrArg List.length r1.keys;have l2:=congrArg List.length r2.keys;simp only[w0j]at l1 l2;refine call_meetsIn F.slot_dict_update dd1.typeIs F.entry_dict_update (F.args_dict_update_2 _ _) (meets_dict_update (mixKind X.prog X.w) a b hab d2) ⟨xs,ys,dd1,dd2,by omega,fun h' dd' _ hs=>?_⟩
 have he:∃q,h'.get? a=some q:=let ⟨q,_,_,hq,_⟩:=dd';⟨q,hq⟩;exact⟨.non,_,q9j (t':=s.toks) I (by rw[ha];exact True.intro) hs he (x4z hz2 d1 (KV.all r1 r2) dd'),rfl,q⟩
end L2
namespace D
open PySem L2
section
variable{X:Cx}{Z:Zt}{EE:L2.St->XK}{e:Expr}{es:List Expr}{d:Den W}{dA:Den (List W)}{pos:Pos}{x:Str}{keys:List (Option Expr)}
def DV(Z:Zt)(X:Cx)(EE:L2.St->XK)(es:List Expr)(dA:Den (List W)):Prop:=PV X es (liftA X.K Z EE dA)
theorem x09:DV Z X EE [] dNil:=PV.mono z3g fun σ H Q ⟨G,e,r,h⟩=>h G [] H r (.refl _) rfl
theorem q19(ha:DE Z X EE e d)(hr:DV Z X EE es dA):DV Z X EE (e::es) (dCons d dA):=by
 refine PV.mono (y80 ha hr) ?_;rintro σ H Q ⟨G,e,rel,h⟩;simp only[dCons,R.holds_bind]at h;refine⟨G,e,rel,h.imp (fun x e1 h G1 v1 H1 r1 s1 p1=>?_) fun _ _ h=>h⟩
 refine⟨G1,e1,r1,h.imp (fun xs e2 h G2 vs H2 r2 s2 p2=>?_) fun _ _ h=>XH.trans s1 h⟩
 exact h G2 (v1::vs) H2 r2 (s1.trans s2) ⟨v1,vs,rfl,Rep.mono s2 x p1,p2⟩
def kxz(ks:List Str)(vs:List V):List (Kx×V):=(ks.map Kx.str).zip vs
theorem y0w:∀(ks:List Str)(vs:List V),(kxz ks vs).map (fun p=>(kxK p.1,p.2))=kz ks vs
 |[],_=>rfl
 |_::_,[]=>rfl
 |k::ks,v::vs=>by
  have:=y0w ks vs;simp only[kxz,kz,w0g,List.zip_cons_cons]at this |-
  rw[this];rfl
theorem z56{ks:List Str}{vs:List V}(h:vs.length=ks.length):(kxz ks vs).map (·.1)=ks.map Kx.str:=by
 unfold kxz;rw[List.map_fst_zip];simp[h]
theorem z57{ks:List Str}{vs:List V}(h:vs.length=ks.length):(kxz ks vs).map (·.2)=vs:=by
 unfold kxz;rw[List.map_snd_zip];simp[h]
def dSetDS(i:Nat)(ks:List Str)(dA:Den (List W)):List S->SR:=fun e=>(dA e).stm fun ws e1=>if ws.length=ks.length then .nx (e1.set i (.dw .str (ks.map Kx.str) ws))else .no
theorem y36(i:Nat)(ks:List Str){pos' dpos:Pos}(hN:X.N.Nodup)(ha:DV Z X EE es dA)(ok:okKeys keys ks=true:=by decide)(hl:keys.length=es.length:=by rfl)(hi:X.N[i]?=some x:=by rfl)(hx:Loc X.env.scope x:=by walk_at "3")(hs:swapsWith (.Dict keys es dpos) (some (.Name x pos')) pos.line X.env=pure false:=by rfl)(hf:X.fn x=true\/X.env.scope.names.lookup x=some .local:=by walk_at "2"):
  DS Z X EE (.Assign [.Name x pos'] (.Dict keys es dpos) pos) (dSetDS i ks dA):=by
 refine PS.mono (x0x i hN (y5l ok hl ha) hi hx hs hf) ?_;rintro D σ H ⟨G,e,rel,h⟩;refine⟨G,e,rel,(q0x h).imp (fun ws e1 h G1 vs H1 r1 s1 p1=>?_) fun _ _ h=>h⟩
 split at h
 ·rename_i hw;intro q hq;have lv:vs.length=ks.length:=by rw[p1.length];exact hw
  have g:=Grow.hid r1.sub hq (.dK (kz ks vs));refine h G1 _ _ ((r1.grow g).setS (s:=.dw .str (ks.map Kx.str) ws) (fun _ _ z=>nomatch z) ⟨q,kxz ks vs,[],rfl,?_,r1.sub.free hq,q6u r1 hq,z56 lv,(fun k hk=>?_),.of rfl ?_⟩) s1
  ·rw[q0j];show _=some (HO.dK ((kxz ks vs).map fun p=>(kxK p.1,p.2)));rw[y0w]
  ·obtain⟨y,_,hy⟩:=w0y.mp hk;exact⟨y,hy.symm⟩
  ·rw[z57 lv];exact p1
 ·exact h.elim
def setW:List Kx->List W->Kx->W->List W
 |k::ks,w::ws,x,y=>(if k=x then y else w)::setW ks ws x y
 |_,_,_,_=>[]
def updW(ks2:List Kx):List W->List Str->List W->List W
 |ws2,k::ks,w::ws=>updW ks2 (setW ks2 ws2 (.str k) w) ks ws
 |ws2,_,_=>ws2
theorem x6w{k:Str}{v:V}:∀{kvs:List (Kx×V)},(∀p∈kvs,∃y,p.1=Kx.str y)->(kvs.map fun p=>(kxK p.1,p.2)).map (fun kv=>if kv.1=(.inr k:Key)then(kv.1,v)else kv)=(kvs.map fun p=>if p.1=Kx.str k then(p.1,v)else p).map fun p=>(kxK p.1,p.2)
 |[],_=>rfl
 |p::l,h=>by
  obtain⟨y,hy⟩:=h p (by simp);rw[w0g,w0g,w0g,w0g,x6w fun q hq=>h q (w0c _ hq)]
  obtain⟨p1,p2⟩:=p;cases hy
  by_cases e:y=k
  ·subst e;rw[if_pos rfl,if_pos (by rfl)]
  ·rw[if_neg (fun z=>e (by injection z)),if_neg (fun z=>e (by injection z))]
theorem x46{K:PySem.W.Frag}{G:Hp}{k:Kx}{w:W}{v:V}(r:Rep K G w v):∀{kvs:List (Kx×V)}{ws:List W},Reps K G ws (kvs.map (·.2))->Reps K G (setW (kvs.map (·.1)) ws k w) ((kvs.map fun p=>if p.1=k then(p.1,v)else p).map (·.2))
 |[],[],_=>rfl
 |[],_::_,h=>by obtain⟨_,_,z,_⟩:=h;cases z
 |p::l,[],h=>nomatch (show(p::l).map (·.2)=[]from h)
 |p::l,w0::ws,⟨y,r1,e0,h1,h2⟩=>by
  injection e0 with e0 e0'
  subst e0;subst e0';refine⟨_,_,rfl,?_,x46 r h2⟩
  by_cases e:p.1=k
  ·simp only[e,if_pos];exact r
  ·simp only[if_neg e];exact h1
theorem x6x{K:PySem.W.Frag}{G:Hp}:∀{ks:List Str}{vs:List V}{ws:List W}{kvs:List (Kx×V)}{ws2:List W},Reps K G ws vs->ws.length=ks.length->(∀p∈kvs,∃y,p.1=Kx.str y)->(∀k∈ks,Kx.str k∈kvs.map (·.1))->Reps K G ws2 (kvs.map (·.2)) ->
  ∃kvs':List (Kx×V),putAll (kvs.map fun p=>(kxK p.1,p.2)) (kz ks vs)=kvs'.map (fun p=>(kxK p.1,p.2))/\kvs'.map (·.1)=kvs.map (·.1)/\Reps K G (updW (kvs.map (·.1)) ws2 ks ws) (kvs'.map (·.2))
 |[],_,ws,kvs,ws2,_,hl,_,_,h=>by
  cases ws with
  |cons _ _=>cases hl
  |nil=>exact⟨kvs,rfl,rfl,h⟩
 |k::ks,vs,[],_,_,_,hl,_,_,_=>by cases hl
 |k::ks,vs,w::ws,kvs,ws2,⟨v,vs',e0,h1,h2⟩,hl,hk,hm,h=>by
  subst e0
  have hk2:∀p∈kvs.map (fun p=>if p.1=Kx.str k then(p.1,v)else p),∃y,p.1=Kx.str y:=fun p hp=>by
   obtain⟨q,hq,rfl⟩:=w0y.mp hp;obtain⟨y,hy⟩:=hk q hq;refine⟨y,?_⟩;split<;>exact hy
  have e1:(kvs.map fun p=>if p.1=Kx.str k then(p.1,v)else p).map (·.1)=kvs.map (·.1):=by
   rw[w1a];refine w1u fun p _=>?_
   show(if p.1=Kx.str k then(p.1,v)else p).1=p.1;split<;>rfl
  have hany:((kvs.map fun p=>(kxK p.1,p.2)).any fun kv=>decide (kv.1=(.inr k:Key)))=true:=by
   obtain⟨p,hp,e⟩:=w0y.mp (hm k (by simp));refine List.any_eq_true.mpr ⟨(kxK p.1,p.2),w0y.mpr ⟨p,hp,rfl⟩,?_⟩;rw[e];exact decide_eq_true rfl
  have st:=x46 (k:=Kx.str k) h1 h;obtain⟨kvs',g1,g2,g3⟩:=x6x (ks:=ks) (vs:=vs') (ws:=ws) h2 (by simpa using hl) hk2 (fun y hy=>by rw[e1];exact hm y (w0c _ hy)) st
  refine⟨kvs',?_,g2.trans e1,by rw[e1]at g3;exact g3⟩;rw[show kz (k::ks) (v::vs')=(.inr k,v)::kz ks vs' from rfl,show putAll (kvs.map fun p=>(kxK p.1,p.2)) ((.inr k,v)::kz ks vs')=putAll (putK (kvs.map fun p=>(kxK p.1,p.2)) (.inr k) v) (kz ks vs')from rfl]
  rw[<- g1];congr 1;unfold putK;rw[if_pos hany,x6w hk]
def updC(i:Nat)(ks:List Str)(ws:List W)(e:List S):Option S->SR
 |some (.dw .str ks2 ws2)=>if ws.length=ks.length/\ks2.length+ks.length<=16777216/\(∀k∈ks,Kx.str k∈ks2)/\(e.set i .no).all (fun s=>!isDw s)=true then .nx (e.set i (.dw .str ks2 (updW ks2 ws2 ks ws)))else .no
 |_=>.no
def upd0(k:SR):Option S->SR
 |some (.dw .str _ _)=>k
 |_=>.no
def dUpd(i:Nat)(ks:List Str)(dA:Den (List W)):List S->SR:=fun e=>upd0 ((dA e).stm fun ws e1=>updC i ks ws e1 e1[i]?) e[i]?
theorem x47(i:Nat)(ks:List Str){apos cpos dpos p:Pos}(ha:DV Z X EE es dA)(ok:okKeys keys ks=true:=by decide)(hl:keys.length=es.length:=by rfl)(hN:X.N[i]?=some x:=by rfl)(hv:Vis X.env.scope x:=by walk_at "1")(hd:(x==("__debug__":Str))=false:=by decide)(hcd:(x==("__classdict__":Str))=false:=by decide)
  (hbase:attributeBase (.Name x p) "update" X.env (eval (.Name x p) X.env)=eval (.Name x p) X.env:=by rfl)
  (hfew:((backTo cpos (starEach [.Dict keys es dpos] X.env)).all (fun x=>!x.1)&&(backToKw cpos (keywordEach [] X.env)).all (fun x=>x.1.isSome)
   && decide ([Expr.Dict keys es dpos].length+([]:List Keyword).length+(if([]:List Keyword).isEmpty then 0 else 1)<30))=true:=by rfl)
  (hline:(apos.endLine==cpos.line)=true:=by rfl)(hs:starEach [.Dict keys es dpos] X.env=(false,eval (.Dict keys es dpos) X.env)::starEach [] X.env:=by rfl)(hplain:(backTo cpos (starEach [] X.env)).any (·.1)=false:=by rfl)(hsw:swapsWith (.Call (.Attribute (.Name x p) "update" apos) [.Dict keys es dpos] [] cpos) none pos.line X.env=pure false:=by rfl):
  DS Z X EE (.Expr (.Call (.Attribute (.Name x p) "update" apos) [.Dict keys es dpos] [] cpos) pos) (dUpd i ks dA):=by
 refine PS.mono (q7f (x3s PySem.F.plainAttrs_dict PySem.F.slot_dict_update PySem.F.type_dict_update z3h (pv i hN hv hd hcd) (q5e (y5l ok hl ha) x0t hs) hbase hfew hline hs hplain) hsw) ?_;rintro D σ H ⟨G,e,rel,h⟩;unfold dUpd upd0 at h;split at h
 ·rename_i ks0 ws0 he0;obtain⟨a,kvs0,kas0,q1,q2,_⟩:=rel.dw he0;refine⟨.ref a,q1,.inr (.inr (.inl ⟨rfl,.inl ⟨_,q2⟩⟩)),G,e,rel,(q0x (σ:=σ) h).imp (fun ws e1 h G1 vs H1 r1 s1 p1=>?_) fun _ _ h=>h⟩
  intro q hq;unfold updC at h;split at h
  ·rename_i ks2 ws2 he2;obtain⟨a',kvs,kas,g1,g2,g3,g4,g5,g6,g7⟩:=r1.dw he2;rw[q1]at g1;cases g1;split at h
   ·rename_i hc;subst g5;have g2:H1 a=some (.dK (kvs.map fun p=>(kxK p.1,p.2))):=g2
    have hne:a≠q:=fun z=>by rw[z,hq]at g2;cases g2
    have g6:∀k∈kvs.map (·.1),∃y,k=Kx.str y:=g6;obtain⟨kvs',u1,u2,u3⟩:=x6x (K:=X.K) (G:=G1) (ks:=ks) (vs:=vs) (ws:=ws) (kvs:=kvs) (ws2:=ws2) p1 hc.1 (fun p hp=>g6 p.1 (w0y.mpr ⟨p,hp,rfl⟩)) hc.2.2.1 g7
    have lv:vs.length=ks.length:=by rw[p1.length];exact hc.1
    have lk:kvs'.length=kvs.length:=by have:=congrArg List.length u2;simpa using this
    have l2:=hc.2.1;rw[w0j]at l2;refine⟨a,q,_,_,rfl,rfl,hne,by rw[q0f hne];exact g2,q0j,by rw[sizeLine_eq,w0j,x45 lv];exact l2,by rw[u1,sizeLine_eq,w0j,lk];omega,?_⟩;rw[u1];have g:=Grow.hid r1.sub hq (.dK (kz ks vs));refine h G1 σ _ (((r1.grow g).mutDw (sh:=.str) (kvs':=kvs') (kas':=kas) (ks':=kvs.map (fun p:Kx×V=>p.1)) (ws':=updW (kvs.map (fun p:Kx×V=>p.1)) ws2 ks ws) he2 q1 (fun s hs=>?_) u2 (by exact g6) (.of rfl u3))) s1
    have:=w1s.mp hc.2.2.2 s hs;simpa using this
   ·exact h.elim
  ·exact h.elim
 ·exact h.elim
theorem y37{i:Nat}{ks:List Str}{e:List S}:dSetDS i ks dA e=(dA e).stm fun ws e1=>if ws.length=ks.length then .nx (e1.set i (.dw .str (ks.map Kx.str) ws))else .no:=rfl
theorem z3i{i:Nat}{ks:List Str}{e:List S}:dUpd i ks dA e=upd0 ((dA e).stm fun ws e1=>updC i ks ws e1 e1[i]?) e[i]?:=rfl
theorem z3j{k:SR}{ks:List Kx}{ws:List W}:upd0 k (some (.dw .str ks ws))=k:=rfl
theorem y0x{i:Nat}{ks:List Str}{ws:List W}{e:List S}{ks2:List Kx}{ws2:List W}(h:ws.length=ks.length/\ks2.length+ks.length<=16777216/\(∀k∈ks,Kx.str k∈ks2)/\(e.set i .no).all (fun s=>!isDw s)=true):updC i ks ws e (some (.dw .str ks2 ws2))=.nx (e.set i (.dw .str ks2 (updW ks2 ws2 ks ws))):=if_pos h
end
def keyIs(k:Str):Value->Bool
 |.str s _=>s==k
 |_=>false
def entOk(K:PySem.W.Frag):List (Str×W)->List DictEntry->Bool
 |[],[]=>true
 |p::tb,e::es=>keyIs p.1 e.key&&(conIn K p.2 e.val&&entOk K tb es)
 |_,_=>false
def isTab(K:PySem.W.Frag)(tb:List (Str×W))(o:Obj):Bool:=match o.cls,o.dict,o.slots.toList,o.data with
 |.type c,none,[],.dict es _=>c=="dict"&&entOk K tb es.toList
 |_,_,_,_=>false
def hashO(o:Obj):List Int:=match o.data with
 |.dict es _=>es.toList.map (·.hash)
 |_=>[]
def TabC(P:Program)(w:World)(K:PySem.W.Frag)(d:Addr)(tb:List (Str×W)):Prop:=∃o,K.lookup d=some o/\isTab K tb o=true/\hashO o=tb.map fun p=>(strKind P w).hash p.1
theorem keyIs_shape{k:Str}{v:Value}(h:keyIs k v=true):∃t,v=.str k t:=by
 cases v with
 |str y t=>exact⟨t,by rw[show y=k from beq_iff_eq.mp h]⟩
 |_=>cases h
theorem x48{P:Program}{w:World}{K:PySem.W.Frag}{k:Str}{wv:W}:∀{tb:List (Str×W)}{es:List DictEntry},entOk K tb es=true->tb.lookup k=some wv->∃e,es.find? (fun e=>(strKind P w).is k e.key)=some e/\conIn K wv e.val=true
 |[],_,_,h=>by cases h
 |_::_,[],h,_=>by cases h
 |p::tb,e::es,h,hl=>by
  unfold entOk at h;simp only[w0p]at h;obtain⟨h1,h3,h4⟩:=h;obtain⟨t,ht⟩:=keyIs_shape h1;rw[List.lookup_cons]at hl
  by_cases e0:k=p.1
  ·subst e0;rw[beq_self_eq_true]at hl;cases hl;refine⟨e,?_,h3⟩;rw[w2g,ht,strKind_is]
  ·rw[beq_eq_false_iff_ne.mpr e0]at hl;obtain⟨e',q1,q2⟩:=x48 (P:=P) (w:=w) h4 hl;refine⟨e',?_,q2⟩;rw[w2g,ht];cases q:(strKind P w).is k (.str p.1 t)with
   |false=>exact q1
   |true=>exact absurd ((strKind P w).inj _ _ _ q (strKind_is _ _ _ _)) e0
theorem x49{P:Program}{w:World}{K:PySem.W.Frag}:∀{tb:List (Str×W)}{es:List DictEntry},entOk K tb es=true->es.map (·.hash)=(tb.map fun p=>(strKind P w).hash p.1)->∀e∈es,∃k,(strKind P w).is k e.key=true/\e.hash=(strKind P w).hash k
 |[],[],_,_,_,h=>nomatch h
 |_::_,[],h,_,_,_=>by cases h
 |[],_::_,h,_,_,_=>by cases h
 |p::tb,e::es,h,hh,e',he=>by
  unfold entOk at h;simp only[w0p]at h;obtain⟨h1,h3,h4⟩:=h;injection hh with h2 hh
  rcases w0d.mp he with rfl|he
  ·obtain⟨t,ht⟩:=keyIs_shape h1;exact⟨p.1,by rw[ht];exact strKind_is _ _ _ _,h2⟩
  ·exact x49 h4 hh e' he
def tabCW(tb:List (Str×W)):W->Option W
 |.str k=>tb.lookup k
 |_=>none
section
variable{X:Cx}{Z:Zt}{EE:L2.St->XK}{k:Expr}{dk:Den W}{pos p:Pos}{x:Str}{d:Addr}{tb:List (Str×W)}
def rTabC(K:PySem.W.Frag)(d:Addr)(tb:List (Str×W)):R2:=fun x y H Q=>∃k w,x=.ref d/\y=.str k/\tb.lookup k=some w/\∀v,(∀G,Rep K G w v)->Q v H
theorem y82(T:TabC X.prog X.w X.K d tb):IxR X (rTabC X.K d tb):=by
 intro value slice pins s σ H x y v u Q I rx ry h hs;obtain⟨k,w,rfl,rfl,hl,q⟩:=h;cases rx;obtain⟨t,rfl⟩:=ry;obtain⟨o,h1,h2,h5⟩:=T;unfold isTab at h2;split at h2
 ·rename_i c es ep hc hd hsl hdt;rw[w0p]at h2;obtain⟨e,e1,e2⟩:=x48 (P:=X.prog) (w:=X.w) h2.2 hl;obtain⟨v',rv,rp⟩:=x10 w e2;have hm:s.heap.MapOf (strKind X.prog X.w) d (findBy (strKind X.prog X.w).is es):=⟨o,es,ep,I.kIn d o h1,⟨by rw[hc,beq_iff_eq.mp h2.1],hd,by apply Array.toList_inj.mp;rw[hsl]⟩,hdt,fun e he=>x49 h2.2 (by unfold hashO at h5;rw[hdt]at h5;exact h5) e (by simpa using he),fun _=>rfl⟩
  refine PyProof.Rows.tail_any hm.typeIs F.slot_dict_getitem.lookup (wpAny_getItem_of (knd:=strKind X.prog X.w) (strKind_is _ _ _ _) hm (v:=e.val) ?_ ⟨v',H,I.tok _,rv,q v' rp⟩) hs;unfold findBy;rw[<- Array.find?_toList,e1];rfl
 ·cases h2
theorem y83(T:∃d,X.mg x=some (.ref d)/\TabC X.prog X.w X.K d tb)(hk:DE Z X EE k dk)(hg:Gl X x:=by rfl)(hd:(x==("__debug__":Str))=false:=by decide)(hs:PlainIx k:=by intro _ _;rfl):
  DE Z X EE (.Subscript (.Name x p) k pos) (dUn (tabCW tb) dk):=by
 obtain⟨d,hm,T⟩:=T;refine PE.mono (x3r (y82 T) (x1r (v:=.ref d) hg hm rfl hd) hk hs) ?_;rintro σ H Q ⟨G,e,rel,h⟩;simp only[dUn,R.holds_bind,ofOpt_holds]at h;refine⟨G,e,rel,h.imp (fun w e1 h G1 v1 H1 r1 s1 p1=>?_) fun _ _ h=>h⟩
 obtain⟨w',hw,h⟩:=h;unfold tabCW at hw;split at hw
 ·cases p1;exact⟨_,w',rfl,rfl,hw,fun v rv=>h G1 v H1 r1 s1 (rv G1)⟩
 ·cases hw
end
def catK(u:W)(e:List S):W->R (List W)
 |.lst ys=>match u with
  |.lst xs=>if xs.length+ys.length<=16777216 then .ok (xs++ys) e else .no
  |_=>.no
 |_=>.no
def dCat(da db:Den W):Den (List W):=fun e=>(da e).bind fun u e1=>(db e1).bind fun v e2=>catK u e2 v
theorem z3k(ha:DE Z X EE a da)(hb:DE Z X EE b db):DF Z X EE (.BinOp a .Add b pos) (dCat da db):=by
 refine PE.mono (y47 x1t ha hb) ?_;rintro σ H Q ⟨G,e,rel,h⟩;simp only[dCat,R.holds_bind]at h;refine⟨G,e,rel,h.imp (fun u e1 h G1 v1 H1 r1 s1 p1=>?_) fun _ _ h=>h⟩
 refine⟨G1,e1,r1,h.imp (fun v e2 h G2 v2 H2 r2 s2 p2=>?_) fun _ _ h=>XH.trans s1 h⟩
 unfold catK at h;split at h
 ·rename_i ys;split at h
  ·rename_i xs;split at h
   ·rename_i hl;obtain⟨l1,q1,rfl,t1,rp1⟩:=Rep.mono s2 _ p1;obtain⟨l2,q2,rfl,t2,rp2⟩:=p2;exact⟨l1,l2,q1,q2,rfl,rfl,r2.sub.seq t1,r2.sub.seq t2,by grind [Reps.length,sizeLine_eq],x4f r2 (s1.trans s2) (rp1.append rp2) h⟩
   ·exact h.elim
  ·exact h.elim
 ·exact h.elim
theorem z3l:dCat da db e=(da e).bind fun u e1=>(db e1).bind fun v e2=>catK u e2 v:=rfl
theorem z3m:catK (.lst xs) e (.lst ys)=if xs.length+ys.length<=16777216 then .ok (xs++ys) e else .no:=rfl
end D
namespace Q
open PySem L2 D
variable{j:Int}{rs:List (List Nat)}{cs l r w z:List Nat}{hn ins kn ns on ts xs:List Str}{ws:List W}{c d i m n:Nat}{K:PySem.W.Frag}{t x y:Str}{mg:Str->Option Value}{α:Type}
seal DE DF DT DW DA DS DSs DTs DO DFm PE PT PW PA PS PSs PG PGs PI PF PTs PC OpR UnR IxR CallR TruR MtR MtM SlR PO
theorem us1{P:List α->Prop}(h:∀x0,P [x0]):∀us:List α,us.length=1->P us
 |[x0],_=>h x0
theorem us2{P:List α->Prop}(h:∀x0 x1,P [x0,x1]):∀us:List α,us.length=2->P us
 |[x0,x1],_=>h x0 x1
theorem us3{P:List α->Prop}(h:∀x0 x1 x2,P [x0,x1,x2]):∀us:List α,us.length=3->P us
 |[x0,x1,x2],_=>h x0 x1 x2
def top(i:Nat):Stmt:=PySem.Challenge.pw_circuits_k73_sheets_read.main.body.getD i (.Pass ⟨0,0,0,0⟩)
def q64:List (Str×W):=[("in", (.tup [(.str "")])),("held", (.tup [(.str "in"),(.str "held")])),("out", (.tup [(.str "in"),(.str "held"),(.str "out")]))]
def q3s:List (Str×Int):=[("(", 0),("or", 1),("odd", 2),("and", 3),("not", 4)]
def q4j:List (Str×Int):=[("in", 3),("held", 4),("out", 6)]
structure Blt(P:Program)(w:World)(K:PySem.W.Frag)(mg:Str->Option Value):Prop where
 b_all:mg "all"=none
 b_enumerate:mg "enumerate"=none
 b_int:mg "int"=none
 b_isinstance:mg "isinstance"=none
 b_len:mg "len"=none
 b_max:mg "max"=none
 b_range:mg "range"=none
 b_tuple:mg "tuple"=none
 b_zip:mg "zip"=none
 t_TIGHTNESS:∃d,mg "TIGHTNESS"=some (.ref d)/\TabK P w K d q3s
 t_MOST_NAMES:∃d,mg "MOST_NAMES"=some (.ref d)/\TabK P w K d q4j
 t_BEHIND:∃d,mg "BEHIND"=some (.ref d)/\TabC P w K d q64
structure Adr where
 CircuitError:Addr
 NoName:Addr
 BadText:Addr
 BadSheet:Addr
 WORDS:Value
 JOINING:Value
 LONGEST_NAME:Value
 MOST_BRACKETS:Value
 LOOSEST_WORD:Value
 ROW_WORDS:Value
 FIRST_TRUTHS:Value
variable{a:Adr}
structure Exs(K:PySem.W.Frag)(mg:Str->Option Value)(a:Adr):Prop where
 z:True
 m_CircuitError:mg "CircuitError"=some (.ref a.CircuitError)
 m_NoName:mg "NoName"=some (.ref a.NoName)
 m_BadText:mg "BadText"=some (.ref a.BadText)
 m_BadSheet:mg "BadSheet"=some (.ref a.BadSheet)
 m_WORDS:mg "WORDS"=some a.WORDS
 m_JOINING:mg "JOINING"=some a.JOINING
 m_LONGEST_NAME:mg "LONGEST_NAME"=some a.LONGEST_NAME
 m_MOST_BRACKETS:mg "MOST_BRACKETS"=some a.MOST_BRACKETS
 m_LOOSEST_WORD:mg "LOOSEST_WORD"=some a.LOOSEST_WORD
 m_ROW_WORDS:mg "ROW_WORDS"=some a.ROW_WORDS
 m_FIRST_TRUTHS:mg "FIRST_TRUTHS"=some a.FIRST_TRUTHS
 g_WORDS:conIn K (.tup [(.str "yes"),(.str "no"),(.str "not"),(.str "and"),(.str "odd"),(.str "or")]) a.WORDS=true
 g_JOINING:conIn K (.tup [(.str "and"),(.str "odd"),(.str "or")]) a.JOINING=true
 g_LONGEST_NAME:conIn K (.int 8) a.LONGEST_NAME=true
 g_MOST_BRACKETS:conIn K (.int 12) a.MOST_BRACKETS=true
 g_LOOSEST_WORD:conIn K (.int 1) a.LOOSEST_WORD=true
 g_ROW_WORDS:conIn K (.tup [(.str "in"),(.str "held"),(.str "out")]) a.ROW_WORDS=true
 g_FIRST_TRUTHS:conIn K (.tup [(.str "yes"),(.str "no")]) a.FIRST_TRUTHS=true
 t_NoneType_tuple:kitOne K (.type "NoneType") (.type "tuple")=some false
 t_bool_tuple:kitOne K (.type "bool") (.type "tuple")=some false
 t_int_tuple:kitOne K (.type "int") (.type "tuple")=some false
 t_str_tuple:kitOne K (.type "str") (.type "tuple")=some false
 t_tuple_tuple:kitOne K (.type "tuple") (.type "tuple")=some true
 t_list_tuple:kitOne K (.type "list") (.type "tuple")=some false
noncomputable abbrev q8x:Nat:=0
noncomputable abbrev q7h:Nat:=1
noncomputable abbrev q1k:Nat:=2
noncomputable abbrev q4x:Nat:=3
noncomputable abbrev q1i:Nat:=4
noncomputable abbrev q3g:Nat:=5
noncomputable abbrev q2x:Nat:=6
noncomputable abbrev q2a:Nat:=7
noncomputable abbrev q4f:Nat:=8
noncomputable abbrev q3t:Nat:=9
noncomputable abbrev q10:Nat:=10
noncomputable abbrev q4n:Nat:=11
noncomputable abbrev q3u:Nat:=12
noncomputable abbrev q2y:Nat:=13
noncomputable abbrev q2j:Nat:=14
noncomputable abbrev q1l:Nat:=15
noncomputable abbrev q34:Nat:=16
noncomputable abbrev q00:Nat:=17
noncomputable abbrev q4g:Nat:=18
noncomputable abbrev q1x:Nat:=19
noncomputable abbrev q0z:Nat:=20
noncomputable abbrev q1g:Nat:=21
noncomputable abbrev q1z:Nat:=22
noncomputable abbrev q2z:Nat:=23
noncomputable abbrev q2f:Nat:=24
noncomputable abbrev q1w:Nat:=25
noncomputable abbrev q20:Nat:=26
noncomputable abbrev q03:Nat:=27
noncomputable abbrev q3v:Nat:=28
noncomputable abbrev q21:Nat:=29
noncomputable abbrev q9l:Nat:=30
noncomputable abbrev q6z:Stmt:=top 12
theorem sc_read:FnScope ["text", "names", "places", "pieces", "wrong"] ["text", "names"] (defScope q6z):=⟨rfl,rfl,rfl,by decide +kernel,rfl,by decide +kernel,by decide +kernel⟩
noncomputable abbrev q5h:Stmt:=top 13
theorem sc_fault:FnScope ["text", "names", "places"] ["text", "names"] (defScope q5h):=⟨rfl,rfl,rfl,by decide +kernel,rfl,by decide +kernel,by decide +kernel⟩
noncomputable abbrev q1a:Stmt:=top 14
theorem sc_places_by_name:FnScope ["names", "places", "place", "name"] ["names"] (defScope q1a):=⟨rfl,rfl,rfl,by decide +kernel,rfl,by decide +kernel,by decide +kernel⟩
noncomputable abbrev q22:Stmt:=top 15
theorem x77:FnScope ["name"] ["name"] (defScope q22):=⟨rfl,rfl,rfl,by decide +kernel,rfl,by decide +kernel,by decide +kernel⟩
noncomputable abbrev q05:Stmt:=top 16
theorem q8y:FnScope ["sign"] ["sign"] (defScope q05):=⟨rfl,rfl,rfl,by decide +kernel,rfl,by decide +kernel,by decide +kernel⟩
noncomputable abbrev q2k:Stmt:=top 17
theorem sc_pieces_of:FnScope ["text", "pieces", "place", "end"] ["text"] (defScope q2k):=⟨rfl,rfl,rfl,by decide +kernel,rfl,by decide +kernel,by decide +kernel⟩
noncomputable abbrev q1m:Stmt:=top 18
theorem sc_end_of_piece:FnScope ["text", "place", "end"] ["text", "place"] (defScope q1m):=⟨rfl,rfl,rfl,by decide +kernel,rfl,by decide +kernel,by decide +kernel⟩
noncomputable abbrev q1u:Stmt:=top 19
theorem sc_first_fault:FnScope ["pieces", "places", "length", "awaits_form", "brackets", "place", "piece", "fine"] ["pieces", "places", "length"] (defScope q1u):=⟨rfl,rfl,rfl,by decide +kernel,rfl,by decide +kernel,by decide +kernel⟩
noncomputable abbrev q2l:Stmt:=top 20
theorem x5a:FnScope ["piece", "brackets", "places"] ["piece", "brackets", "places"] (defScope q2l):=⟨rfl,rfl,rfl,by decide +kernel,rfl,by decide +kernel,by decide +kernel⟩
noncomputable abbrev q11:Stmt:=top 21
theorem x3g:FnScope ["piece", "brackets"] ["piece", "brackets"] (defScope q11):=⟨rfl,rfl,rfl,by decide +kernel,rfl,by decide +kernel,by decide +kernel⟩
noncomputable abbrev q1b:Stmt:=top 22
theorem sc_form_of_pieces:FnScope ["pieces", "places", "forms", "waiting", "place", "piece"] ["pieces", "places"] (defScope q1b):=⟨rfl,rfl,rfl,by decide +kernel,rfl,by decide +kernel,by decide +kernel⟩
noncomputable abbrev q4o:Stmt:=top 23
theorem sc_settle:FnScope ["forms", "waiting", "least", "word", "last"] ["forms", "waiting", "least"] (defScope q4o):=⟨rfl,rfl,rfl,by decide +kernel,rfl,by decide +kernel,by decide +kernel⟩
noncomputable abbrev q12:Stmt:=top 24
theorem x3h:FnScope ["piece", "places"] ["piece", "places"] (defScope q12):=⟨rfl,rfl,rfl,by decide +kernel,rfl,by decide +kernel,by decide +kernel⟩
noncomputable abbrev q09:Stmt:=top 30
theorem sc_read_sheet:FnScope ["text", "parts", "names", "forms", "firsts", "cells"] ["text"] (defScope q09):=⟨rfl,rfl,rfl,by decide +kernel,rfl,by decide +kernel,by decide +kernel⟩
noncomputable abbrev q2m:Stmt:=top 31
theorem sc_fault_row:FnScope ["text", "found", "names", "part"] ["text"] (defScope q2m):=⟨rfl,rfl,rfl,by decide +kernel,rfl,by decide +kernel,by decide +kernel⟩
noncomputable abbrev q1c:Stmt:=top 32
theorem sc_standing_parts:FnScope ["rows", "parts", "number", "row", "part"] ["rows"] (defScope q1c):=⟨rfl,rfl,rfl,by decide +kernel,rfl,by decide +kernel,by decide +kernel⟩
noncomputable abbrev q2g:Stmt:=top 33
theorem x56:FnScope ["text"] ["text"] (defScope q2g):=⟨rfl,rfl,rfl,by decide +kernel,rfl,by decide +kernel,by decide +kernel⟩
noncomputable abbrev q1v:Stmt:=top 34
theorem sc_part_of_row:FnScope ["row", "number", "sides", "words", "part"] ["row", "number"] (defScope q1v):=⟨rfl,rfl,rfl,by decide +kernel,rfl,by decide +kernel,by decide +kernel⟩
noncomputable abbrev q2n:Stmt:=top 35
theorem sc_can_stand:FnScope ["part", "ahead", "word", "last", "taken", "other", "name"] ["part", "ahead"] (defScope q2n):=⟨rfl,rfl,rfl,by decide +kernel,rfl,by decide +kernel,by decide +kernel⟩
noncomputable abbrev q26:Stmt:=top 36
theorem sc_names_of:FnScope ["parts", "word", "names", "part"] ["parts", "word"] (defScope q26):=⟨rfl,rfl,rfl,by decide +kernel,rfl,by decide +kernel,by decide +kernel⟩
noncomputable abbrev q1n:Stmt:=top 38
theorem x1a:FnScope ["_law_script", "_law_k"] ["_law_script", "_law_k"] (defScope q1n):=⟨rfl,rfl,rfl,by decide +kernel,rfl,by decide +kernel,by decide +kernel⟩
noncomputable abbrev q13:Stmt:=top 39
theorem x3i:FnScope ["_law_cell", "_law_k"] ["_law_cell", "_law_k"] (defScope q13):=⟨rfl,rfl,rfl,by decide +kernel,rfl,by decide +kernel,by decide +kernel⟩
noncomputable abbrev q1o:Stmt:=top 40
theorem x1b:FnScope ["_law_cell", "_law_many"] ["_law_cell", "_law_many"] (defScope q1o):=⟨rfl,rfl,rfl,by decide +kernel,rfl,by decide +kernel,by decide +kernel⟩
noncomputable abbrev q1p:Stmt:=top 41
theorem sc__law_form_by:FnScope ["_law_cells", "_law_many", "_law_stack", "_law_cell", "_law_word", "_law_rest", "_law_last", "_law_made", "_law_k"] ["_law_cells", "_law_many"] (defScope q1p):=⟨rfl,rfl,rfl,by decide +kernel,rfl,by decide +kernel,by decide +kernel⟩
noncomputable abbrev q06:Stmt:=top 43
theorem sc__law_names_by:FnScope ["_law_cell", "_law_count", "_law_letters", "_law_some", "_law_k", "_law_letter", "_law_size", "_law_at", "_law_name", "_law_tail"] ["_law_cell", "_law_count"] (defScope q06):=⟨rfl,rfl,rfl,by decide +kernel,rfl,by decide +kernel,by decide +kernel⟩
noncomputable abbrev q0w:Stmt:=top 44
theorem sc__law_circuit_by:FnScope ["_law_script", "_law_most", "_law_cell", "_law_many", "_law_cells", "_law_outs", "_law_forms", "_law_k", "_law_seed", "_law_count", "_law_some", "_law_first", "_law_held"] ["_law_script", "_law_most"] (defScope q0w):=⟨rfl,rfl,rfl,by decide +kernel,rfl,by decide +kernel,by decide +kernel⟩
noncomputable abbrev q14:Stmt:=top 45
theorem sc__law_three:FnScope ["_law_script", "_law_circuit", "_law_count", "_law_names"] ["_law_script", "_law_circuit"] (defScope q14):=⟨rfl,rfl,rfl,by decide +kernel,rfl,by decide +kernel,by decide +kernel⟩
noncomputable abbrev q2o:Stmt:=top 46
theorem sc__law_text:FnScope ["_law_form", "_law_names", "_law_left"] ["_law_form", "_law_names"] (defScope q2o):=⟨rfl,rfl,rfl,by decide +kernel,rfl,by decide +kernel,by decide +kernel⟩
noncomputable abbrev q1t:Stmt:=top 47
theorem sc__law_lines:FnScope ["_law_names", "_law_circuit", "_law_known", "_law_lines_here", "_law_k", "_law_word", "_law_told"] ["_law_names", "_law_circuit"] (defScope q1t):=⟨rfl,rfl,rfl,by decide +kernel,rfl,by decide +kernel,by decide +kernel⟩
noncomputable abbrev q15:Stmt:=top 48
theorem sc__law_loose:FnScope ["_law_lines_here", "_law_cell", "_law_made", "_law_k", "_law_way", "_law_line"] ["_law_lines_here", "_law_cell"] (defScope q15):=⟨rfl,rfl,rfl,by decide +kernel,rfl,by decide +kernel,by decide +kernel⟩
noncomputable abbrev q4k:Stmt:=top 49
theorem sc_law:FnScope ["_law_script", "_law_circuit", "_law_names", "_law_lines_here", "_law_text_here", "_law_turn", "_law_found"] ["_law_script"] (defScope q4k):=⟨rfl,rfl,rfl,by decide +kernel,rfl,by decide +kernel,by decide +kernel⟩
def x1c(K:PySem.W.Frag)(a:Adr)(r:Nat->List W->FR):List S->SR:=
 (dSeq (dSet 2 (dCall (r q1k) (dCons (dVar 1) dNil)))
  (dSeq (dSet 3 (dCall (r q3g) (dCons (dVar 0) dNil)))
  (dSeq (dSet 4 (dCall (r q2a) (dCons (dVar 3) (dCons (dVar 2) (dCons (dFn len1 (dCons (dVar 0) dNil)) dNil)))))
  (dSeq (dIfS (dTest (dOp nisW (dVar 4) (dC .non)))
  dNo
  dNx)
  (dRet (dCall (r q10) (dCons (dVar 3) (dCons (dVar 2) dNil))))))))
def q9m(K:PySem.W.Frag)(a:Adr)(r:Nat->List W->FR):List S->SR:=
 (dSeq (dSet 2 (dCall (r q1k) (dCons (dVar 1) dNil)))
  (dRet (dCall (r q2a) (dCons (dCall (r q3g) (dCons (dVar 0) dNil)) (dCons (dVar 2) (dCons (dFn len1 (dCons (dVar 0) dNil)) dNil))))))
def q2h(K:PySem.W.Frag)(a:Adr)(r:Nat->List W->FR):List S->SR:=
 (dSeq (dIfS (dNot (dTru (dCall (r q4x) (dCons (dVar 3) dNil))))
  dNo
  dNx)
  (dSeq (dIfS (dBorrowT (dTest (dOp inD (dVar 3) (dVar 1))))
  dNo
  dNx)
  (dPutD 1 (dVar 2) (dVar 3))))
def q27(K:PySem.W.Frag)(a:Adr)(r:Nat->List W->FR):List S->SR:=
 (dSeq (dSetD 1)
  (dSeq (dForP 2 3 (srcET (dCons (dVar 0) dNil))
  (q2h K a r))
  (dRetD 1)))
def q91(K:PySem.W.Frag)(a:Adr)(r:Nat->List W->FR):Den W:=
 (dCall (r q1i) (dCons (dVar 0) dNil))
def q65(K:PySem.W.Frag)(a:Adr)(r:Nat->List W->FR):List S->SR:=
 (dSeq (dIfS (dOr (dTest (dOp ltW (dFn len1 (dCons (dVar 0) dNil)) (dC (.int 1)))) (dOr (dTest (dOp gtW (dFn len1 (dCons (dVar 0) dNil)) (dC (.int 8)))) (dTest (dOp inW (dVar 0) (dC (.tup [(.str "yes"),(.str "no"),(.str "not"),(.str "and"),(.str "odd"),(.str "or")]))))))
  (dRet (dC (.bl false)))
  dNx)
  (dRet (dFn all1 (dCons (dFz (dCompS [] (dVar 0) dYes (q91 K a r))) dNil))))
def q2r(K:PySem.W.Frag)(a:Adr)(r:Nat->List W->FR):List S->SR:=
 (dRet (dAndV (dOp leS (dC (.str "a")) (dVar 0)) (dOp leS (dVar 0) (dC (.str "z")))))
def q3e(K:PySem.W.Frag)(a:Adr)(r:Nat->List W->FR):Den Bool:=
 (dTest (dOp ltW (dVar 2) (dFn len1 (dCons (dVar 0) dNil))))
def q3f(K:PySem.W.Frag)(a:Adr)(r:Nat->List W->FR):List S->SR:=
 (dSeq (dSet 3 (dCall (r q2x) (dCons (dVar 0) (dCons (dVar 2) dNil))))
  (dSeq (dIfS (dTest (dOp ne2 (dOp ixW (dVar 0) (dVar 2)) (dC (.str " "))))
  (dApp 1 (dCons (dTup (dCons (dVar 2) (dCons (dSlX (dVar 0) (dPart (dVar 2)) (dPart (dVar 3))) dNil))) dNil))
  dNx)
  (dSet 2 (dVar 3))))
def q5y(K:PySem.W.Frag)(a:Adr)(r:Nat->List W->FR):List S->SR:=
 (dSeq (dSetO 1 (dLst dNil))
  (dSeq (dSet 2 (dC (.int 0)))
  (dSeq (whileD (q3e K a r)
  (q3f K a r) 1000000)
  (dRetO 1))))
def q28(K:PySem.W.Frag)(a:Adr)(r:Nat->List W->FR):Den Bool:=
 (dAnd (dTest (dOp ltW (dVar 2) (dFn len1 (dCons (dVar 0) dNil)))) (dTru (dCall (r q1i) (dCons (dOp ixW (dVar 0) (dVar 2)) dNil))))
def q29(K:PySem.W.Frag)(a:Adr)(r:Nat->List W->FR):List S->SR:=
 (dSet 2 (dOp addX (dVar 2) (dC (.int 1))))
def q35(K:PySem.W.Frag)(a:Adr)(r:Nat->List W->FR):List S->SR:=
 (dSeq (dSet 2 (dVar 1))
  (dSeq (whileD (q28 K a r)
  (q29 K a r) 1000000)
  (dRet (dFn max2 (dCons (dVar 2) (dCons (dOp addX (dVar 1) (dC (.int 1))) dNil))))))
def q1h(K:PySem.W.Frag)(a:Adr)(r:Nat->List W->FR):List S->SR:=
 (dSeq (dIfS (dTru (dVar 3))
  (dSet 7 (dCall (r q4f) (dCons (dVar 6) (dCons (dVar 4) (dCons (dVar 1) dNil)))))
  (dSet 7 (dCall (r q3t) (dCons (dVar 6) (dCons (dVar 4) dNil)))))
  (dSeq (dIfS (dNot (dTru (dVar 7)))
  (dRet (dVar 5))
  dNx)
  (dIfS (dTest (dOp eq2 (dVar 6) (dC (.str "("))))
  (dSet 4 (dOp addX (dVar 4) (dC (.int 1))))
  (dIfS (dTest (dOp eq2 (dVar 6) (dC (.str ")"))))
  (dSet 4 (dOp subW (dVar 4) (dC (.int 1))))
  (dSet 3 (dOrV (dOp eq2 (dVar 6) (dC (.str "not"))) (dOp inW (dVar 6) (dC (.tup [(.str "and"),(.str "odd"),(.str "or")])))))))))
def q4l(K:PySem.W.Frag)(a:Adr)(r:Nat->List W->FR):List S->SR:=
 (dSeq (dSet 3 (dC (.bl true)))
  (dSeq (dSet 4 (dC (.int 0)))
  (dSeq (dForP 5 6 (srcP (dVar 0))
  (q1h K a r))
  (dSeq (dIfS (dOr (dTru (dVar 3)) (dTest (dOp gtW (dVar 4) (dC (.int 0)))))
  (dRet (dVar 2))
  dNx)
  (dRet (dC .non))))))
def q5z(K:PySem.W.Frag)(a:Adr)(r:Nat->List W->FR):List S->SR:=
 (dSeq (dIfS (dTest (dOp eq2 (dVar 0) (dC (.str "("))))
  (dRet (dOp ltW (dVar 1) (dC (.int 12))))
  dNx)
  (dRet (dOrV (dOp inW (dVar 0) (dTup (dCons (dC (.str "yes")) (dCons (dC (.str "no")) (dCons (dC (.str "not")) dNil))))) (dOp inD (dVar 0) (dVar 2)))))
def q44(K:PySem.W.Frag)(a:Adr)(r:Nat->List W->FR):List S->SR:=
 (dSeq (dIfS (dTest (dOp eq2 (dVar 0) (dC (.str ")"))))
  (dRet (dOp gtW (dVar 1) (dC (.int 0))))
  dNx)
  (dRet (dOp inW (dVar 0) (dC (.tup [(.str "and"),(.str "odd"),(.str "or")])))))
def q0v(K:PySem.W.Frag)(a:Adr)(r:Nat->List W->FR):List S->SR:=
 (dIfS (dOr (dTest (dOp eq2 (dVar 5) (dC (.str "(")))) (dTest (dOp eq2 (dVar 5) (dC (.str "not")))))
  (dApp 3 (dCons (dVar 5) dNil))
  (dIfS (dTest (dOp eq2 (dVar 5) (dC (.str ")"))))
  (dSeq (dMut2 (r q4n) 2 3 (dCons (dC (.int 1)) dNil))
  (dDrop (dPop 3)))
  (dIfS (dTest (dOp inW (dVar 5) (dC (.tup [(.str "and"),(.str "odd"),(.str "or")]))))
  (dSeq (dMut2 (r q4n) 2 3 (dCons (dUn (tabW q3s) (dVar 5)) dNil))
  (dApp 3 (dCons (dVar 5) dNil)))
  (dApp 2 (dCons (dCall (r q3u) (dCons (dVar 5) (dCons (dVar 1) dNil))) dNil)))))
def q3a(K:PySem.W.Frag)(a:Adr)(r:Nat->List W->FR):List S->SR:=
 (dSeq (dSetO 2 (dLst dNil))
  (dSeq (dSetO 3 (dLst dNil))
  (dSeq (dForP 4 5 (srcP (dVar 0))
  (q0v K a r))
  (dSeq (dMut2 (r q4n) 2 3 (dCons (dC (.int 1)) dNil))
  (dRet (dIxV 2 (dC (.int 0))))))))
def q36(K:PySem.W.Frag)(a:Adr)(r:Nat->List W->FR):Den Bool:=
 (dAnd (dTest (dOp gtW (dFnV 1 len1) (dC (.int 0)))) (dTest (dOp geW (dUn (tabW q3s) (dIxV 1 (dUn negW (dC (.int 1))))) (dVar 2))))
def q45(K:PySem.W.Frag)(a:Adr)(r:Nat->List W->FR):List S->SR:=
 (dSeq (dSet 3 (dPop 1))
  (dSeq (dSet 4 (dPop 0))
  (dIfS (dTest (dOp eq2 (dVar 3) (dC (.str "not"))))
  (dApp 0 (dCons (dTup (dCons (dC (.str "not")) (dCons (dVar 4) dNil))) dNil))
  (dApp 0 (dCons (dTup (dCons (dVar 3) (dCons (dPop 0) (dCons (dVar 4) dNil)))) dNil)))))
def q7y(K:PySem.W.Frag)(a:Adr)(r:Nat->List W->FR):List S->SR:=
 (whileD (q36 K a r)
  (q45 K a r) 1000000)
def q46(K:PySem.W.Frag)(a:Adr)(r:Nat->List W->FR):List S->SR:=
 (dSeq (dIfS (dTest (dOp eq2 (dVar 0) (dC (.str "yes"))))
  (dRet (dTup (dCons (dC (.str "is")) (dCons (dC (.bl true)) dNil))))
  dNx)
  (dSeq (dIfS (dTest (dOp eq2 (dVar 0) (dC (.str "no"))))
  (dRet (dTup (dCons (dC (.str "is")) (dCons (dC (.bl false)) dNil))))
  dNx)
  (dRet (dTup (dCons (dC (.str "at")) (dCons (dOp ixD (dVar 1) (dVar 0)) dNil))))))
def q5i(K:PySem.W.Frag)(a:Adr)(r:Nat->List W->FR):Den W:=
 (dOp eq2 (dOp ixS (dVar 0) (dC (.str "first"))) (dC (.str "yes")))
def q5j(K:PySem.W.Frag)(a:Adr)(r:Nat->List W->FR):Den Bool:=
 (dTest (dOp eq2 (dOp ixS (dVar 0) (dC (.str "word"))) (dC (.str "held"))))
def q5k(K:PySem.W.Frag)(a:Adr)(r:Nat->List W->FR):Den W:=
 (dCall (r q8x) (dCons (dOp ixS (dVar 0) (dC (.str "form"))) (dCons (dOp addX (dOp ixW (dVar 1) (dC (.int 0))) (dOp ixW (dVar 1) (dC (.int 1)))) dNil)))
def q5l(K:PySem.W.Frag)(a:Adr)(r:Nat->List W->FR):Den Bool:=
 (dTest (dOp ne2 (dOp ixS (dVar 0) (dC (.str "word"))) (dC (.str "in"))))
def q7i(K:PySem.W.Frag)(a:Adr)(r:Nat->List W->FR):Den W:=
 (dCall (r q1x) (dCons (dVar 1) (dCons (dVar 0) dNil)))
def q47(K:PySem.W.Frag)(a:Adr)(r:Nat->List W->FR):List S->SR:=
 (dSeq (dIfS (dTest (dOp nisW (dCall (r q2j) (dCons (dVar 0) dNil)) (dC .non)))
  dNo
  dNx)
  (dSeq (dSet 1 (dOp ixW (dCall (r q1l) (dCons (dMeth "str" splitW (dVar 0) (dCons (dC (.str "\n")) dNil)) dNil)) (dC (.int 0))))
  (dSeq (dSet 2 (dFn tup1 (dCons (dFz (dComp [1] (dC (.tup [(.str "in"),(.str "held"),(.str "out")])) dYes (q7i K a r))) dNil)))
  (dSeq (dSet 3 (dFz (dComp [2] (dVar 1) (q5l K a r) (q5k K a r))))
  (dSeq (dSet 4 (dFz (dComp [] (dVar 1) (q5j K a r) (q5i K a r))))
  (dSeq (dSet 5 (dFn len1 (dCons (dVar 4) dNil)))
  (dRet (dTup (dCons (dVar 2) (dCons (dTup (dCons (dFn len1 (dCons (dOp ixW (dVar 2) (dC (.int 0))) dNil)) (dCons (dFn zip1 (dCons (dVar 4) (dCons (dSlX (dVar 3) dNoPart (dPart (dVar 5))) dNil))) (dCons (dFn tup1 (dCons (dSlX (dVar 3) (dPart (dVar 5)) dNoPart) dNil)) dNil)))) dNil))))))))))
def q2b(K:PySem.W.Frag)(a:Adr)(r:Nat->List W->FR):List S->SR:=
 (dIfS (dAnd (dTest (dOp ne2 (dOp ixS (dVar 3) (dC (.str "word"))) (dC (.str "in")))) (dTest (dOp nisW (dCall (r q7h) (dCons (dOp ixS (dVar 3) (dC (.str "form"))) (dCons (dVar 2) dNil))) (dC .non))))
  (dRet (dOp ixS (dVar 3) (dC (.str "row"))))
  dNx)
def q50(K:PySem.W.Frag)(a:Adr)(r:Nat->List W->FR):List S->SR:=
 (dSeq (dSet 1 (dCall (r q1l) (dCons (dMeth "str" splitW (dVar 0) (dCons (dC (.str "\n")) dNil)) dNil)))
  (dSeq (dIfS (dTest (dOp nisW (dOp ixW (dVar 1) (dC (.int 1))) (dC .non)))
  (dRet (dOp ixW (dVar 1) (dC (.int 1))))
  dNx)
  (dSeq (dSet 2 (dOp addX (dCall (r q1x) (dCons (dOp ixW (dVar 1) (dC (.int 0))) (dCons (dC (.str "in")) dNil))) (dCall (r q1x) (dCons (dOp ixW (dVar 1) (dC (.int 0))) (dCons (dC (.str "held")) dNil)))))
  (dSeq (dFor 3 (dOp ixW (dVar 1) (dC (.int 0)))
  (q2b K a r))
  (dRet (dC .non))))))
def q1d(K:PySem.W.Frag)(a:Adr)(r:Nat->List W->FR):List S->SR:=
 (dIfS (dTest (dOp gtW (dFn len1 (dCons (dCall (r q34) (dCons (dVar 3) dNil)) dNil)) (dC (.int 0))))
  (dSeq (dSetDI 4 (r q00) (dCons (dVar 3) (dCons (dVar 2) dNil)))
  (dSeq (dIfS (dNot (dTru (dBorrow (dCall (r q4g) (dCons (dVar 4) (dCons (dVar 1) dNil))))))
  (dRet (dTup (dCons (dVar 1) (dCons (dVar 2) dNil))))
  dNx)
  (dApp 1 (dCons (dVar 4) dNil))))
  dNx)
def q3b(K:PySem.W.Frag)(a:Adr)(r:Nat->List W->FR):List S->SR:=
 (dSeq (dSetO 1 (dLst dNil))
  (dSeq (dForP 2 3 (srcE (dCons (dVar 0) dNil))
  (q1d K a r))
  (dRet (dTup (dCons (dVar 1) (dCons (dIf (dTest (dOp eq2 (dFnV 1 len1) (dC (.int 0)))) (dFn len1 (dCons (dVar 0) dNil)) (dC .non)) dNil))))))
def q8z(K:PySem.W.Frag)(a:Adr)(r:Nat->List W->FR):Den W:=
 (dVar 0)
def q80(K:PySem.W.Frag)(a:Adr)(r:Nat->List W->FR):Den Bool:=
 (dTest (dOp ne2 (dVar 0) (dC (.str ""))))
def q6h(K:PySem.W.Frag)(a:Adr)(r:Nat->List W->FR):List S->SR:=
 (dRetF (dComp [] (dMeth "str" splitW (dVar 0) (dCons (dC (.str " ")) dNil)) (q80 K a r) (q8z K a r)))
def ptT(K:PySem.W.Frag)(a:Adr)(r:Nat->List W->FR):List S->SR:=
 (dSeq (dIfS (dAnd (dTest (dOp eq2 (dSlX (dVar 3) dNoPart (dPart (dC (.int 1)))) (dFz (dLst (dCons (dC (.str "in")) dNil))))) (dTest (dOp eq2 (dOp ixW (dVar 2) (dC (.int 1))) (dC (.str "")))))
  (dUpd 4 ["word", "names"] (dCons (dC (.str "in")) (dCons (dFn tup1 (dCons (dSlX (dVar 3) (dPart (dC (.int 1))) dNoPart) dNil)) dNil)))
  (dIfS (dAnd (dTest (dOp eq2 (dSlX (dVar 3) dNoPart (dPart (dC (.int 1)))) (dFz (dLst (dCons (dC (.str "held")) dNil))))) (dAnd (dTest (dOp eq2 (dOp ixW (dVar 2) (dC (.int 1))) (dC (.str "=")))) (dAnd (dTest (dOp eq2 (dFn len1 (dCons (dVar 3) dNil)) (dC (.int 3)))) (dTest (dOp inW (dOp ixW (dVar 3) (dC (.int 2))) (dC (.tup [(.str "yes"),(.str "no")])))))))
  (dUpd 4 ["word", "names", "first"] (dCons (dC (.str "held")) (dCons (dTup (dCons (dOp ixW (dVar 3) (dC (.int 1))) dNil)) (dCons (dOp ixW (dVar 3) (dC (.int 2))) dNil))))
  (dIfS (dAnd (dTest (dOp eq2 (dSlX (dVar 3) dNoPart (dPart (dC (.int 1)))) (dFz (dLst (dCons (dC (.str "out")) dNil))))) (dAnd (dTest (dOp eq2 (dOp ixW (dVar 2) (dC (.int 1))) (dC (.str "=")))) (dTest (dOp eq2 (dFn len1 (dCons (dVar 3) dNil)) (dC (.int 2))))))
  (dUpd 4 ["word", "names"] (dCons (dC (.str "out")) (dCons (dTup (dCons (dOp ixW (dVar 3) (dC (.int 1))) dNil)) dNil)))
  dNx)))
  (dRetW 4))
def q4m(K:PySem.W.Frag)(a:Adr)(r:Nat->List W->FR):List S->SR:=
 (dSeq (dSet 2 (dMeth "str" partW (dVar 0) (dCons (dC (.str "=")) dNil)))
  (dSeq (dSet 3 (dCall (r q34) (dCons (dOp ixW (dVar 2) (dC (.int 0))) dNil)))
  (dSeq (dSetDS 4 ["row", "word", "names", "first", "form"] (dCons (dVar 1) (dCons (dC (.str "")) (dCons (dTup dNil) (dCons (dC .non) (dCons (dOp ixW (dVar 2) (dC (.int 2))) dNil))))))
  (ptT K a r))))
def q2c(K:PySem.W.Frag)(a:Adr)(r:Nat->List W->FR):List S->SR:=
 (dSeq (dIfS (dOr (dBorrowT (dTest (dOp inW (dVar 6) (dVar 4)))) (dOr (dTest (dOp inW (dVar 6) (dC (.tup [(.str "in"),(.str "held"),(.str "out")])))) (dNot (dTru (dCall (r q4x) (dCons (dVar 6) dNil))))))
  (dRet (dC (.bl false)))
  dNx)
  (dApp 4 (dCons (dVar 6) dNil)))
def q04(K:PySem.W.Frag)(a:Adr)(r:Nat->List W->FR):List S->SR:=
 (dExt 4 (dCons (dCall (r q1x) (dCons (dVar 1) (dCons (dVar 5) dNil))) dNil))
def q51(K:PySem.W.Frag)(a:Adr)(r:Nat->List W->FR):List S->SR:=
 (dSeq (dSet 2 (dOp ixS (dVar 0) (dC (.str "word"))))
  (dSeq (dSet 3 (dIf (dTest (dOp gtW (dFn len1 (dCons (dVar 1) dNil)) (dC (.int 0)))) (dOp ixS (dOp ixW (dVar 1) (dUn negW (dC (.int 1)))) (dC (.str "word"))) (dC (.str ""))))
  (dSeq (dIfS (dOr (dTest (dOp ninW (dVar 2) (dC (.tup [(.str "in"),(.str "held"),(.str "out")])))) (dTest (dOp ninW (dVar 3) (dUn (tabCW q64) (dVar 2)))))
  (dRet (dC (.bl false)))
  dNx)
  (dSeq (dIfS (dTest (dOp gtW (dFn len1 (dCons (dOp addX (dCall (r q1x) (dCons (dVar 1) (dCons (dVar 2) dNil))) (dOp ixS (dVar 0) (dC (.str "names")))) dNil)) (dUn (tabW q4j) (dVar 2))))
  (dRet (dC (.bl false)))
  dNx)
  (dSeq (dSetO 4 (dLst dNil))
  (dSeq (dFor 5 (dC (.tup [(.str "in"),(.str "held"),(.str "out")]))
  (q04 K a r))
  (dSeq (dFor 6 (dOp ixS (dVar 0) (dC (.str "names")))
  (q2c K a r))
  (dRet (dC (.bl true))))))))))
def q3w(K:PySem.W.Frag)(a:Adr)(r:Nat->List W->FR):List S->SR:=
 (dIfS (dTest (dOp eq2 (dOp ixS (dVar 3) (dC (.str "word"))) (dVar 1)))
  (dSet 2 (dOp addX (dVar 2) (dOp ixS (dVar 3) (dC (.str "names")))))
  dNx)
def q6i(K:PySem.W.Frag)(a:Adr)(r:Nat->List W->FR):List S->SR:=
 (dSeq (dSet 2 (dTup dNil))
  (dSeq (dFor 3 (dVar 0)
  (q3w K a r))
  (dRet (dVar 2))))
def q37(K:PySem.W.Frag)(a:Adr)(r:Nat->List W->FR):List S->SR:=
 (dSeq (dIfS (dTest (dOp ltW (dVar 1) (dFn len1 (dCons (dVar 0) dNil))))
  (dRet (dOp ixW (dVar 0) (dVar 1)))
  dNx)
  (dRet (dC (.int 0))))
def q48(K:PySem.W.Frag)(a:Adr)(r:Nat->List W->FR):List S->SR:=
 (dRet (dOp modW (dOp powW (dOp modW (dOp addX (dOp mulW (dVar 0) (dC (.int 48271))) (dOp mulW (dOp addX (dVar 1) (dC (.int 1))) (dC (.int 1299721)))) (dC (.int 2147483647))) (dC (.int 5))) (dC (.int 2147483647))))
def q38(K:PySem.W.Frag)(a:Adr)(r:Nat->List W->FR):List S->SR:=
 (dSeq (dIfS (dOr (dTest (dOp eq2 (dVar 1) (dC (.int 0)))) (dTest (dOp eq2 (dOp modW (dVar 0) (dC (.int 8))) (dC (.int 7)))))
  (dRet (dTup (dCons (dC (.str "is")) (dCons (dOp eq2 (dOp modW (dOp fdivW (dVar 0) (dC (.int 8))) (dC (.int 2))) (dC (.int 1))) dNil))))
  dNx)
  (dRet (dTup (dCons (dC (.str "at")) (dCons (dOp modW (dOp fdivW (dVar 0) (dC (.int 8))) (dVar 1)) dNil)))))
def q4p(K:PySem.W.Frag)(a:Adr)(r:Nat->List W->FR):List S->SR:=
 (dSet 7 (dTup (dCons (dOp ixW (dFz (dLst (dCons (dC (.str "or")) (dCons (dC (.str "odd")) (dCons (dC (.str "and")) dNil))))) (dOp modW (dOp addX (dVar 8) (dFn len1 (dCons (dVar 0) dNil))) (dC (.int 3)))) (dCons (dVar 7) (dCons (dIxV 2 (dVar 8)) dNil)))))
def q3c(K:PySem.W.Frag)(a:Adr)(r:Nat->List W->FR):List S->SR:=
 (dSeq (dSet 4 (dOp modW (dVar 3) (dC (.int 9))))
  (dSeq (dSet 5 (dOp fdivW (dVar 3) (dC (.int 9))))
  (dIfS (dTest (dOp eq2 (dVar 4) (dC (.int 0))))
  (dApp 2 (dCons (dTup (dCons (dC (.str "not")) (dCons (dPop 2) dNil))) dNil))
  (dIfS (dAnd (dTest (dOp ltW (dVar 4) (dC (.int 5)))) (dTest (dOp gtW (dFnV 2 len1) (dC (.int 1)))))
  (dSeq (dSet 6 (dPop 2))
  (dApp 2 (dCons (dTup (dCons (dOp ixW (dFz (dLst (dCons (dC (.str "and")) (dCons (dC (.str "or")) (dCons (dC (.str "odd")) dNil))))) (dOp modW (dVar 5) (dC (.int 3)))) (dCons (dPop 2) (dCons (dVar 6) dNil)))) dNil)))
  (dApp 2 (dCons (dCall (r q1z) (dCons (dVar 5) (dCons (dVar 1) dNil))) dNil))))))
def q39(K:PySem.W.Frag)(a:Adr)(r:Nat->List W->FR):List S->SR:=
 (dSeq (dSetO 2 (dLst (dCons (dCall (r q1z) (dCons (dFn len1 (dCons (dVar 0) dNil)) (dCons (dVar 1) dNil))) dNil)))
  (dSeq (dFor 3 (dVar 0)
  (q3c K a r))
  (dSeq (dSet 7 (dIxV 2 (dC (.int 0))))
  (dSeq (dForR 8 rng2 (dCons (dC (.int 1)) (dCons (dFnV 2 len1) dNil))
  (q4p K a r))
  (dRet (dVar 7))))))
def q2s(K:PySem.W.Frag)(a:Adr)(r:Nat->List W->FR):Den W:=
 (dOp ixW (dVar 2) (dOp modW (dCall (r q1g) (dCons (dVar 1) (dCons (dOp addX (dOp mulW (dC (.int 9)) (dVar 3)) (dVar 0)) dNil))) (dC (.int 26))))
def nmE(K:PySem.W.Frag)(a:Adr)(r:Nat->List W->FR):List S->SR:=
 (dSeq (dIfS (dTest (dOp inW (dVar 8) (dTup (dCons (dC (.str "yes")) (dCons (dC (.str "no")) (dCons (dC (.str "not")) (dCons (dC (.str "and")) (dCons (dC (.str "odd")) (dCons (dC (.str "or")) (dCons (dC (.str "in")) (dCons (dC (.str "held")) (dCons (dC (.str "out")) dNil))))))))))))
  (dSet 8 (dOp addX (dVar 8) (dC (.str "x"))))
  dNx)
  (dApp 3 (dCons (dVar 8) dNil)))
def nmS(K:PySem.W.Frag)(a:Adr)(r:Nat->List W->FR):List S->SR:=
 (dSeq (dSet 7 (dOp modW (dOp fdivW (dVar 0) (dC (.int 624))) (dOp addX (dVar 6) (dC (.int 1)))))
  (dSeq (dSet 8 (dOp addX (dOp addX (dOp mulS (dC (.str "q")) (dVar 7)) (dVar 5)) (dOp mulS (dC (.str "q")) (dOp subW (dVar 6) (dVar 7)))))
  (dSeq (dIfS (dTest (dOp eq2 (dOp modW (dVar 0) (dC (.int 3))) (dC (.int 2))))
  (dSeq (dSet 9 (dFz (dCompR rng1 [0,2,4] (dCons (dVar 6) dNil) dYes (q2s K a r))))
  (dSet 8 (dOp addX (dVar 5) (dMeth "str" joinW (dC (.str "")) (dCons (dVar 9) dNil)))))
  dNx)
  (nmE K a r))))
def q2t(K:PySem.W.Frag)(a:Adr)(r:Nat->List W->FR):List S->SR:=
 (dSeq (dSet 5 (dOp ixW (dVar 2) (dOp modW (dOp addX (dOp fdivW (dVar 0) (dC (.int 3))) (dOp mulW (dC (.int 7)) (dVar 4))) (dC (.int 26)))))
  (dSeq (dSet 6 (dOp ixW (dFz (dLst (dCons (dC (.int 0)) (dCons (dC (.int 1)) (dCons (dC (.int 2)) (dCons (dC (.int 0)) (dCons (dC (.int 5)) (dCons (dC (.int 7)) (dCons (dC (.int 3)) (dCons (dC (.int 0)) dNil)))))))))) (dOp modW (dOp fdivW (dVar 0) (dC (.int 78))) (dC (.int 8)))))
  (dSeq (dIfS (dTest (dOp eq2 (dOp modW (dVar 0) (dC (.int 3))) (dC (.int 0))))
  (dSet 6 (dOp modW (dCall (r q1g) (dCons (dVar 0) (dCons (dVar 4) dNil))) (dC (.int 8))))
  dNx)
  (nmS K a r))))
def q3m(K:PySem.W.Frag)(a:Adr)(r:Nat->List W->FR):List S->SR:=
 (dSeq (dSet 2 (dC (.str "abcdefghijklmnopqrstuvwxyz")))
  (dSeq (dSetO 3 (dLst dNil))
  (dSeq (dForR 4 rng1 (dCons (dVar 1) dNil)
  (q2t K a r))
  (dRetO 3))))
def q3h(K:PySem.W.Frag)(a:Adr)(r:Nat->List W->FR):Den W:=
 (dTup (dCons (dOp eq2 (dOp modW (dOp fdivW (dVar 2) (dOp addX (dVar 0) (dC (.int 1)))) (dC (.int 2))) (dC (.int 1))) (dCons (dOp ixW (dVar 1) (dVar 0)) dNil)))
def q16(K:PySem.W.Frag)(a:Adr)(r:Nat->List W->FR):Den W:=
 (dCall (r q1g) (dCons (dVar 2) (dCons (dOp addX (dOp mulW (dC (.int 11)) (dVar 1)) (dVar 0)) dNil)))
def q17(K:PySem.W.Frag)(a:Adr)(r:Nat->List W->FR):List S->SR:=
 (dSeq (dSet 8 (dCall (r q0z) (dCons (dVar 0) (dCons (dOp addX (dC (.int 2)) (dVar 7)) dNil))))
  (dSeq (dSet 9 (dOp addX (dC (.int 1)) (dOp modW (dCall (r q1g) (dCons (dVar 8) (dCons (dVar 7) dNil))) (dVar 1))))
  (dSeq (dSet 10 (dFz (dCompR rng1 [7,8] (dCons (dVar 9) dNil) dYes (q16 K a r))))
  (dApp 6 (dCons (dCall (r q2z) (dCons (dVar 10) (dCons (dOp addX (dVar 3) (dVar 4)) dNil))) dNil)))))
def ciT(K:PySem.W.Frag)(a:Adr)(r:Nat->List W->FR):List S->SR:=
 (dSeq (dSetO 6 (dLst dNil))
  (dSeq (dForR 7 rng1 (dCons (dOp addX (dVar 4) (dVar 5)) dNil)
  (q17 K a r))
  (dSeq (dSet 11 (dCall (r q0z) (dCons (dVar 0) (dCons (dC (.int 1)) dNil))))
  (dSeq (dSet 12 (dFz (dCompR rng1 [6,11] (dCons (dVar 4) dNil) dYes (q3h K a r))))
  (dRet (dTup (dCons (dVar 3) (dCons (dFn tup1 (dCons (dVar 12) dNil)) (dCons (dFn tup1 (dCons (dSlX (dVar 6) (dPart (dVar 4)) dNoPart) dNil)) dNil)))))))))
def ciO(K:PySem.W.Frag)(a:Adr)(r:Nat->List W->FR):List S->SR:=
 (dSeq (dSet 5 (dOp ixW (dFz (dLst (dCons (dC (.int 1)) (dCons (dC (.int 2)) (dCons (dC (.int 3)) (dCons (dC (.int 0)) dNil)))))) (dOp modW (dOp fdivW (dVar 2) (dC (.int 12))) (dC (.int 4)))))
  (dSeq (dIfS (dTest (dOp eq2 (dOp modW (dOp fdivW (dVar 2) (dC (.int 48))) (dC (.int 8))) (dC (.int 3))))
  (dSet 5 (dC (.int 6)))
  dNx)
  (ciT K a r)))
def q2u(K:PySem.W.Frag)(a:Adr)(r:Nat->List W->FR):List S->SR:=
 (dSeq (dSet 2 (dCall (r q0z) (dCons (dVar 0) (dCons (dC (.int 0)) dNil))))
  (dSeq (dSet 3 (dOp modW (dVar 2) (dC (.int 3))))
  (dSeq (dSet 4 (dOp modW (dOp fdivW (dVar 2) (dC (.int 3))) (dC (.int 4))))
  (dSeq (dIfS (dAnd (dTest (dOp eq2 (dOp modW (dOp fdivW (dVar 2) (dC (.int 48))) (dC (.int 8))) (dC (.int 1)))) (dTest (dOp ltW (dVar 3) (dC (.int 2)))))
  (dSet 4 (dC (.int 4)))
  dNx)
  (dSeq (dIfS (dTest (dOp eq2 (dOp modW (dOp fdivW (dVar 2) (dC (.int 48))) (dC (.int 8))) (dC (.int 2))))
  (dSeq (dSet 3 (dC (.int 3)))
  (dSet 4 (dOp modW (dVar 4) (dC (.int 3)))))
  dNx)
  (ciO K a r))))))
def q49(K:PySem.W.Frag)(a:Adr)(r:Nat->List W->FR):List S->SR:=
 (dSeq (dSet 2 (dOp addX (dOp ixW (dVar 1) (dC (.int 0))) (dFn len1 (dCons (dOp ixW (dVar 1) (dC (.int 1))) dNil))))
  (dSeq (dSet 3 (dCall (r q2f) (dCons (dCall (r q0z) (dCons (dVar 0) (dCons (dC (.int 9)) dNil))) (dCons (dOp addX (dVar 2) (dFn len1 (dCons (dOp ixW (dVar 1) (dC (.int 2))) dNil))) dNil))))
  (dRet (dTup (dCons (dFn tup1 (dCons (dSlX (dVar 3) dNoPart (dPart (dOp ixW (dVar 1) (dC (.int 0))))) dNil)) (dCons (dFn tup1 (dCons (dSlX (dVar 3) (dPart (dOp ixW (dVar 1) (dC (.int 0)))) (dPart (dVar 2))) dNil)) (dCons (dFn tup1 (dCons (dSlX (dVar 3) (dPart (dVar 2)) dNoPart) dNil)) dNil)))))))
def q2p(K:PySem.W.Frag)(a:Adr)(r:Nat->List W->FR):List S->SR:=
 (dSeq (dIfS (dTest (dOp eq2 (dOp ixW (dVar 0) (dC (.int 0))) (dC (.str "is"))))
  (dRet (dOp ixW (dFz (dLst (dCons (dC (.str "no")) (dCons (dC (.str "yes")) dNil)))) (dFn int1 (dCons (dOp ixW (dVar 0) (dC (.int 1))) dNil))))
  dNx)
  (dSeq (dIfS (dTest (dOp eq2 (dOp ixW (dVar 0) (dC (.int 0))) (dC (.str "at"))))
  (dRet (dOp ixW (dVar 1) (dOp ixW (dVar 0) (dC (.int 1)))))
  dNx)
  (dSeq (dIfS (dTest (dOp eq2 (dOp ixW (dVar 0) (dC (.int 0))) (dC (.str "not"))))
  (dRet (dOp addX (dC (.str "not ")) (dCall (r q03) (dCons (dOp ixW (dVar 0) (dC (.int 1))) (dCons (dVar 1) dNil)))))
  dNx)
  (dSeq (dSet 2 (dCall (r q03) (dCons (dOp ixW (dVar 0) (dC (.int 1))) (dCons (dVar 1) dNil))))
  (dRet (dOp addX (dOp addX (dOp addX (dOp addX (dOp addX (dOp addX (dC (.str "(")) (dVar 2)) (dC (.str " "))) (dOp ixW (dVar 0) (dC (.int 0)))) (dC (.str " "))) (dCall (r q03) (dCons (dOp ixW (dVar 0) (dC (.int 2))) (dCons (dVar 1) dNil)))) (dC (.str ")"))))))))
def q4a(K:PySem.W.Frag)(a:Adr)(r:Nat->List W->FR):List S->SR:=
 (dSeq (dSet 6 (dCall (r q03) (dCons (dOp ixW (dOp ixW (dVar 1) (dC (.int 2))) (dVar 4)) (dCons (dVar 2) dNil))))
  (dApp 3 (dCons (dOp addX (dOp addX (dOp addX (dC (.str "out ")) (dOp ixW (dOp ixW (dVar 0) (dC (.int 2))) (dVar 4))) (dC (.str " = "))) (dVar 6)) dNil)))
def q4b(K:PySem.W.Frag)(a:Adr)(r:Nat->List W->FR):List S->SR:=
 (dSeq (dSet 5 (dOp ixW (dFz (dLst (dCons (dC (.str "no")) (dCons (dC (.str "yes")) dNil)))) (dFn int1 (dCons (dOp ixW (dOp ixW (dOp ixW (dVar 1) (dC (.int 1))) (dVar 4)) (dC (.int 0))) dNil))))
  (dSeq (dSet 6 (dCall (r q03) (dCons (dOp ixW (dOp ixW (dOp ixW (dVar 1) (dC (.int 1))) (dVar 4)) (dC (.int 1))) (dCons (dVar 2) dNil))))
  (dApp 3 (dCons (dOp addX (dOp addX (dOp addX (dOp addX (dOp addX (dC (.str "held ")) (dOp ixW (dOp ixW (dVar 0) (dC (.int 1))) (dVar 4))) (dC (.str " "))) (dVar 5)) (dC (.str " = "))) (dVar 6)) dNil))))
def q4c(K:PySem.W.Frag)(a:Adr)(r:Nat->List W->FR):Den W:=
 (dOp addX (dC (.str " ")) (dVar 0))
def q5a(K:PySem.W.Frag)(a:Adr)(r:Nat->List W->FR):List S->SR:=
 (dSeq (dSet 2 (dOp addX (dOp ixW (dVar 0) (dC (.int 0))) (dOp ixW (dVar 0) (dC (.int 1)))))
  (dSeq (dSetO 3 (dLst (dCons (dOp addX (dC (.str "in")) (dMeth "str" joinW (dC (.str "")) (dCons (dFz (dComp [] (dOp ixW (dVar 0) (dC (.int 0))) dYes (q4c K a r))) dNil))) dNil)))
  (dSeq (dForR 4 rng1 (dCons (dFn len1 (dCons (dOp ixW (dVar 1) (dC (.int 1))) dNil)) dNil)
  (q4b K a r))
  (dSeq (dForR 4 rng1 (dCons (dFn len1 (dCons (dOp ixW (dVar 1) (dC (.int 2))) dNil)) dNil)
  (q4a K a r))
  (dRetO 3)))))
def q4d(K:PySem.W.Frag)(a:Adr)(r:Nat->List W->FR):List S->SR:=
 (dSeq (dSet 4 (dOp modW (dCall (r q1g) (dCons (dVar 1) (dCons (dVar 3) dNil))) (dC (.int 6))))
  (dSeq (dIfS (dTest (dOp eq2 (dVar 4) (dC (.int 1))))
  (dApp 2 (dCons (dC (.str "   ")) dNil))
  dNx)
  (dSeq (dIfS (dTest (dOp eq2 (dVar 4) (dC (.int 2))))
  (dSetO 2 (dCat (dVar 2) (dFz (dLst (dCons (dC (.str "")) (dCons (dC (.str "")) dNil))))))
  dNx)
  (dSeq (dSet 5 (dOp ixW (dVar 0) (dVar 3)))
  (dSeq (dIfS (dOr (dTest (dOp eq2 (dVar 4) (dC (.int 3)))) (dTest (dOp eq2 (dVar 4) (dC (.int 2)))))
  (dSet 5 (dOp addX (dOp addX (dC (.str "  ")) (dUn (rplW " " "   ") (dVar 5))) (dC (.str " "))))
  dNx)
  (dSeq (dIfP 4 4 5 (dUn (rplW " = " "=") (dVar 5)))
  (dSeq (dIfP 4 5 5 (dUn (rplW ")" "  )") (dUn (rplW "(" " ( ") (dVar 5))))
  (dApp 2 (dCons (dVar 5) dNil)))))))))
def q5b(K:PySem.W.Frag)(a:Adr)(r:Nat->List W->FR):List S->SR:=
 (dSeq (dSetO 2 (dLst dNil))
  (dSeq (dForR 3 rng1 (dCons (dFn len1 (dCons (dVar 0) dNil)) dNil)
  (q4d K a r))
  (dRetO 2)))
def q7j(K:PySem.W.Frag)(a:Adr)(r:Nat->List W->FR):List S->SR:=
 (dSeq (dSet 6 (dCall (r q2y) (dCons (dVar 4) dNil)))
  (dIfS (dOr (dNot (dTru (dIsi K (.type "tuple") (dVar 6)))) (dOr (dTest (dOp ne2 (dFn len1 (dCons (dVar 6) dNil)) (dC (.int 2)))) (dOr (dTest (dOp ne2 (dOp ixW (dVar 6) (dC (.int 0))) (dVar 2))) (dTest (dOp ne2 (dOp ixW (dVar 6) (dC (.int 1))) (dVar 1))))))
  (dRet (dC (.bl false)))
  dNx))
def x30(K:PySem.W.Frag)(a:Adr)(r:Nat->List W->FR):List S->SR:=
 (dSeq (dSet 1 (dCall (r q1w) (dCons (dVar 0) (dCons (dC (.int 5)) dNil))))
  (dSeq (dSet 2 (dCall (r q20) (dCons (dVar 0) (dCons (dVar 1) dNil))))
  (dSeq (dSet 3 (dCall (r q3v) (dCons (dVar 2) (dCons (dVar 1) dNil))))
  (dSeq (dIfS (dTest (dOp eq2 (dOp modW (dCall (r q0z) (dCons (dVar 0) (dCons (dC (.int 10)) dNil))) (dC (.int 2))) (dC (.int 1))))
  (dSet 3 (dCall (r q21) (dCons (dVar 3) (dCons (dCall (r q0z) (dCons (dVar 0) (dCons (dC (.int 10)) dNil))) dNil))))
  dNx)
  (dSeq (dSet 4 (dOp addX (dMeth "str" joinW (dC (.str "\n")) (dCons (dVar 3) dNil)) (dOp ixW (dFz (dLst (dCons (dC (.str "")) (dCons (dC (.str "\n")) (dCons (dC (.str "\n \n")) dNil))))) (dOp modW (dCall (r q0z) (dCons (dVar 0) (dCons (dC (.int 11)) dNil))) (dC (.int 3))))))
  (dSeq (dIfS (dTest (dOp nisW (dCall (r q2j) (dCons (dVar 4) dNil)) (dC .non)))
  (dRet (dC (.bl false)))
  dNx)
  (dSeq (dForR 5 rng1 (dCons (dC (.int 2)) dNil)
  (q7j K a r))
  (dRet (dAndV (dIsi K (.type "tuple") (dOp ixW (dOp ixW (dVar 6) (dC (.int 0))) (dC (.int 0)))) (dIsi K (.type "tuple") (dOp ixW (dOp ixW (dVar 6) (dC (.int 1))) (dC (.int 1)))))))))))))
def body(K:PySem.W.Frag)(a:Adr)(r:Nat->List W->FR)(ws:List W):Nat->FR
 |0=>if ws.length=2 then(x1c K a r (init 5 ws)).fn else .no
 |1=>if ws.length=2 then(q9m K a r (init 3 ws)).fn else .no
 |2=>if ws.length=1 then(q27 K a r (init 4 ws)).fn else .no
 |3=>if ws.length=1 then(q65 K a r (init 1 ws)).fn else .no
 |4=>if ws.length=1 then(q2r K a r (init 1 ws)).fn else .no
 |5=>if ws.length=1 then(q5y K a r (init 4 ws)).fn else .no
 |6=>if ws.length=2 then(q35 K a r (init 3 ws)).fn else .no
 |7=>if ws.length=3 then(q4l K a r (init 8 ws)).fn else .no
 |8=>if ws.length=3 then(q5z K a r (init 3 ws)).fn else .no
 |9=>if ws.length=2 then(q44 K a r (init 2 ws)).fn else .no
 |10=>if ws.length=2 then(q3a K a r (init 6 ws)).fn else .no
 |11=>if ws.length=3 then(q7y K a r (initM 5 ws)).fm else .no
 |12=>if ws.length=2 then(q46 K a r (init 2 ws)).fn else .no
 |13=>if ws.length=1 then(q47 K a r (init 6 ws)).fn else .no
 |14=>if ws.length=1 then(q50 K a r (init 4 ws)).fn else .no
 |15=>if ws.length=1 then(q3b K a r (init 5 ws)).fn else .no
 |16=>if ws.length=1 then(q6h K a r (init 1 ws)).fn else .no
 |17=>if ws.length=2 then(q4m K a r (init 5 ws)).fn else .no
 |18=>if ws.length=2 then(q51 K a r (init 7 ws)).fn else .no
 |19=>if ws.length=2 then(q6i K a r (init 4 ws)).fn else .no
 |20=>if ws.length=2 then(q37 K a r (init 2 ws)).fn else .no
 |21=>if ws.length=2 then(q48 K a r (init 2 ws)).fn else .no
 |22=>if ws.length=2 then(q38 K a r (init 2 ws)).fn else .no
 |23=>if ws.length=2 then(q39 K a r (init 9 ws)).fn else .no
 |24=>if ws.length=2 then(q3m K a r (init 10 ws)).fn else .no
 |25=>if ws.length=2 then(q2u K a r (init 13 ws)).fn else .no
 |26=>if ws.length=2 then(q49 K a r (init 4 ws)).fn else .no
 |27=>if ws.length=2 then(q2p K a r (init 3 ws)).fn else .no
 |28=>if ws.length=2 then(q5a K a r (init 7 ws)).fn else .no
 |29=>if ws.length=2 then(q5b K a r (init 6 ws)).fn else .no
 |30=>if ws.length=1 then(x30 K a r (init 7 ws)).fn else .no
 |_=>.no
def run(K:PySem.W.Frag)(a:Adr):Nat->Nat->List W->FR
 |0,_,_=>.no
 |n+1,i,ws=>body K a (run K a n) ws i
theorem x0d:run K a (n+1) q8x ws=if ws.length=2 then(x1c K a (run K a n) (init 5 ws)).fn else .no:=rfl
theorem q81:run K a (n+1) q7h ws=if ws.length=2 then(q9m K a (run K a n) (init 3 ws)).fn else .no:=rfl
theorem q3x:run K a (n+1) q1k ws=if ws.length=1 then(q27 K a (run K a n) (init 4 ws)).fn else .no:=rfl
theorem q7b:run K a (n+1) q4x ws=if ws.length=1 then(q65 K a (run K a n) (init 1 ws)).fn else .no:=rfl
theorem q3i:run K a (n+1) q1i ws=if ws.length=1 then(q2r K a (run K a n) (init 1 ws)).fn else .no:=rfl
theorem q6d:run K a (n+1) q3g ws=if ws.length=1 then(q5y K a (run K a n) (init 4 ws)).fn else .no:=rfl
theorem q4q:run K a (n+1) q2x ws=if ws.length=2 then(q35 K a (run K a n) (init 3 ws)).fn else .no:=rfl
theorem q5c:run K a (n+1) q2a ws=if ws.length=3 then(q4l K a (run K a n) (init 8 ws)).fn else .no:=rfl
theorem q6e:run K a (n+1) q4f ws=if ws.length=3 then(q5z K a (run K a n) (init 3 ws)).fn else .no:=rfl
theorem q5m:run K a (n+1) q3t ws=if ws.length=2 then(q44 K a (run K a n) (init 2 ws)).fn else .no:=rfl
theorem q3y:run K a (n+1) q10 ws=if ws.length=2 then(q3a K a (run K a n) (init 6 ws)).fn else .no:=rfl
theorem q7z:run K a (n+1) q4n ws=if ws.length=3 then(q7y K a (run K a n) (initM 5 ws)).fm else .no:=rfl
theorem q5n:run K a (n+1) q3u ws=if ws.length=2 then(q46 K a (run K a n) (init 2 ws)).fn else .no:=rfl
theorem q5o:run K a (n+1) q2y ws=if ws.length=1 then(q47 K a (run K a n) (init 6 ws)).fn else .no:=rfl
theorem q6f:run K a (n+1) q2j ws=if ws.length=1 then(q50 K a (run K a n) (init 4 ws)).fn else .no:=rfl
theorem q3z:run K a (n+1) q1l ws=if ws.length=1 then(q3b K a (run K a n) (init 5 ws)).fn else .no:=rfl
theorem q60:run K a (n+1) q34 ws=if ws.length=1 then(q6h K a (run K a n) (init 1 ws)).fn else .no:=rfl
theorem q5d:run K a (n+1) q00 ws=if ws.length=2 then(q4m K a (run K a n) (init 5 ws)).fn else .no:=rfl
theorem q6g:run K a (n+1) q4g ws=if ws.length=2 then(q51 K a (run K a n) (init 7 ws)).fn else .no:=rfl
theorem q61:run K a (n+1) q1x ws=if ws.length=2 then(q6i K a (run K a n) (init 4 ws)).fn else .no:=rfl
theorem q4r:run K a (n+1) q0z ws=if ws.length=2 then(q37 K a (run K a n) (init 2 ws)).fn else .no:=rfl
theorem q5p:run K a (n+1) q1g ws=if ws.length=2 then(q48 K a (run K a n) (init 2 ws)).fn else .no:=rfl
theorem q4s:run K a (n+1) q1z ws=if ws.length=2 then(q38 K a (run K a n) (init 2 ws)).fn else .no:=rfl
theorem q4t:run K a (n+1) q2z ws=if ws.length=2 then(q39 K a (run K a n) (init 9 ws)).fn else .no:=rfl
theorem q4e:run K a (n+1) q2f ws=if ws.length=2 then(q3m K a (run K a n) (init 10 ws)).fn else .no:=rfl
theorem q3j:run K a (n+1) q1w ws=if ws.length=2 then(q2u K a (run K a n) (init 13 ws)).fn else .no:=rfl
theorem q5q:run K a (n+1) q20 ws=if ws.length=2 then(q49 K a (run K a n) (init 4 ws)).fn else .no:=rfl
theorem q2d:run K a (n+1) q03 ws=if ws.length=2 then(q2p K a (run K a n) (init 3 ws)).fn else .no:=rfl
theorem q5r:run K a (n+1) q3v ws=if ws.length=2 then(q5a K a (run K a n) (init 7 ws)).fn else .no:=rfl
theorem q5s:run K a (n+1) q21 ws=if ws.length=2 then(q5b K a (run K a n) (init 6 ws)).fn else .no:=rfl
theorem q7k:run K a (n+1) q9l ws=if ws.length=1 then(x30 K a (run K a n) (init 7 ws)).fn else .no:=rfl
section
variable{P:Program}{w:World}{base:Heap}
structure Ats(K:PySem.W.Frag)(mg:Str->Option Value):Prop where
 read:At K mg "read" q6z ["text", "names"]
 fault:At K mg "fault" q5h ["text", "names"]
 places_by_name:At K mg "places_by_name" q1a ["names"]
 is_name:At K mg "is_name" q22 ["name"]
 is_small_letter:At K mg "is_small_letter" q05 ["sign"]
 pieces_of:At K mg "pieces_of" q2k ["text"]
 end_of_piece:At K mg "end_of_piece" q1m ["text", "place"]
 first_fault:At K mg "first_fault" q1u ["pieces", "places", "length"]
 can_begin:At K mg "can_begin" q2l ["piece", "brackets", "places"]
 can_follow:At K mg "can_follow" q11 ["piece", "brackets"]
 form_of_pieces:At K mg "form_of_pieces" q1b ["pieces", "places"]
 settle:At K mg "settle" q4o ["forms", "waiting", "least"]
 plain_form:At K mg "plain_form" q12 ["piece", "places"]
 read_sheet:At K mg "read_sheet" q09 ["text"]
 fault_row:At K mg "fault_row" q2m ["text"]
 standing_parts:At K mg "standing_parts" q1c ["rows"]
 words_in:At K mg "words_in" q2g ["text"]
 part_of_row:At K mg "part_of_row" q1v ["row", "number"]
 can_stand:At K mg "can_stand" q2n ["part", "ahead"]
 names_of:At K mg "names_of" q26 ["parts", "word"]
 _law_cell_at:At K mg "_law_cell_at" q1n ["_law_script", "_law_k"]
 _law_mixed:At K mg "_law_mixed" q13 ["_law_cell", "_law_k"]
 _law_leaf_by:At K mg "_law_leaf_by" q1o ["_law_cell", "_law_many"]
 _law_form_by:At K mg "_law_form_by" q1p ["_law_cells", "_law_many"]
 _law_names_by:At K mg "_law_names_by" q06 ["_law_cell", "_law_count"]
 _law_circuit_by:At K mg "_law_circuit_by" q0w ["_law_script", "_law_most"]
 _law_three:At K mg "_law_three" q14 ["_law_script", "_law_circuit"]
 _law_text:At K mg "_law_text" q2o ["_law_form", "_law_names"]
 _law_lines:At K mg "_law_lines" q1t ["_law_names", "_law_circuit"]
 _law_loose:At K mg "_law_loose" q15 ["_law_lines_here", "_law_cell"]
 law:At K mg "law" q4k ["_law_script"]
structure Cals(P:Program)(w:World)(K:PySem.W.Frag)(mg:Str->Option Value)(base:Heap)(a:Adr)(n:Nat):Prop where
 read:Cal P w K mg base n "read" ["text", "names"] (spF K (run K a n q8x))
 fault:Cal P w K mg base n "fault" ["text", "names"] (spF K (run K a n q7h))
 places_by_name:Cal P w K mg base n "places_by_name" ["names"] (spF K (run K a n q1k))
 is_name:Cal P w K mg base n "is_name" ["name"] (spF K (run K a n q4x))
 is_small_letter:Cal P w K mg base n "is_small_letter" ["sign"] (spF K (run K a n q1i))
 pieces_of:Cal P w K mg base n "pieces_of" ["text"] (spF K (run K a n q3g))
 end_of_piece:Cal P w K mg base n "end_of_piece" ["text", "place"] (spF K (run K a n q2x))
 first_fault:Cal P w K mg base n "first_fault" ["pieces", "places", "length"] (spF K (run K a n q2a))
 can_begin:Cal P w K mg base n "can_begin" ["piece", "brackets", "places"] (spF K (run K a n q4f))
 can_follow:Cal P w K mg base n "can_follow" ["piece", "brackets"] (spF K (run K a n q3t))
 form_of_pieces:Cal P w K mg base n "form_of_pieces" ["pieces", "places"] (spF K (run K a n q10))
 settle:Cal P w K mg base n "settle" ["forms", "waiting", "least"] (spM K (run K a n q4n))
 plain_form:Cal P w K mg base n "plain_form" ["piece", "places"] (spF K (run K a n q3u))
 read_sheet:Cal P w K mg base n "read_sheet" ["text"] (spF K (run K a n q2y))
 fault_row:Cal P w K mg base n "fault_row" ["text"] (spF K (run K a n q2j))
 standing_parts:Cal P w K mg base n "standing_parts" ["rows"] (spF K (run K a n q1l))
 words_in:Cal P w K mg base n "words_in" ["text"] (spF K (run K a n q34))
 part_of_row:Cal P w K mg base n "part_of_row" ["row", "number"] (spF K (run K a n q00))
 can_stand:Cal P w K mg base n "can_stand" ["part", "ahead"] (spF K (run K a n q4g))
 names_of:Cal P w K mg base n "names_of" ["parts", "word"] (spF K (run K a n q1x))
 _law_cell_at:Cal P w K mg base n "_law_cell_at" ["_law_script", "_law_k"] (spF K (run K a n q0z))
 _law_mixed:Cal P w K mg base n "_law_mixed" ["_law_cell", "_law_k"] (spF K (run K a n q1g))
 _law_leaf_by:Cal P w K mg base n "_law_leaf_by" ["_law_cell", "_law_many"] (spF K (run K a n q1z))
 _law_form_by:Cal P w K mg base n "_law_form_by" ["_law_cells", "_law_many"] (spF K (run K a n q2z))
 _law_names_by:Cal P w K mg base n "_law_names_by" ["_law_cell", "_law_count"] (spF K (run K a n q2f))
 _law_circuit_by:Cal P w K mg base n "_law_circuit_by" ["_law_script", "_law_most"] (spF K (run K a n q1w))
 _law_three:Cal P w K mg base n "_law_three" ["_law_script", "_law_circuit"] (spF K (run K a n q20))
 _law_text:Cal P w K mg base n "_law_text" ["_law_form", "_law_names"] (spF K (run K a n q03))
 _law_lines:Cal P w K mg base n "_law_lines" ["_law_names", "_law_circuit"] (spF K (run K a n q3v))
 _law_loose:Cal P w K mg base n "_law_loose" ["_law_lines_here", "_law_cell"] (spF K (run K a n q21))
 law:Cal P w K mg base n "law" ["_law_script"] (spF K (run K a n q9l))
structure CalsH(P:Program)(w:World)(K:PySem.W.Frag)(mg:Str->Option Value)(base:Heap)(a:Adr)(n:Nat):Prop where
 z:True
section
variable(B:Blt P w K mg)(M:Exs K mg a)(C:Cals P w K mg base a n)(CH:CalsH P w K mg base a n)
theorem lof{c:Prop} [Decidable c]{x r:FR}(e:r=if c then x else .no)(h:r≠.no):c/\x=r:=by
 rw[e]at h |-;split at h
 ·rename_i hl;rw[if_pos hl];exact⟨hl,rfl⟩
 ·exact absurd rfl h
include B M C CH
theorem y84  (A:Ats K mg):Cal P w K mg base (n+1) "read" ["text", "names"] (spF K (run K a (n+1) q8x)):=
 con A.read sc_read (fun ws hw=>(lof x0d hw).1) fun ws hw f cdv A outer s H E Z hr=>⟨x1c K a (run K a n),(q0c (q0i 2 sc_read.nd (q0m C.places_by_name hr pass1 (q0a (dv 1) q0b)))
  (q0c (q0i 3 sc_read.nd (q0m C.pieces_of hr pass1 (q0a (dv 0) q0b)))
  (q0c (q0i 4 sc_read.nd (q0m C.first_fault hr pass1 (q0a (dv 3) (q0a (dv 2) (q0a (q02 B.b_len (q0a (dv 0) q0b)) q0b)))))
  (q0c (q0r (q8p (dv 4) q42)
  (q0e q7v)
  q0p)
  (q0e (q0q (q0m C.form_of_pieces hr pass1 (q0a (dv 3) (q0a (dv 2) q0b))))))))),(lof x0d hw).2⟩
theorem y38  (A:Ats K mg):Cal P w K mg base (n+1) "fault" ["text", "names"] (spF K (run K a (n+1) q7h)):=
 con A.fault sc_fault (fun ws hw=>(lof q81 hw).1) fun ws hw f cdv A outer s H E Z hr=>⟨q9m K a (run K a n),(q0c (q0i 2 sc_fault.nd (q0m C.places_by_name hr pass1 (q0a (dv 1) q0b)))
  (q0e (q0q (q0m C.first_fault hr pass1 (q0a (q0m C.pieces_of hr pass1 (q0a (dv 0) q0b)) (q0a (dv 2) (q0a (q02 B.b_len (q0a (dv 0) q0b)) q0b))))))),(lof q81 hw).2⟩
theorem q9v  (A:Ats K mg):Cal P w K mg base (n+1) "places_by_name" ["names"] (spF K (run K a (n+1) q1k)):=
 con A.places_by_name sc_places_by_name (fun ws hw=>(lof q3x hw).1) fun ws hw f cdv A outer s H E Z hr=>⟨q27 K a (run K a n),(q0c (y73 1 sc_places_by_name.nd)
  (q0c (q9i 2 3 sc_places_by_name.nd PassesOwn.leaving rfl (y3t B.b_enumerate (q0a (dv 0) q0b))
  (q0c (q0r (q8l (q55 (q0m C.is_name hr pass1 (q0a (dv 3) q0b))))
  (q0e q7v)
  q0p)
  (q0c (q0r (x2v fun _=>(z23 (q0h hr) (dv 3) (dv 1)))
  (q0e q7v)
  q0p)
  (q0e (y76 1 (q0h hr) (dv 2) (dv 3))))))
  (q0e (y74 1)))),(lof q3x hw).2⟩
theorem x78  (A:Ats K mg):Cal P w K mg base (n+1) "is_name" ["name"] (spF K (run K a (n+1) q4x)):=
 con A.is_name x77 (fun ws hw=>(lof q7b hw).1) fun ws hw f cdv A outer s H E Z hr=>⟨q65 K a (run K a n),(q0c (q0r (dt_w (q4i (q9e (q02 B.b_len (q0a (dv 0) q0b)) q0d) (q4i (q7t (q02 B.b_len (q0a (dv 0) q0b)) (q2v M.m_LONGEST_NAME M.g_LONGEST_NAME)) (q56 (q9h (q0h hr) (dv 0) (q2v M.m_WORDS M.g_WORDS))))))
  (q0e (q0q q5x))
  q0p)
  (q0e (q0q (z2j rfl B.b_all (q0a (q3l (y3r (x:="sign") (Nf:=[]) (js:=[]) (sc:=defScope q22) (N:=["name"]) rfl (dv 0) (by decide +kernel)
   (fun _ _ _ _ _ _=>q6m)
   (fun _ _ _ _ _ _=>(q0m C.is_small_letter hr passE (q0a (dv 0) q0b)))
   (fun _ _ _ _ _=>q2q 0 (show(["sign"]:List Str).Nodup by decide +kernel)))) q0b))))),(lof q7b hw).2⟩
theorem q82  (A:Ats K mg):Cal P w K mg base (n+1) "is_small_letter" ["sign"] (spF K (run K a (n+1) q1i)):=
 con A.is_small_letter q8y (fun ws hw=>(lof q3i hw).1) fun ws hw f cdv A outer s H E Z hr=>⟨q2r K a (run K a n),(q0e (q0q (x9b (x91 q0g (dv 0)) (x0y (x91 (dv 0) q0g))))),(lof q3i hw).2⟩
theorem x5b  (A:Ats K mg):Cal P w K mg base (n+1) "pieces_of" ["text"] (spF K (run K a (n+1) q3g)):=
 con A.pieces_of sc_pieces_of (fun ws hw=>(lof q6d hw).1) fun ws hw f cdv A outer s H E Z hr=>⟨q5y K a (run K a n),(q0c (q3p 1 sc_pieces_of.nd (q08 q0b))
  (q0c (q0i 2 sc_pieces_of.nd q0d)
  (q0c (q97 1000000 PassesOwn.leaving (q9e (dv 2) (q02 B.b_len (q0a (dv 0) q0b)))
  (q0c (q0i 3 sc_pieces_of.nd (q0m C.end_of_piece hr pass1 (q0a (dv 0) (q0a (dv 2) q0b))))
  (q0c (q0r (q7u (q0h hr) (q0l (dv 0) (dv 2)) q0g)
  (q0e (q1r 1 (q0a (q01 (q0a (dv 2) (q0a (q1s (dv 0) (q1y (dv 2)) (q1y (dv 3))) q0b))) q0b)))
  q0p)
  (q0e (q0i 2 sc_pieces_of.nd (dv 3))))))
  (q0e (q9b 1))))),(lof q6d hw).2⟩
theorem x1d  (A:Ats K mg):Cal P w K mg base (n+1) "end_of_piece" ["text", "place"] (spF K (run K a (n+1) q2x)):=
 con A.end_of_piece sc_end_of_piece (fun ws hw=>(lof q4q hw).1) fun ws hw f cdv A outer s H E Z hr=>⟨q35 K a (run K a n),(q0c (q0i 2 sc_end_of_piece.nd (dv 1))
  (q0c (q97 1000000 PassesOwn.leaving (dt_w (q3n (q9e (dv 2) (q02 B.b_len (q0a (dv 0) q0b))) (q4v (q55 (q0m C.is_small_letter hr pass1 (q0a (q0l (dv 0) (dv 2)) q0b))))))
  (q0e (q0i 2 sc_end_of_piece.nd (q0n (dv 2) q0d))))
  (q0e (q0q (y7j rfl B.b_max (q0a (dv 2) (q0a (q0n (dv 1) q0d) q0b))))))),(lof q4q hw).2⟩
theorem x16  (A:Ats K mg):Cal P w K mg base (n+1) "first_fault" ["pieces", "places", "length"] (spF K (run K a (n+1) q2a)):=
 con A.first_fault sc_first_fault (fun ws hw=>(lof q5c hw).1) fun ws hw f cdv A outer s H E Z hr=>⟨q4l K a (run K a n),(q0c (q0i 3 sc_first_fault.nd q5x)
  (q0c (q0i 4 sc_first_fault.nd q0d)
  (q0c (q9i 5 6 sc_first_fault.nd PassesOwn.leaving rfl (x4v (dv 0))
  (q0c (q0r (q55 (dv 3))
  (q0e (q0i 7 sc_first_fault.nd (q0m C.can_begin hr pass1 (q0a (dv 6) (q0a (dv 4) (q0a (dv 1) q0b))))))
  (q0e (q0i 7 sc_first_fault.nd (q0m C.can_follow hr pass1 (q0a (dv 6) (q0a (dv 4) q0b))))))
  (q0c (q0r (q8l (q55 (dv 7)))
  (q0e (q0q (dv 5)))
  q0p)
  (q0e (q0r (q0s (q0h hr) (dv 6) q0g)
  (q0e (q0i 4 sc_first_fault.nd (q0n (dv 4) q0d)))
  (q0e (q0r (q0s (q0h hr) (dv 6) q0g)
  (q0e (q0i 4 sc_first_fault.nd (x9m (dv 4) q0d)))
  (q0e (q0i 3 sc_first_fault.nd (y5a (x3v (q0h hr) (dv 6) q0g) (x0y (x7x (q0h hr) (dv 6) (q2v M.m_JOINING M.g_JOINING)))))))))))))
  (q0c (q0r (dt_w (q4i (q55 (dv 3)) (q56 (q7t (dv 4) q0d))))
  (q0e (q0q (dv 2)))
  q0p)
  (q0e (q0q q42)))))),(lof q5c hw).2⟩
theorem x5c  (A:Ats K mg):Cal P w K mg base (n+1) "can_begin" ["piece", "brackets", "places"] (spF K (run K a (n+1) q4f)):=
 con A.can_begin x5a (fun ws hw=>(lof q6e hw).1) fun ws hw f cdv A outer s H E Z hr=>⟨q5z K a (run K a n),(q0c (q0r (q0s (q0h hr) (dv 0) q0g)
  (q0e (q0q (z4l (dv 1) (q2v M.m_MOST_BRACKETS M.g_MOST_BRACKETS))))
  q0p)
  (q0e (q0q (y5a (x7x (q0h hr) (dv 0) (q01 (q0a q0g (q0a q0g (q0a q0g q0b))))) (x0y (z22 (q0h hr) (dv 0) (dv 2))))))),(lof q6e hw).2⟩
theorem x3j  (A:Ats K mg):Cal P w K mg base (n+1) "can_follow" ["piece", "brackets"] (spF K (run K a (n+1) q3t)):=
 con A.can_follow x3g (fun ws hw=>(lof q5m hw).1) fun ws hw f cdv A outer s H E Z hr=>⟨q44 K a (run K a n),(q0c (q0r (q0s (q0h hr) (dv 0) q0g)
  (q0e (q0q (z4m (dv 1) q0d)))
  q0p)
  (q0e (q0q (x7x (q0h hr) (dv 0) (q2v M.m_JOINING M.g_JOINING))))),(lof q5m hw).2⟩
theorem q9w  (A:Ats K mg):Cal P w K mg base (n+1) "form_of_pieces" ["pieces", "places"] (spF K (run K a (n+1) q10)):=
 con A.form_of_pieces sc_form_of_pieces (fun ws hw=>(lof q3y hw).1) fun ws hw f cdv A outer s H E Z hr=>⟨q3a K a (run K a n),(q0c (q3p 2 sc_form_of_pieces.nd (q08 q0b))
  (q0c (q3p 3 sc_form_of_pieces.nd (q08 q0b))
  (q0c (q9i 4 5 sc_form_of_pieces.nd PassesOwn.leaving rfl (x4v (dv 0))
  (q0e (q0r (dt_w (q4i (q0s (q0h hr) (dv 5) q0g) (q56 (q0s (q0h hr) (dv 5) q0g))))
  (q0e (q1r 3 (q0a (dv 5) q0b)))
  (q0e (q0r (q0s (q0h hr) (dv 5) q0g)
  (q0c (x15 2 3 (by decide) C.settle hr pass1 (q0a (q2v M.m_LOOSEST_WORD M.g_LOOSEST_WORD) q0b))
  (q0e (y6f (q6v 3))))
  (q0e (q0r (q9h (q0h hr) (dv 5) (q2v M.m_JOINING M.g_JOINING))
  (q0c (x15 2 3 (by decide) C.settle hr pass1 (q0a (q8u B.t_TIGHTNESS (dv 5)) q0b))
  (q0e (q1r 3 (q0a (dv 5) q0b))))
  (q0e (q1r 2 (q0a (q0m C.plain_form hr pass1 (q0a (dv 5) (q0a (dv 1) q0b))) q0b))))))))))
  (q0c (x15 2 3 (by decide) C.settle hr pass1 (q0a (q2v M.m_LOOSEST_WORD M.g_LOOSEST_WORD) q0b))
  (q0e (q0q (x01 2 q0d))))))),(lof q3y hw).2⟩
theorem y0y  (A:Ats K mg):Cal P w K mg base (n+1) "settle" ["forms", "waiting", "least"] (spM K (run K a (n+1) q4n)):=
 conM2 A.settle sc_settle (fun ws hw=>(lof q7z hw).1) fun ws hw f cdv A outer s H E Z hr=>⟨q7y K a (run K a n),(q0e (q97 1000000 PassesOwn.leaving (dt_w (q3n (q7t (q9f 1 B.b_len) q0d) (q4v (z4n (q8u B.t_TIGHTNESS (x01 1 (x9n q0d))) (dv 2)))))
  (q0c (q0i 3 sc_settle.nd (q6v 1))
  (q0c (q0i 4 sc_settle.nd (q6v 0))
  (q0e (q0r (q0s (q0h hr) (dv 3) q0g)
  (q0e (q1r 0 (q0a (q01 (q0a q0g (q0a (dv 4) q0b))) q0b)))
  (q0e (q1r 0 (q0a (q01 (q0a (dv 3) (q0a (q6v 0) (q0a (dv 4) q0b)))) q0b))))))))),(lof q7z hw).2⟩
theorem x3k  (A:Ats K mg):Cal P w K mg base (n+1) "plain_form" ["piece", "places"] (spF K (run K a (n+1) q3u)):=
 con A.plain_form x3h (fun ws hw=>(lof q5n hw).1) fun ws hw f cdv A outer s H E Z hr=>⟨q46 K a (run K a n),(q0c (q0r (q0s (q0h hr) (dv 0) q0g)
  (q0e (q0q (q01 (q0a q0g (q0a q5x q0b)))))
  q0p)
  (q0c (q0r (q0s (q0h hr) (dv 0) q0g)
  (q0e (q0q (q01 (q0a q0g (q0a q5x q0b)))))
  q0p)
  (q0e (q0q (q01 (q0a q0g (q0a (z24 (q0h hr) (dv 1) (dv 0)) q0b))))))),(lof q5n hw).2⟩
theorem x3l  (A:Ats K mg):Cal P w K mg base (n+1) "read_sheet" ["text"] (spF K (run K a (n+1) q2y)):=
 con A.read_sheet sc_read_sheet (fun ws hw=>(lof q5o hw).1) fun ws hw f cdv A outer s H E Z hr=>⟨q47 K a (run K a n),(q0c (q0r (q8p (q0m C.fault_row hr pass1 (q0a (dv 0) q0b)) q42)
  (q0e q7v)
  q0p)
  (q0c (q0i 1 sc_read_sheet.nd (q0l (q0m C.standing_parts hr pass1 (q0a (x0c (dv 0) (q0a q0g q0b)) q0b)) q0d))
  (q0c (q0i 2 sc_read_sheet.nd (q3q B.b_tuple (q0a (q3l (x1v (x:="word") (Nf:=["parts"]) (js:=[1]) (sc:=defScope q09) (N:=["text", "parts", "names", "forms", "firsts", "cells"]) rfl (q2v M.m_ROW_WORDS M.g_ROW_WORDS) (by decide +kernel)
   (fun _ _ _ _ _ _=>q6m)
   (fun _ _ _ _ _ _=>(q0m C.names_of hr passE (q0a (dv 1) (q0a (dv 0) q0b))))
   (fun _ _ _ _ _=>q2q 0 (show(["word", "parts"]:List Str).Nodup by decide +kernel)))) q0b)))
  (q0c (x02 3 sc_read_sheet.nd (x:="part") (Nf:=["names"]) (js:=[2]) (sc:=defScope q09) (N:=["text", "parts", "names", "forms", "firsts", "cells"]) rfl (dv 1) (by decide +kernel)
   (fun _ _ _ _ _ _=>(x1u (q7u (q0h hr) (q2w (q0h hr) (dv 0) q0g) q0g)))
   (fun _ _ _ _ _ _=>(q0m C.read hr passE (q0a (q2w (q0h hr) (dv 0) q0g) (q0a (q0n (q0l (dv 1) q0d) (q0l (dv 1) q0d)) q0b))))
   (fun _ _ _ _ _=>q2q 0 (show(["part", "names"]:List Str).Nodup by decide +kernel)))
  (q0c (x02 4 sc_read_sheet.nd (x:="part") (Nf:=[]) (js:=[]) (sc:=defScope q09) (N:=["text", "parts", "names", "forms", "firsts", "cells"]) rfl (dv 1) (by decide +kernel)
   (fun _ _ _ _ _ _=>(x1u (q0s (q0h hr) (q2w (q0h hr) (dv 0) q0g) q0g)))
   (fun _ _ _ _ _ _=>(x3v (q0h hr) (q2w (q0h hr) (dv 0) q0g) q0g))
   (fun _ _ _ _ _=>q2q 0 (show(["part"]:List Str).Nodup by decide +kernel)))
  (q0c (q0i 5 sc_read_sheet.nd (q02 B.b_len (q0a (dv 4) q0b)))
  (q0e (q0q (q01 (q0a (dv 2) (q0a (q01 (q0a (q02 B.b_len (q0a (q0l (dv 2) q0d) q0b)) (q0a (y0v rfl B.b_tuple B.b_zip (q0a (dv 4) (q0a (q1s (dv 3) q33 (q1y (dv 5))) q0b))) (q0a (q3q B.b_tuple (q0a (q1s (dv 3) (q1y (dv 5)) q33) q0b)) q0b)))) q0b))))))))))),(lof q5o hw).2⟩
theorem x5d  (A:Ats K mg):Cal P w K mg base (n+1) "fault_row" ["text"] (spF K (run K a (n+1) q2j)):=
 con A.fault_row sc_fault_row (fun ws hw=>(lof q6f hw).1) fun ws hw f cdv A outer s H E Z hr=>⟨q50 K a (run K a n),(q0c (q0i 1 sc_fault_row.nd (q0m C.standing_parts hr pass1 (q0a (x0c (dv 0) (q0a q0g q0b)) q0b)))
  (q0c (q0r (q8p (q0l (dv 1) q0d) q42)
  (q0e (q0q (q0l (dv 1) q0d)))
  q0p)
  (q0c (q0i 2 sc_fault_row.nd (q0n (q0m C.names_of hr pass1 (q0a (q0l (dv 1) q0d) (q0a q0g q0b))) (q0m C.names_of hr pass1 (q0a (q0l (dv 1) q0d) (q0a q0g q0b)))))
  (q0c (q8m 3 sc_fault_row.nd PassesOwn.leaving rfl (q0l (dv 1) q0d)
  (q0e (q0r (dt_w (q3n (q7u (q0h hr) (q2w (q0h hr) (dv 3) q0g) q0g) (q4v (q8p (q0m C.fault hr pass1 (q0a (q2w (q0h hr) (dv 3) q0g) (q0a (dv 2) q0b))) q42))))
  (q0e (q0q (q2w (q0h hr) (dv 3) q0g)))
  q0p)))
  (q0e (q0q q42)))))),(lof q6f hw).2⟩
theorem q9x  (A:Ats K mg):Cal P w K mg base (n+1) "standing_parts" ["rows"] (spF K (run K a (n+1) q1l)):=
 con A.standing_parts sc_standing_parts (fun ws hw=>(lof q3z hw).1) fun ws hw f cdv A outer s H E Z hr=>⟨q3b K a (run K a n),(q0c (q3p 1 sc_standing_parts.nd (q08 q0b))
  (q0c (q9i 2 3 sc_standing_parts.nd PassesOwn.leaving rfl (y7p B.b_enumerate (q0a (dv 0) q0b))
  (q0e (q0r (q7t (q02 B.b_len (q0a (q0m C.words_in hr pass1 (q0a (dv 3) q0b)) q0b)) q0d)
  (q0c (y30 4 sc_standing_parts.nd C.part_of_row hr pass1 (q0a (dv 3) (q0a (dv 2) q0b)))
  (q0c (q0r (q8l (q55 (y0c fun _=>(q0m C.can_stand hr pass1 (q0a (dv 4) (q0a (dv 1) q0b))))))
  (q0e (q0q (q01 (q0a (dv 1) (q0a (dv 2) q0b)))))
  q0p)
  (q0e (q1r 1 (q0a (dv 4) q0b)))))
  q0p)))
  (q0e (q0q (q01 (q0a (dv 1) (q0a (y5b (q0s (q0h hr) (q9f 1 B.b_len) q0d) (q02 B.b_len (q0a (dv 0) q0b)) q42) q0b))))))),(lof q3z hw).2⟩
theorem x57  (A:Ats K mg):Cal P w K mg base (n+1) "words_in" ["text"] (spF K (run K a (n+1) q34)):=
 con A.words_in x56 (fun ws hw=>(lof q60 hw).1) fun ws hw f cdv A outer s H E Z hr=>⟨q6h K a (run K a n),(q0e (y6g (x1v (x:="word") (Nf:=[]) (js:=[]) (sc:=defScope q2g) (N:=["text"]) rfl (x0c (dv 0) (q0a q0g q0b)) (by decide +kernel)
   (fun _ _ _ _ _ _=>(x1u (q7u (q0h hr) (dv 0) q0g)))
   (fun _ _ _ _ _ _=>(dv 0))
   (fun _ _ _ _ _=>q2q 0 (show(["word"]:List Str).Nodup by decide +kernel))))),(lof q60 hw).2⟩
theorem x17  (A:Ats K mg):Cal P w K mg base (n+1) "part_of_row" ["row", "number"] (spF K (run K a (n+1) q00)):=
 con A.part_of_row sc_part_of_row (fun ws hw=>(lof q5d hw).1) fun ws hw f cdv A outer s H E Z hr=>⟨q4m K a (run K a n),(q0c (q0i 2 sc_part_of_row.nd (y8p (dv 0) (q0a q0g q0b)))
  (q0c (q0i 3 sc_part_of_row.nd (q0m C.words_in hr pass1 (q0a (q0l (dv 2) q0d) q0b)))
  (q0c (y36 4 ["row", "word", "names", "first", "form"] sc_part_of_row.nd (q19 (dv 1) (q19 q0g (q19 (q01 q0b) (q19 q42 (q19 (q0l (dv 2) q0d) x09))))))
  (q0c (q0r (dt_w (q3n (q0s (q0h hr) (q1s (dv 3) q33 (q1y q0d)) (q3l (q08 (q0a q0g q0b)))) (q4v (q0s (q0h hr) (q0l (dv 2) q0d) q0g))))
  (q0e (x47 4 ["word", "names"] (q19 q0g (q19 (q3q B.b_tuple (q0a (q1s (dv 3) (q1y q0d) q33) q0b)) x09))))
  (q0e (q0r (dt_w (q3n (q0s (q0h hr) (q1s (dv 3) q33 (q1y q0d)) (q3l (q08 (q0a q0g q0b)))) (q3n (q0s (q0h hr) (q0l (dv 2) q0d) q0g) (q3n (q0s (q0h hr) (q02 B.b_len (q0a (dv 3) q0b)) q0d) (q4v (q9h (q0h hr) (q0l (dv 3) q0d) (q2v M.m_FIRST_TRUTHS M.g_FIRST_TRUTHS)))))))
  (q0e (x47 4 ["word", "names", "first"] (q19 q0g (q19 (q01 (q0a (q0l (dv 3) q0d) q0b)) (q19 (q0l (dv 3) q0d) x09)))))
  (q0e (q0r (dt_w (q3n (q0s (q0h hr) (q1s (dv 3) q33 (q1y q0d)) (q3l (q08 (q0a q0g q0b)))) (q3n (q0s (q0h hr) (q0l (dv 2) q0d) q0g) (q4v (q0s (q0h hr) (q02 B.b_len (q0a (dv 3) q0b)) q0d)))))
  (q0e (x47 4 ["word", "names"] (q19 q0g (q19 (q01 (q0a (q0l (dv 3) q0d) q0b)) x09))))
  q0p)))))
  (q0e (y8t 4)))))),(lof q5d hw).2⟩
theorem x5e  (A:Ats K mg):Cal P w K mg base (n+1) "can_stand" ["part", "ahead"] (spF K (run K a (n+1) q4g)):=
 con A.can_stand sc_can_stand (fun ws hw=>(lof q6g hw).1) fun ws hw f cdv A outer s H E Z hr=>⟨q51 K a (run K a n),(q0c (q0i 2 sc_can_stand.nd (q2w (q0h hr) (dv 0) q0g))
  (q0c (q0i 3 sc_can_stand.nd (y5b (q7t (q02 B.b_len (q0a (dv 1) q0b)) q0d) (q2w (q0h hr) (q0l (dv 1) (x9n q0d)) q0g) q0g))
  (q0c (q0r (dt_w (q4i (x9y (q0h hr) (dv 2) (q2v M.m_ROW_WORDS M.g_ROW_WORDS)) (q56 (x9y (q0h hr) (dv 3) (y83 B.t_BEHIND (dv 2))))))
  (q0e (q0q q5x))
  q0p)
  (q0c (q0r (q7t (q02 B.b_len (q0a (q0n (q0m C.names_of hr pass1 (q0a (dv 1) (q0a (dv 2) q0b))) (q2w (q0h hr) (dv 0) q0g)) q0b)) (q8u B.t_MOST_NAMES (dv 2)))
  (q0e (q0q q5x))
  q0p)
  (q0c (q3p 4 sc_can_stand.nd (q08 q0b))
  (q0c (q8m 5 sc_can_stand.nd PassesOwn.leaving rfl (q2v M.m_ROW_WORDS M.g_ROW_WORDS)
  (q0e (z2m 4 (q0a (q0m C.names_of hr pass1 (q0a (dv 1) (q0a (dv 5) q0b))) q0b))))
  (q0c (q8m 6 sc_can_stand.nd PassesOwn.leaving rfl (q2w (q0h hr) (dv 0) q0g)
  (q0c (q0r (dt_w (q4i (x2v fun _=>(q9h (q0h hr) (dv 6) (dv 4))) (q4i (q9h (q0h hr) (dv 6) (q2v M.m_ROW_WORDS M.g_ROW_WORDS)) (q56 (q8l (q55 (q0m C.is_name hr pass1 (q0a (dv 6) q0b))))))))
  (q0e (q0q q5x))
  q0p)
  (q0e (q1r 4 (q0a (dv 6) q0b)))))
  (q0e (q0q q5x))))))))),(lof q6g hw).2⟩
theorem x58  (A:Ats K mg):Cal P w K mg base (n+1) "names_of" ["parts", "word"] (spF K (run K a (n+1) q1x)):=
 con A.names_of sc_names_of (fun ws hw=>(lof q61 hw).1) fun ws hw f cdv A outer s H E Z hr=>⟨q6i K a (run K a n),(q0c (q0i 2 sc_names_of.nd (q01 q0b))
  (q0c (q8m 3 sc_names_of.nd PassesOwn.leaving rfl (dv 0)
  (q0e (q0r (q0s (q0h hr) (q2w (q0h hr) (dv 3) q0g) (dv 1))
  (q0e (q0i 2 sc_names_of.nd (q0n (dv 2) (q2w (q0h hr) (dv 3) q0g))))
  q0p)))
  (q0e (q0q (dv 2))))),(lof q61 hw).2⟩
theorem x1e  (A:Ats K mg):Cal P w K mg base (n+1) "_law_cell_at" ["_law_script", "_law_k"] (spF K (run K a (n+1) q0z)):=
 con A._law_cell_at x1a (fun ws hw=>(lof q4r hw).1) fun ws hw f cdv A outer s H E Z hr=>⟨q37 K a (run K a n),(q0c (q0r (q9e (dv 1) (q02 B.b_len (q0a (dv 0) q0b)))
  (q0e (q0q (q0l (dv 0) (dv 1))))
  q0p)
  (q0e (q0q q0d))),(lof q4r hw).2⟩
theorem x3m  (A:Ats K mg):Cal P w K mg base (n+1) "_law_mixed" ["_law_cell", "_law_k"] (spF K (run K a (n+1) q1g)):=
 con A._law_mixed x3i (fun ws hw=>(lof q5p hw).1) fun ws hw f cdv A outer s H E Z hr=>⟨q48 K a (run K a n),(q0e (q0q (q0y (z0x (q0y (q0n (q8o (dv 0) q0d) (q8o (q0n (dv 1) q0d) q0d)) q0d) q0d) q0d))),(lof q5p hw).2⟩
theorem x1f  (A:Ats K mg):Cal P w K mg base (n+1) "_law_leaf_by" ["_law_cell", "_law_many"] (spF K (run K a (n+1) q1z)):=
 con A._law_leaf_by x1b (fun ws hw=>(lof q4s hw).1) fun ws hw f cdv A outer s H E Z hr=>⟨q38 K a (run K a n),(q0c (q0r (dt_w (q4i (q0s (q0h hr) (dv 1) q0d) (q56 (q0s (q0h hr) (q0y (dv 0) q0d) q0d))))
  (q0e (q0q (q01 (q0a q0g (q0a (x3v (q0h hr) (q0y (q18 (dv 0) q0d) q0d) q0d) q0b)))))
  q0p)
  (q0e (q0q (q01 (q0a q0g (q0a (q0y (q18 (dv 0) q0d) (dv 1)) q0b)))))),(lof q4s hw).2⟩
theorem x1g  (A:Ats K mg):Cal P w K mg base (n+1) "_law_form_by" ["_law_cells", "_law_many"] (spF K (run K a (n+1) q2z)):=
 con A._law_form_by sc__law_form_by (fun ws hw=>(lof q4t hw).1) fun ws hw f cdv A outer s H E Z hr=>⟨q39 K a (run K a n),(q0c (q3p 2 sc__law_form_by.nd (q08 (q0a (q0m C._law_leaf_by hr pass1 (q0a (q02 B.b_len (q0a (dv 0) q0b)) (q0a (dv 1) q0b))) q0b)))
  (q0c (q8m 3 sc__law_form_by.nd PassesOwn.leaving rfl (dv 0)
  (q0c (q0i 4 sc__law_form_by.nd (q0y (dv 3) q0d))
  (q0c (q0i 5 sc__law_form_by.nd (q18 (dv 3) q0d))
  (q0e (q0r (q0s (q0h hr) (dv 4) q0d)
  (q0e (q1r 2 (q0a (q01 (q0a q0g (q0a (q6v 2) q0b))) q0b)))
  (q0e (q0r (dt_w (q3n (q9e (dv 4) q0d) (q4v (q7t (q9f 2 B.b_len) q0d))))
  (q0c (q0i 6 sc__law_form_by.nd (q6v 2))
  (q0e (q1r 2 (q0a (q01 (q0a (q0l (q3l (q08 (q0a q0g (q0a q0g (q0a q0g q0b))))) (q0y (dv 5) q0d)) (q0a (q6v 2) (q0a (dv 6) q0b)))) q0b))))
  (q0e (q1r 2 (q0a (q0m C._law_leaf_by hr pass1 (q0a (dv 5) (q0a (dv 1) q0b))) q0b))))))))))
  (q0c (q0i 7 sc__law_form_by.nd (x01 2 q0d))
  (q0c (y6h 8 sc__law_form_by.nd PassesOwn.leaving rfl B.b_range (q0a q0d (q0a (q9f 2 B.b_len) q0b))
  (q0e (q0i 7 sc__law_form_by.nd (q01 (q0a (q0l (q3l (q08 (q0a q0g (q0a q0g (q0a q0g q0b))))) (q0y (q0n (dv 8) (q02 B.b_len (q0a (dv 0) q0b))) q0d)) (q0a (dv 7) (q0a (x01 2 (dv 8)) q0b)))))))
  (q0e (q0q (dv 7))))))),(lof q4t hw).2⟩
theorem x0e  (A:Ats K mg):Cal P w K mg base (n+1) "_law_names_by" ["_law_cell", "_law_count"] (spF K (run K a (n+1) q2f)):=
 con A._law_names_by sc__law_names_by (fun ws hw=>(lof q4e hw).1) fun ws hw f cdv A outer s H E Z hr=>⟨q3m K a (run K a n),(q0c (q0i 2 sc__law_names_by.nd q0g)
  (q0c (q3p 3 sc__law_names_by.nd (q08 q0b))
  (q0c (q6l 4 sc__law_names_by.nd PassesOwn.leaving rfl B.b_range (q0a (dv 1) q0b)
  (q0c (q0i 5 sc__law_names_by.nd (q0l (dv 2) (q0y (q0n (q18 (dv 0) q0d) (q8o q0d (dv 4))) q0d)))
  (q0c (q0i 6 sc__law_names_by.nd (q0l (q3l (q08 (q0a q0d (q0a q0d (q0a q0d (q0a q0d (q0a q0d (q0a q0d (q0a q0d (q0a q0d q0b)))))))))) (q0y (q18 (dv 0) q0d) q0d)))
  (q0c (q0r (q0s (q0h hr) (q0y (dv 0) q0d) q0d)
  (q0e (q0i 6 sc__law_names_by.nd (q0y (q0m C._law_mixed hr pass1 (q0a (dv 0) (q0a (dv 4) q0b))) q0d)))
  q0p)
  (q0c (q0i 7 sc__law_names_by.nd (q0y (q18 (dv 0) q0d) (q0n (dv 6) q0d)))
  (q0c (q0i 8 sc__law_names_by.nd (q0n (q0n (x6t q0g (dv 7)) (dv 5)) (x6t q0g (x9m (dv 6) (dv 7)))))
  (q0c (q0r (q0s (q0h hr) (q0y (dv 0) q0d) q0d)
  (q0c (q69 9 sc__law_names_by.nd (x:="_law_j") (Nf:=["_law_cell", "_law_letters", "_law_k"]) (js:=[0,2,4]) (sc:=defScope q06) (N:=["_law_cell", "_law_count", "_law_letters", "_law_some", "_law_k", "_law_letter", "_law_size", "_law_at", "_law_name", "_law_tail"]) rfl B.b_range (q0a (dv 6) q0b) (by decide +kernel)
   (fun _ _ _ _ _ _=>q6m)
   (fun _ _ _ _ _ _=>(q0l (dv 2) (q0y (q0m C._law_mixed hr passE (q0a (dv 1) (q0a (q0n (q8o q0d (dv 3)) (dv 0)) q0b))) q0d)))
   (fun _ _ _ _ _=>q2q 0 (show(["_law_j", "_law_cell", "_law_letters", "_law_k"]:List Str).Nodup by decide +kernel)))
  (q0e (q0i 8 sc__law_names_by.nd (q0n (dv 5) (x12 q0g (q0a (dv 9) q0b))))))
  q0p)
  (q0c (q0r (q9h (q0h hr) (dv 8) (q01 (q0a q0g (q0a q0g (q0a q0g (q0a q0g (q0a q0g (q0a q0g (q0a q0g (q0a q0g (q0a q0g q0b)))))))))))
  (q0e (q0i 8 sc__law_names_by.nd (q0n (dv 8) q0g)))
  q0p)
  (q0e (q1r 3 (q0a (dv 8) q0b)))))))))))
  (q0e (q9b 3))))),(lof q4e hw).2⟩
theorem q83  (A:Ats K mg):Cal P w K mg base (n+1) "_law_circuit_by" ["_law_script", "_law_most"] (spF K (run K a (n+1) q1w)):=
 con A._law_circuit_by sc__law_circuit_by (fun ws hw=>(lof q3j hw).1) fun ws hw f cdv A outer s H E Z hr=>⟨q2u K a (run K a n),(q0c (q0i 2 sc__law_circuit_by.nd (q0m C._law_cell_at hr pass1 (q0a (dv 0) (q0a q0d q0b))))
  (q0c (q0i 3 sc__law_circuit_by.nd (q0y (dv 2) q0d))
  (q0c (q0i 4 sc__law_circuit_by.nd (q0y (q18 (dv 2) q0d) q0d))
  (q0c (q0r (dt_w (q3n (q0s (q0h hr) (q0y (q18 (dv 2) q0d) q0d) q0d) (q4v (q9e (dv 3) q0d))))
  (q0e (q0i 4 sc__law_circuit_by.nd q0d))
  q0p)
  (q0c (q0r (q0s (q0h hr) (q0y (q18 (dv 2) q0d) q0d) q0d)
  (q0c (q0i 3 sc__law_circuit_by.nd q0d)
  (q0e (q0i 4 sc__law_circuit_by.nd (q0y (dv 4) q0d))))
  q0p)
  (q0c (q0i 5 sc__law_circuit_by.nd (q0l (q3l (q08 (q0a q0d (q0a q0d (q0a q0d (q0a q0d q0b)))))) (q0y (q18 (dv 2) q0d) q0d)))
  (q0c (q0r (q0s (q0h hr) (q0y (q18 (dv 2) q0d) q0d) q0d)
  (q0e (q0i 5 sc__law_circuit_by.nd q0d))
  q0p)
  (q0c (q3p 6 sc__law_circuit_by.nd (q08 q0b))
  (q0c (q6l 7 sc__law_circuit_by.nd PassesOwn.leaving rfl B.b_range (q0a (q0n (dv 4) (dv 5)) q0b)
  (q0c (q0i 8 sc__law_circuit_by.nd (q0m C._law_cell_at hr pass1 (q0a (dv 0) (q0a (q0n q0d (dv 7)) q0b))))
  (q0c (q0i 9 sc__law_circuit_by.nd (q0n q0d (q0y (q0m C._law_mixed hr pass1 (q0a (dv 8) (q0a (dv 7) q0b))) (dv 1))))
  (q0c (q69 10 sc__law_circuit_by.nd (x:="_law_j") (Nf:=["_law_k", "_law_seed"]) (js:=[7,8]) (sc:=defScope q0w) (N:=["_law_script", "_law_most", "_law_cell", "_law_many", "_law_cells", "_law_outs", "_law_forms", "_law_k", "_law_seed", "_law_count", "_law_some", "_law_first", "_law_held"]) rfl B.b_range (q0a (dv 9) q0b) (by decide +kernel)
   (fun _ _ _ _ _ _=>q6m)
   (fun _ _ _ _ _ _=>(q0m C._law_mixed hr passE (q0a (dv 2) (q0a (q0n (q8o q0d (dv 1)) (dv 0)) q0b))))
   (fun _ _ _ _ _=>q2q 0 (show(["_law_j", "_law_k", "_law_seed"]:List Str).Nodup by decide +kernel)))
  (q0e (q1r 6 (q0a (q0m C._law_form_by hr pass1 (q0a (dv 10) (q0a (q0n (dv 3) (dv 4)) q0b))) q0b)))))))
  (q0c (q0i 11 sc__law_circuit_by.nd (q0m C._law_cell_at hr pass1 (q0a (dv 0) (q0a q0d q0b))))
  (q0c (q69 12 sc__law_circuit_by.nd (x:="_law_k") (Nf:=["_law_forms", "_law_first"]) (js:=[6,11]) (sc:=defScope q0w) (N:=["_law_script", "_law_most", "_law_cell", "_law_many", "_law_cells", "_law_outs", "_law_forms", "_law_k", "_law_seed", "_law_count", "_law_some", "_law_first", "_law_held"]) rfl B.b_range (q0a (dv 4) q0b) (by decide +kernel)
   (fun _ _ _ _ _ _=>q6m)
   (fun _ _ _ _ _ _=>(q01 (q0a (x3v (q0h hr) (q0y (q18 (dv 2) (q0n (dv 0) q0d)) q0d) q0d) (q0a (q0l (dv 1) (dv 0)) q0b))))
   (fun _ _ _ _ _=>q2q 0 (show(["_law_k", "_law_forms", "_law_first"]:List Str).Nodup by decide +kernel)))
  (q0e (q0q (q01 (q0a (dv 3) (q0a (q3q B.b_tuple (q0a (dv 12) q0b)) (q0a (q3q B.b_tuple (q0a (q1s (dv 6) (q1y (dv 4)) q33) q0b)) q0b))))))))))))))))),(lof q3j hw).2⟩
theorem x3n  (A:Ats K mg):Cal P w K mg base (n+1) "_law_three" ["_law_script", "_law_circuit"] (spF K (run K a (n+1) q20)):=
 con A._law_three sc__law_three (fun ws hw=>(lof q5q hw).1) fun ws hw f cdv A outer s H E Z hr=>⟨q49 K a (run K a n),(q0c (q0i 2 sc__law_three.nd (q0n (q0l (dv 1) q0d) (q02 B.b_len (q0a (q0l (dv 1) q0d) q0b))))
  (q0c (q0i 3 sc__law_three.nd (q0m C._law_names_by hr pass1 (q0a (q0m C._law_cell_at hr pass1 (q0a (dv 0) (q0a q0d q0b))) (q0a (q0n (dv 2) (q02 B.b_len (q0a (q0l (dv 1) q0d) q0b))) q0b))))
  (q0e (q0q (q01 (q0a (q3q B.b_tuple (q0a (q1s (dv 3) q33 (q1y (q0l (dv 1) q0d))) q0b)) (q0a (q3q B.b_tuple (q0a (q1s (dv 3) (q1y (q0l (dv 1) q0d)) (q1y (dv 2))) q0b)) (q0a (q3q B.b_tuple (q0a (q1s (dv 3) (q1y (dv 2)) q33) q0b)) q0b)))))))),(lof q5q hw).2⟩
theorem x5f  (A:Ats K mg):Cal P w K mg base (n+1) "_law_text" ["_law_form", "_law_names"] (spF K (run K a (n+1) q03)):=
 con A._law_text sc__law_text (fun ws hw=>(lof q2d hw).1) fun ws hw f cdv A outer s H E Z hr=>⟨q2p K a (run K a n),(q0c (q0r (q0s (q0h hr) (q0l (dv 0) q0d) q0g)
  (q0e (q0q (q0l (q3l (q08 (q0a q0g (q0a q0g q0b)))) (x6o B.b_int (q0a (q0l (dv 0) q0d) q0b)))))
  q0p)
  (q0c (q0r (q0s (q0h hr) (q0l (dv 0) q0d) q0g)
  (q0e (q0q (q0l (dv 1) (q0l (dv 0) q0d))))
  q0p)
  (q0c (q0r (q0s (q0h hr) (q0l (dv 0) q0d) q0g)
  (q0e (q0q (q0n q0g (q0m C._law_text hr pass1 (q0a (q0l (dv 0) q0d) (q0a (dv 1) q0b))))))
  q0p)
  (q0c (q0i 2 sc__law_text.nd (q0m C._law_text hr pass1 (q0a (q0l (dv 0) q0d) (q0a (dv 1) q0b))))
  (q0e (q0q (q0n (q0n (q0n (q0n (q0n (q0n q0g (dv 2)) q0g) (q0l (dv 0) q0d)) q0g) (q0m C._law_text hr pass1 (q0a (q0l (dv 0) q0d) (q0a (dv 1) q0b)))) q0g))))))),(lof q2d hw).2⟩
theorem x3o  (A:Ats K mg):Cal P w K mg base (n+1) "_law_lines" ["_law_names", "_law_circuit"] (spF K (run K a (n+1) q3v)):=
 con A._law_lines sc__law_lines (fun ws hw=>(lof q5r hw).1) fun ws hw f cdv A outer s H E Z hr=>⟨q5a K a (run K a n),(q0c (q0i 2 sc__law_lines.nd (q0n (q0l (dv 0) q0d) (q0l (dv 0) q0d)))
  (q0c (q3p 3 sc__law_lines.nd (q08 (q0a (q0n q0g (x12 q0g (q0a (q3l (x1v (x:="_law_name") (Nf:=[]) (js:=[]) (sc:=defScope q1t) (N:=["_law_names", "_law_circuit", "_law_known", "_law_lines_here", "_law_k", "_law_word", "_law_told"]) rfl (q0l (dv 0) q0d) (by decide +kernel)
   (fun _ _ _ _ _ _=>q6m)
   (fun _ _ _ _ _ _=>(q0n q0g (dv 0)))
   (fun _ _ _ _ _=>q2q 0 (show(["_law_name"]:List Str).Nodup by decide +kernel)))) q0b))) q0b)))
  (q0c (q6l 4 sc__law_lines.nd PassesOwn.leaving rfl B.b_range (q0a (q02 B.b_len (q0a (q0l (dv 1) q0d) q0b)) q0b)
  (q0c (q0i 5 sc__law_lines.nd (q0l (q3l (q08 (q0a q0g (q0a q0g q0b)))) (x6o B.b_int (q0a (q0l (q0l (q0l (dv 1) q0d) (dv 4)) q0d) q0b))))
  (q0c (q0i 6 sc__law_lines.nd (q0m C._law_text hr pass1 (q0a (q0l (q0l (q0l (dv 1) q0d) (dv 4)) q0d) (q0a (dv 2) q0b))))
  (q0e (q1r 3 (q0a (q0n (q0n (q0n (q0n (q0n q0g (q0l (q0l (dv 0) q0d) (dv 4))) q0g) (dv 5)) q0g) (dv 6)) q0b))))))
  (q0c (q6l 4 sc__law_lines.nd PassesOwn.leaving rfl B.b_range (q0a (q02 B.b_len (q0a (q0l (dv 1) q0d) q0b)) q0b)
  (q0c (q0i 6 sc__law_lines.nd (q0m C._law_text hr pass1 (q0a (q0l (q0l (dv 1) q0d) (dv 4)) (q0a (dv 2) q0b))))
  (q0e (q1r 3 (q0a (q0n (q0n (q0n q0g (q0l (q0l (dv 0) q0d) (dv 4))) q0g) (dv 6)) q0b)))))
  (q0e (q9b 3)))))),(lof q5r hw).2⟩
theorem x3p  (A:Ats K mg):Cal P w K mg base (n+1) "_law_loose" ["_law_lines_here", "_law_cell"] (spF K (run K a (n+1) q21)):=
 con A._law_loose sc__law_loose (fun ws hw=>(lof q5s hw).1) fun ws hw f cdv A outer s H E Z hr=>⟨q5b K a (run K a n),(q0c (q3p 2 sc__law_loose.nd (q08 q0b))
  (q0c (q6l 3 sc__law_loose.nd PassesOwn.leaving rfl B.b_range (q0a (q02 B.b_len (q0a (dv 0) q0b)) q0b)
  (q0c (q0i 4 sc__law_loose.nd (q0y (q0m C._law_mixed hr pass1 (q0a (dv 1) (q0a (dv 3) q0b))) q0d))
  (q0c (q0r (q0s (q0h hr) (dv 4) q0d)
  (q0e (q1r 2 (q0a q0g q0b)))
  q0p)
  (q0c (q0r (q0s (q0h hr) (dv 4) q0d)
  (q0e (q3p 2 sc__law_loose.nd (z3k (dv 2) (q3l (q08 (q0a q0g (q0a q0g q0b)))))))
  q0p)
  (q0c (q0i 5 sc__law_loose.nd (q0l (dv 0) (dv 3)))
  (q0c (q0r (dt_w (q4i (q0s (q0h hr) (dv 4) q0d) (q56 (q0s (q0h hr) (dv 4) q0d))))
  (q0e (q0i 5 sc__law_loose.nd (q0n (y8s (q9k (x42 5))) q0g)))
  q0p)
  (q0c (y0s 4 5 sc__law_loose.nd (q9k (x42 5)))
  (q0c (y0s 4 5 sc__law_loose.nd (q9k (q9k (x42 5))))
  (q0e (q1r 2 (q0a (dv 5) q0b)))))))))))
  (q0e (q9b 2)))),(lof q5s hw).2⟩
theorem y5m  {f:Addr}{cdv:Value}{A:Around}{outer:List Env}{s:Shared}{H:Hp}{E:XK}{Z:Zt}(hr:Room n (A.deeper (PyProof.Rows.envOfC "law" (defScope q4k) s.heap.objs.size f cdv))):
  DSs Z (cxOf (CX1 P w) P w K mg base ["_law_script", "_law_circuit", "_law_names", "_law_lines_here", "_law_text_here", "_law_turn", "_law_found"] "law" (defScope q4k) f cdv A outer s H E) (fun _=>E) (defBody q4k) (x30 K a (run K a n)):=
 (q0c (q0i 1 sc_law.nd (q0m C._law_circuit_by hr pass1 (q0a (dv 0) (q0a q0d q0b))))
  (q0c (q0i 2 sc_law.nd (q0m C._law_three hr pass1 (q0a (dv 0) (q0a (dv 1) q0b))))
  (q0c (q0i 3 sc_law.nd (q0m C._law_lines hr pass1 (q0a (dv 2) (q0a (dv 1) q0b))))
  (q0c (q0r (q0s (q0h hr) (q0y (q0m C._law_cell_at hr pass1 (q0a (dv 0) (q0a q0d q0b))) q0d) q0d)
  (q0e (q0i 3 sc_law.nd (q0m C._law_loose hr pass1 (q0a (dv 3) (q0a (q0m C._law_cell_at hr pass1 (q0a (dv 0) (q0a q0d q0b))) q0b)))))
  q0p)
  (q0c (q0i 4 sc_law.nd (q0n (x12 q0g (q0a (dv 3) q0b)) (q0l (q3l (q08 (q0a q0g (q0a q0g (q0a q0g q0b))))) (q0y (q0m C._law_cell_at hr pass1 (q0a (dv 0) (q0a q0d q0b))) q0d))))
  (q0c (q0r (q8p (q0m C.fault_row hr pass1 (q0a (dv 4) q0b)) q42)
  (q0e (q0q q5x))
  q0p)
  (q0c (q6l 5 sc_law.nd PassesOwn.leaving rfl B.b_range (q0a q0d q0b)
  (q0c (q0i 6 sc_law.nd (q0m C.read_sheet hr pass1 (q0a (dv 4) q0b)))
  (q0e (q0r (dt_w (q4i (q8l (q55 (x4o (c0:=.ty _) rfl (x1x PyProof.Rows.Boot.«tuple» B.b_tuple) B.b_isinstance (dv 6)))) (q4i (q7u (q0h hr) (q02 B.b_len (q0a (dv 6) q0b)) q0d) (q4i (q7u (q0h hr) (q0l (dv 6) q0d) (dv 2)) (q56 (q7u (q0h hr) (q0l (dv 6) q0d) (dv 1)))))))
  (q0e (q0q q5x))
  q0p))))
  (q0e (q0q (x9b (x4o (c0:=.ty _) rfl (x1x PyProof.Rows.Boot.«tuple» B.b_tuple) B.b_isinstance (q0l (q0l (dv 6) q0d) q0d)) (x0y (x4o (c0:=.ty _) rfl (x1x PyProof.Rows.Boot.«tuple» B.b_tuple) B.b_isinstance (q0l (q0l (dv 6) q0d) q0d)))))))))))))
theorem z3n  (A:Ats K mg):Cal P w K mg base (n+1) "law" ["_law_script"] (spF K (run K a (n+1) q9l)):=
 con A.law sc_law (fun ws hw=>(lof q7k hw).1) fun ws hw f cdv A outer s H E Z hr=>⟨_,y5m B M C CH hr,(lof q7k hw).2⟩
end
theorem allH(A:Ats K mg)(B:Blt P w K mg)(M:Exs K mg a):∀n,CalsH P w K mg base a n
 |0=>⟨trivial⟩
 |n+1=>⟨trivial⟩
theorem all(A:Ats K mg)(B:Blt P w K mg)(M:Exs K mg a):∀n,Cals P w K mg base a n
 |0=>⟨con0 A.read,con0 A.fault,con0 A.places_by_name,con0 A.is_name,con0 A.is_small_letter,con0 A.pieces_of,con0 A.end_of_piece,con0 A.first_fault,con0 A.can_begin,con0 A.can_follow,con0 A.form_of_pieces,con0M A.settle,con0 A.plain_form,con0 A.read_sheet,con0 A.fault_row,con0 A.standing_parts,con0 A.words_in,con0 A.part_of_row,con0 A.can_stand,con0 A.names_of,con0 A._law_cell_at,con0 A._law_mixed,con0 A._law_leaf_by,con0 A._law_form_by,con0 A._law_names_by,con0 A._law_circuit_by,con0 A._law_three,con0 A._law_text,con0 A._law_lines,con0 A._law_loose,con0 A.law⟩
 |n+1=>⟨y84 B M (all A B M n) (allH A B M n) A,y38 B M (all A B M n) (allH A B M n) A,q9v B M (all A B M n) (allH A B M n) A,x78 B M (all A B M n) (allH A B M n) A,q82 B M (all A B M n) (allH A B M n) A,x5b B M (all A B M n) (allH A B M n) A,x1d B M (all A B M n) (allH A B M n) A,x16 B M (all A B M n) (allH A B M n) A,x5c B M (all A B M n) (allH A B M n) A,x3j B M (all A B M n) (allH A B M n) A,q9w B M (all A B M n) (allH A B M n) A,y0y B M (all A B M n) (allH A B M n) A,x3k B M (all A B M n) (allH A B M n) A,x3l B M (all A B M n) (allH A B M n) A,x5d B M (all A B M n) (allH A B M n) A,q9x B M (all A B M n) (allH A B M n) A,x57 B M (all A B M n) (allH A B M n) A,x17 B M (all A B M n) (allH A B M n) A,x5e B M (all A B M n) (allH A B M n) A,x58 B M (all A B M n) (allH A B M n) A,x1e B M (all A B M n) (allH A B M n) A,x3m B M (all A B M n) (allH A B M n) A,x1f B M (all A B M n) (allH A B M n) A,x1g B M (all A B M n) (allH A B M n) A,x0e B M (all A B M n) (allH A B M n) A,q83 B M (all A B M n) (allH A B M n) A,x3n B M (all A B M n) (allH A B M n) A,x5f B M (all A B M n) (allH A B M n) A,x3o B M (all A B M n) (allH A B M n) A,x3p B M (all A B M n) (allH A B M n) A,z3n B M (all A B M n) (allH A B M n) A⟩
theorem law_fn{f:Addr}{fd:FuncData}(A:Ats K mg)(B:Blt P w K mg)(M:Exs K mg a)(F:Fun K "law" "law" q4k f fd)(n:Nat):FnOk P w K mg base (CX1 P w) (n+1) f fd ["_law_script"] (spF K (run K a (n+1) q9l)):=
 conF F sc_law (fun ws hw=>(lof q7k hw).1) fun ws hw cdv A' outer s H E Z hr=>⟨_,y5m B M (all A B M n) (allH A B M n) hr,(lof q7k hw).2⟩
end
theorem mk{l:PySem.W.OpenLaw}{w:World}{h:Heap}{fa:Addr}(X:K.In h)(G:h.Ns mainGlobals mg)(hfa:mg "law"=some (.ref fa))
  {f0:Addr}{od0 an0:Option Addr}{sl0:Array (Option Value)}{oc0 kV0 dc0 pm0 cd0 ct0:Value}
  {f1:Addr}{od1 an1:Option Addr}{sl1:Array (Option Value)}{oc1 kV1 dc1 pm1 cd1 ct1:Value}
  {f2:Addr}{od2 an2:Option Addr}{sl2:Array (Option Value)}{oc2 kV2 dc2 pm2 cd2 ct2:Value}
  {f3:Addr}{od3 an3:Option Addr}{sl3:Array (Option Value)}{oc3 kV3 dc3 pm3 cd3 ct3:Value}
  {f4:Addr}{od4 an4:Option Addr}{sl4:Array (Option Value)}{oc4 kV4 dc4 pm4 cd4 ct4:Value}
  {f5:Addr}{od5 an5:Option Addr}{sl5:Array (Option Value)}{oc5 kV5 dc5 pm5 cd5 ct5:Value}
  {f6:Addr}{od6 an6:Option Addr}{sl6:Array (Option Value)}{oc6 kV6 dc6 pm6 cd6 ct6:Value}
  {f7:Addr}{od7 an7:Option Addr}{sl7:Array (Option Value)}{oc7 kV7 dc7 pm7 cd7 ct7:Value}
  {f8:Addr}{od8 an8:Option Addr}{sl8:Array (Option Value)}{oc8 kV8 dc8 pm8 cd8 ct8:Value}
  {f9:Addr}{od9 an9:Option Addr}{sl9:Array (Option Value)}{oc9 kV9 dc9 pm9 cd9 ct9:Value}
  {f10:Addr}{od10 an10:Option Addr}{sl10:Array (Option Value)}{oc10 kV10 dc10 pm10 cd10 ct10:Value}
  {f11:Addr}{od11 an11:Option Addr}{sl11:Array (Option Value)}{oc11 kV11 dc11 pm11 cd11 ct11:Value}
  {f12:Addr}{od12 an12:Option Addr}{sl12:Array (Option Value)}{oc12 kV12 dc12 pm12 cd12 ct12:Value}
  {f13:Addr}{od13 an13:Option Addr}{sl13:Array (Option Value)}{oc13 kV13 dc13 pm13 cd13 ct13:Value}
  {f14:Addr}{od14 an14:Option Addr}{sl14:Array (Option Value)}{oc14 kV14 dc14 pm14 cd14 ct14:Value}
  {f15:Addr}{od15 an15:Option Addr}{sl15:Array (Option Value)}{oc15 kV15 dc15 pm15 cd15 ct15:Value}
  {f16:Addr}{od16 an16:Option Addr}{sl16:Array (Option Value)}{oc16 kV16 dc16 pm16 cd16 ct16:Value}
  {f17:Addr}{od17 an17:Option Addr}{sl17:Array (Option Value)}{oc17 kV17 dc17 pm17 cd17 ct17:Value}
  {f18:Addr}{od18 an18:Option Addr}{sl18:Array (Option Value)}{oc18 kV18 dc18 pm18 cd18 ct18:Value}
  {f19:Addr}{od19 an19:Option Addr}{sl19:Array (Option Value)}{oc19 kV19 dc19 pm19 cd19 ct19:Value}
  {f20:Addr}{od20 an20:Option Addr}{sl20:Array (Option Value)}{oc20 kV20 dc20 pm20 cd20 ct20:Value}
  {f21:Addr}{od21 an21:Option Addr}{sl21:Array (Option Value)}{oc21 kV21 dc21 pm21 cd21 ct21:Value}
  {f22:Addr}{od22 an22:Option Addr}{sl22:Array (Option Value)}{oc22 kV22 dc22 pm22 cd22 ct22:Value}
  {f23:Addr}{od23 an23:Option Addr}{sl23:Array (Option Value)}{oc23 kV23 dc23 pm23 cd23 ct23:Value}
  {f24:Addr}{od24 an24:Option Addr}{sl24:Array (Option Value)}{oc24 kV24 dc24 pm24 cd24 ct24:Value}
  {f25:Addr}{od25 an25:Option Addr}{sl25:Array (Option Value)}{oc25 kV25 dc25 pm25 cd25 ct25:Value}
  {f26:Addr}{od26 an26:Option Addr}{sl26:Array (Option Value)}{oc26 kV26 dc26 pm26 cd26 ct26:Value}
  {f27:Addr}{od27 an27:Option Addr}{sl27:Array (Option Value)}{oc27 kV27 dc27 pm27 cd27 ct27:Value}
  {f28:Addr}{od28 an28:Option Addr}{sl28:Array (Option Value)}{oc28 kV28 dc28 pm28 cd28 ct28:Value}
  {f29:Addr}{od29 an29:Option Addr}{sl29:Array (Option Value)}{oc29 kV29 dc29 pm29 cd29 ct29:Value}
  {f30:Addr}{od30 an30:Option Addr}{sl30:Array (Option Value)}{oc30 kV30 dc30 pm30 cd30 ct30:Value}
  {A_CircuitError:Addr}
  {A_NoName:Addr}
  {A_BadText:Addr}
  {A_BadSheet:Addr}
  {A_WORDS:Value}
  {A_JOINING:Value}
  {A_LONGEST_NAME:Value}
  {A_MOST_BRACKETS:Value}
  {A_LOOSEST_WORD:Value}
  {A_ROW_WORDS:Value}
  {A_FIRST_TRUTHS:Value}
  {A_TIGHTNESS:Addr}
  {A_MOST_NAMES:Addr}
  {A_BEHIND:Addr}
  (a0:PySem.W.nsIn K mainGlobals "read"=some (some (.ref f0)))
  (l0:K.lookup f0=some ⟨oc0,od0,.func (PySem.W.fnOf "read" "read" (defArgs q6z) (defBody q6z) (defScope q6z) .none kV0 dc0 pm0 an0 cd0 ct0),sl0⟩)
  (c0:PySem.W.codeIn K cd0 "read"=true)
  (k0:keepIn K (.ref f0)=true)
  (a1:PySem.W.nsIn K mainGlobals "fault"=some (some (.ref f1)))
  (l1:K.lookup f1=some ⟨oc1,od1,.func (PySem.W.fnOf "fault" "fault" (defArgs q5h) (defBody q5h) (defScope q5h) .none kV1 dc1 pm1 an1 cd1 ct1),sl1⟩)
  (c1:PySem.W.codeIn K cd1 "fault"=true)
  (k1:keepIn K (.ref f1)=true)
  (a2:PySem.W.nsIn K mainGlobals "places_by_name"=some (some (.ref f2)))
  (l2:K.lookup f2=some ⟨oc2,od2,.func (PySem.W.fnOf "places_by_name" "places_by_name" (defArgs q1a) (defBody q1a) (defScope q1a) .none kV2 dc2 pm2 an2 cd2 ct2),sl2⟩)
  (c2:PySem.W.codeIn K cd2 "places_by_name"=true)
  (k2:keepIn K (.ref f2)=true)
  (a3:PySem.W.nsIn K mainGlobals "is_name"=some (some (.ref f3)))
  (l3:K.lookup f3=some ⟨oc3,od3,.func (PySem.W.fnOf "is_name" "is_name" (defArgs q22) (defBody q22) (defScope q22) .none kV3 dc3 pm3 an3 cd3 ct3),sl3⟩)
  (c3:PySem.W.codeIn K cd3 "is_name"=true)
  (k3:keepIn K (.ref f3)=true)
  (a4:PySem.W.nsIn K mainGlobals "is_small_letter"=some (some (.ref f4)))
  (l4:K.lookup f4=some ⟨oc4,od4,.func (PySem.W.fnOf "is_small_letter" "is_small_letter" (defArgs q05) (defBody q05) (defScope q05) .none kV4 dc4 pm4 an4 cd4 ct4),sl4⟩)
  (c4:PySem.W.codeIn K cd4 "is_small_letter"=true)
  (k4:keepIn K (.ref f4)=true)
  (a5:PySem.W.nsIn K mainGlobals "pieces_of"=some (some (.ref f5)))
  (l5:K.lookup f5=some ⟨oc5,od5,.func (PySem.W.fnOf "pieces_of" "pieces_of" (defArgs q2k) (defBody q2k) (defScope q2k) .none kV5 dc5 pm5 an5 cd5 ct5),sl5⟩)
  (c5:PySem.W.codeIn K cd5 "pieces_of"=true)
  (k5:keepIn K (.ref f5)=true)
  (a6:PySem.W.nsIn K mainGlobals "end_of_piece"=some (some (.ref f6)))
  (l6:K.lookup f6=some ⟨oc6,od6,.func (PySem.W.fnOf "end_of_piece" "end_of_piece" (defArgs q1m) (defBody q1m) (defScope q1m) .none kV6 dc6 pm6 an6 cd6 ct6),sl6⟩)
  (c6:PySem.W.codeIn K cd6 "end_of_piece"=true)
  (k6:keepIn K (.ref f6)=true)
  (a7:PySem.W.nsIn K mainGlobals "first_fault"=some (some (.ref f7)))
  (l7:K.lookup f7=some ⟨oc7,od7,.func (PySem.W.fnOf "first_fault" "first_fault" (defArgs q1u) (defBody q1u) (defScope q1u) .none kV7 dc7 pm7 an7 cd7 ct7),sl7⟩)
  (c7:PySem.W.codeIn K cd7 "first_fault"=true)
  (k7:keepIn K (.ref f7)=true)
  (a8:PySem.W.nsIn K mainGlobals "can_begin"=some (some (.ref f8)))
  (l8:K.lookup f8=some ⟨oc8,od8,.func (PySem.W.fnOf "can_begin" "can_begin" (defArgs q2l) (defBody q2l) (defScope q2l) .none kV8 dc8 pm8 an8 cd8 ct8),sl8⟩)
  (c8:PySem.W.codeIn K cd8 "can_begin"=true)
  (k8:keepIn K (.ref f8)=true)
  (a9:PySem.W.nsIn K mainGlobals "can_follow"=some (some (.ref f9)))
  (l9:K.lookup f9=some ⟨oc9,od9,.func (PySem.W.fnOf "can_follow" "can_follow" (defArgs q11) (defBody q11) (defScope q11) .none kV9 dc9 pm9 an9 cd9 ct9),sl9⟩)
  (c9:PySem.W.codeIn K cd9 "can_follow"=true)
  (k9:keepIn K (.ref f9)=true)
  (a10:PySem.W.nsIn K mainGlobals "form_of_pieces"=some (some (.ref f10)))
  (l10:K.lookup f10=some ⟨oc10,od10,.func (PySem.W.fnOf "form_of_pieces" "form_of_pieces" (defArgs q1b) (defBody q1b) (defScope q1b) .none kV10 dc10 pm10 an10 cd10 ct10),sl10⟩)
  (c10:PySem.W.codeIn K cd10 "form_of_pieces"=true)
  (k10:keepIn K (.ref f10)=true)
  (a11:PySem.W.nsIn K mainGlobals "settle"=some (some (.ref f11)))
  (l11:K.lookup f11=some ⟨oc11,od11,.func (PySem.W.fnOf "settle" "settle" (defArgs q4o) (defBody q4o) (defScope q4o) .none kV11 dc11 pm11 an11 cd11 ct11),sl11⟩)
  (c11:PySem.W.codeIn K cd11 "settle"=true)
  (k11:keepIn K (.ref f11)=true)
  (a12:PySem.W.nsIn K mainGlobals "plain_form"=some (some (.ref f12)))
  (l12:K.lookup f12=some ⟨oc12,od12,.func (PySem.W.fnOf "plain_form" "plain_form" (defArgs q12) (defBody q12) (defScope q12) .none kV12 dc12 pm12 an12 cd12 ct12),sl12⟩)
  (c12:PySem.W.codeIn K cd12 "plain_form"=true)
  (k12:keepIn K (.ref f12)=true)
  (a13:PySem.W.nsIn K mainGlobals "read_sheet"=some (some (.ref f13)))
  (l13:K.lookup f13=some ⟨oc13,od13,.func (PySem.W.fnOf "read_sheet" "read_sheet" (defArgs q09) (defBody q09) (defScope q09) .none kV13 dc13 pm13 an13 cd13 ct13),sl13⟩)
  (c13:PySem.W.codeIn K cd13 "read_sheet"=true)
  (k13:keepIn K (.ref f13)=true)
  (a14:PySem.W.nsIn K mainGlobals "fault_row"=some (some (.ref f14)))
  (l14:K.lookup f14=some ⟨oc14,od14,.func (PySem.W.fnOf "fault_row" "fault_row" (defArgs q2m) (defBody q2m) (defScope q2m) .none kV14 dc14 pm14 an14 cd14 ct14),sl14⟩)
  (c14:PySem.W.codeIn K cd14 "fault_row"=true)
  (k14:keepIn K (.ref f14)=true)
  (a15:PySem.W.nsIn K mainGlobals "standing_parts"=some (some (.ref f15)))
  (l15:K.lookup f15=some ⟨oc15,od15,.func (PySem.W.fnOf "standing_parts" "standing_parts" (defArgs q1c) (defBody q1c) (defScope q1c) .none kV15 dc15 pm15 an15 cd15 ct15),sl15⟩)
  (c15:PySem.W.codeIn K cd15 "standing_parts"=true)
  (k15:keepIn K (.ref f15)=true)
  (a16:PySem.W.nsIn K mainGlobals "words_in"=some (some (.ref f16)))
  (l16:K.lookup f16=some ⟨oc16,od16,.func (PySem.W.fnOf "words_in" "words_in" (defArgs q2g) (defBody q2g) (defScope q2g) .none kV16 dc16 pm16 an16 cd16 ct16),sl16⟩)
  (c16:PySem.W.codeIn K cd16 "words_in"=true)
  (k16:keepIn K (.ref f16)=true)
  (a17:PySem.W.nsIn K mainGlobals "part_of_row"=some (some (.ref f17)))
  (l17:K.lookup f17=some ⟨oc17,od17,.func (PySem.W.fnOf "part_of_row" "part_of_row" (defArgs q1v) (defBody q1v) (defScope q1v) .none kV17 dc17 pm17 an17 cd17 ct17),sl17⟩)
  (c17:PySem.W.codeIn K cd17 "part_of_row"=true)
  (k17:keepIn K (.ref f17)=true)
  (a18:PySem.W.nsIn K mainGlobals "can_stand"=some (some (.ref f18)))
  (l18:K.lookup f18=some ⟨oc18,od18,.func (PySem.W.fnOf "can_stand" "can_stand" (defArgs q2n) (defBody q2n) (defScope q2n) .none kV18 dc18 pm18 an18 cd18 ct18),sl18⟩)
  (c18:PySem.W.codeIn K cd18 "can_stand"=true)
  (k18:keepIn K (.ref f18)=true)
  (a19:PySem.W.nsIn K mainGlobals "names_of"=some (some (.ref f19)))
  (l19:K.lookup f19=some ⟨oc19,od19,.func (PySem.W.fnOf "names_of" "names_of" (defArgs q26) (defBody q26) (defScope q26) .none kV19 dc19 pm19 an19 cd19 ct19),sl19⟩)
  (c19:PySem.W.codeIn K cd19 "names_of"=true)
  (k19:keepIn K (.ref f19)=true)
  (a20:PySem.W.nsIn K mainGlobals "_law_cell_at"=some (some (.ref f20)))
  (l20:K.lookup f20=some ⟨oc20,od20,.func (PySem.W.fnOf "_law_cell_at" "_law_cell_at" (defArgs q1n) (defBody q1n) (defScope q1n) .none kV20 dc20 pm20 an20 cd20 ct20),sl20⟩)
  (c20:PySem.W.codeIn K cd20 "_law_cell_at"=true)
  (k20:keepIn K (.ref f20)=true)
  (a21:PySem.W.nsIn K mainGlobals "_law_mixed"=some (some (.ref f21)))
  (l21:K.lookup f21=some ⟨oc21,od21,.func (PySem.W.fnOf "_law_mixed" "_law_mixed" (defArgs q13) (defBody q13) (defScope q13) .none kV21 dc21 pm21 an21 cd21 ct21),sl21⟩)
  (c21:PySem.W.codeIn K cd21 "_law_mixed"=true)
  (k21:keepIn K (.ref f21)=true)
  (a22:PySem.W.nsIn K mainGlobals "_law_leaf_by"=some (some (.ref f22)))
  (l22:K.lookup f22=some ⟨oc22,od22,.func (PySem.W.fnOf "_law_leaf_by" "_law_leaf_by" (defArgs q1o) (defBody q1o) (defScope q1o) .none kV22 dc22 pm22 an22 cd22 ct22),sl22⟩)
  (c22:PySem.W.codeIn K cd22 "_law_leaf_by"=true)
  (k22:keepIn K (.ref f22)=true)
  (a23:PySem.W.nsIn K mainGlobals "_law_form_by"=some (some (.ref f23)))
  (l23:K.lookup f23=some ⟨oc23,od23,.func (PySem.W.fnOf "_law_form_by" "_law_form_by" (defArgs q1p) (defBody q1p) (defScope q1p) .none kV23 dc23 pm23 an23 cd23 ct23),sl23⟩)
  (c23:PySem.W.codeIn K cd23 "_law_form_by"=true)
  (k23:keepIn K (.ref f23)=true)
  (a24:PySem.W.nsIn K mainGlobals "_law_names_by"=some (some (.ref f24)))
  (l24:K.lookup f24=some ⟨oc24,od24,.func (PySem.W.fnOf "_law_names_by" "_law_names_by" (defArgs q06) (defBody q06) (defScope q06) .none kV24 dc24 pm24 an24 cd24 ct24),sl24⟩)
  (c24:PySem.W.codeIn K cd24 "_law_names_by"=true)
  (k24:keepIn K (.ref f24)=true)
  (a25:PySem.W.nsIn K mainGlobals "_law_circuit_by"=some (some (.ref f25)))
  (l25:K.lookup f25=some ⟨oc25,od25,.func (PySem.W.fnOf "_law_circuit_by" "_law_circuit_by" (defArgs q0w) (defBody q0w) (defScope q0w) .none kV25 dc25 pm25 an25 cd25 ct25),sl25⟩)
  (c25:PySem.W.codeIn K cd25 "_law_circuit_by"=true)
  (k25:keepIn K (.ref f25)=true)
  (a26:PySem.W.nsIn K mainGlobals "_law_three"=some (some (.ref f26)))
  (l26:K.lookup f26=some ⟨oc26,od26,.func (PySem.W.fnOf "_law_three" "_law_three" (defArgs q14) (defBody q14) (defScope q14) .none kV26 dc26 pm26 an26 cd26 ct26),sl26⟩)
  (c26:PySem.W.codeIn K cd26 "_law_three"=true)
  (k26:keepIn K (.ref f26)=true)
  (a27:PySem.W.nsIn K mainGlobals "_law_text"=some (some (.ref f27)))
  (l27:K.lookup f27=some ⟨oc27,od27,.func (PySem.W.fnOf "_law_text" "_law_text" (defArgs q2o) (defBody q2o) (defScope q2o) .none kV27 dc27 pm27 an27 cd27 ct27),sl27⟩)
  (c27:PySem.W.codeIn K cd27 "_law_text"=true)
  (k27:keepIn K (.ref f27)=true)
  (a28:PySem.W.nsIn K mainGlobals "_law_lines"=some (some (.ref f28)))
  (l28:K.lookup f28=some ⟨oc28,od28,.func (PySem.W.fnOf "_law_lines" "_law_lines" (defArgs q1t) (defBody q1t) (defScope q1t) .none kV28 dc28 pm28 an28 cd28 ct28),sl28⟩)
  (c28:PySem.W.codeIn K cd28 "_law_lines"=true)
  (k28:keepIn K (.ref f28)=true)
  (a29:PySem.W.nsIn K mainGlobals "_law_loose"=some (some (.ref f29)))
  (l29:K.lookup f29=some ⟨oc29,od29,.func (PySem.W.fnOf "_law_loose" "_law_loose" (defArgs q15) (defBody q15) (defScope q15) .none kV29 dc29 pm29 an29 cd29 ct29),sl29⟩)
  (c29:PySem.W.codeIn K cd29 "_law_loose"=true)
  (k29:keepIn K (.ref f29)=true)
  (a30:PySem.W.nsIn K mainGlobals "law"=some (some (.ref f30)))
  (l30:K.lookup f30=some ⟨oc30,od30,.func (PySem.W.fnOf "law" "law" (defArgs q4k) (defBody q4k) (defScope q4k) .none kV30 dc30 pm30 an30 cd30 ct30),sl30⟩)
  (c30:PySem.W.codeIn K cd30 "law"=true)
  (k30:keepIn K (.ref f30)=true)
  (n_CircuitError:PySem.W.nsIn K mainGlobals "CircuitError"=some (some (.ref A_CircuitError)))
  (n_NoName:PySem.W.nsIn K mainGlobals "NoName"=some (some (.ref A_NoName)))
  (n_BadText:PySem.W.nsIn K mainGlobals "BadText"=some (some (.ref A_BadText)))
  (n_BadSheet:PySem.W.nsIn K mainGlobals "BadSheet"=some (some (.ref A_BadSheet)))
  (n_WORDS:PySem.W.nsIn K mainGlobals "WORDS"=some (some A_WORDS))
  (n_JOINING:PySem.W.nsIn K mainGlobals "JOINING"=some (some A_JOINING))
  (n_LONGEST_NAME:PySem.W.nsIn K mainGlobals "LONGEST_NAME"=some (some A_LONGEST_NAME))
  (n_MOST_BRACKETS:PySem.W.nsIn K mainGlobals "MOST_BRACKETS"=some (some A_MOST_BRACKETS))
  (n_LOOSEST_WORD:PySem.W.nsIn K mainGlobals "LOOSEST_WORD"=some (some A_LOOSEST_WORD))
  (n_ROW_WORDS:PySem.W.nsIn K mainGlobals "ROW_WORDS"=some (some A_ROW_WORDS))
  (n_FIRST_TRUTHS:PySem.W.nsIn K mainGlobals "FIRST_TRUTHS"=some (some A_FIRST_TRUTHS))
  (n_TIGHTNESS:PySem.W.nsIn K mainGlobals "TIGHTNESS"=some (some (.ref A_TIGHTNESS)))
  (tab_TIGHTNESS:TabK l.prog w K A_TIGHTNESS q3s)
  (n_MOST_NAMES:PySem.W.nsIn K mainGlobals "MOST_NAMES"=some (some (.ref A_MOST_NAMES)))
  (tab_MOST_NAMES:TabK l.prog w K A_MOST_NAMES q4j)
  (n_BEHIND:PySem.W.nsIn K mainGlobals "BEHIND"=some (some (.ref A_BEHIND)))
  (tab_BEHIND:TabC l.prog w K A_BEHIND q64)
  (z_all:PySem.W.nsIn K mainGlobals "all"=some none)
  (z_enumerate:PySem.W.nsIn K mainGlobals "enumerate"=some none)
  (z_int:PySem.W.nsIn K mainGlobals "int"=some none)
  (z_isinstance:PySem.W.nsIn K mainGlobals "isinstance"=some none)
  (z_len:PySem.W.nsIn K mainGlobals "len"=some none)
  (z_max:PySem.W.nsIn K mainGlobals "max"=some none)
  (z_range:PySem.W.nsIn K mainGlobals "range"=some none)
  (z_tuple:PySem.W.nsIn K mainGlobals "tuple"=some none)
  (z_zip:PySem.W.nsIn K mainGlobals "zip"=some none)
  (g_WORDS:conIn K (.tup [(.str "yes"),(.str "no"),(.str "not"),(.str "and"),(.str "odd"),(.str "or")]) A_WORDS=true)
  (g_JOINING:conIn K (.tup [(.str "and"),(.str "odd"),(.str "or")]) A_JOINING=true)
  (g_LONGEST_NAME:conIn K (.int 8) A_LONGEST_NAME=true)
  (g_MOST_BRACKETS:conIn K (.int 12) A_MOST_BRACKETS=true)
  (g_LOOSEST_WORD:conIn K (.int 1) A_LOOSEST_WORD=true)
  (g_ROW_WORDS:conIn K (.tup [(.str "in"),(.str "held"),(.str "out")]) A_ROW_WORDS=true)
  (g_FIRST_TRUTHS:conIn K (.tup [(.str "yes"),(.str "no")]) A_FIRST_TRUTHS=true)
  (t_NoneType_tuple:kitOne K (.type "NoneType") (.type "tuple")=some false)
  (t_bool_tuple:kitOne K (.type "bool") (.type "tuple")=some false)
  (t_int_tuple:kitOne K (.type "int") (.type "tuple")=some false)
  (t_str_tuple:kitOne K (.type "str") (.type "tuple")=some false)
  (t_tuple_tuple:kitOne K (.type "tuple") (.type "tuple")=some true)
  (t_list_tuple:kitOne K (.type "list") (.type "tuple")=some false)
  (n:Nat)(hL:∀a:Adr,Exs K mg a->∀ns:List Int,ns.length<=63->run K a (n+1) q9l [.lst (ns.map .int)]=.ok (.fr (.bl true))):
  ∃fd:FuncData,(∀(s:Shared)(v:Value),BindsTo s fd ⟨[v],[]⟩ [("_law_script", v)])/\∀base:Heap,K.In base->base.Ns mainGlobals mg->FnOk l.prog w K mg base (CX1 l.prog w) (n+1) fa fd ["_law_script"] (spLaw K):=by
 have e:=hfa.symm.trans (mg_of X G a30);cases e
 have A:Ats K mg:=⟨⟨⟨_,_,q0k (st:=q6z) l0 c0 k0,mg_of X G a0,(q0k (st:=q6z) l0 c0 k0).binds (ps:=["text", "names"]) fun _ _ _ _ _ _=>us2 fun _ _=>rfl⟩⟩,
  ⟨⟨_,_,q0k (st:=q5h) l1 c1 k1,mg_of X G a1,(q0k (st:=q5h) l1 c1 k1).binds (ps:=["text", "names"]) fun _ _ _ _ _ _=>us2 fun _ _=>rfl⟩⟩,
  ⟨⟨_,_,q0k (st:=q1a) l2 c2 k2,mg_of X G a2,(q0k (st:=q1a) l2 c2 k2).binds (ps:=["names"]) fun _ _ _ _ _ _=>us1 fun _=>rfl⟩⟩,
  ⟨⟨_,_,q0k (st:=q22) l3 c3 k3,mg_of X G a3,(q0k (st:=q22) l3 c3 k3).binds (ps:=["name"]) fun _ _ _ _ _ _=>us1 fun _=>rfl⟩⟩,
  ⟨⟨_,_,q0k (st:=q05) l4 c4 k4,mg_of X G a4,(q0k (st:=q05) l4 c4 k4).binds (ps:=["sign"]) fun _ _ _ _ _ _=>us1 fun _=>rfl⟩⟩,
  ⟨⟨_,_,q0k (st:=q2k) l5 c5 k5,mg_of X G a5,(q0k (st:=q2k) l5 c5 k5).binds (ps:=["text"]) fun _ _ _ _ _ _=>us1 fun _=>rfl⟩⟩,
  ⟨⟨_,_,q0k (st:=q1m) l6 c6 k6,mg_of X G a6,(q0k (st:=q1m) l6 c6 k6).binds (ps:=["text", "place"]) fun _ _ _ _ _ _=>us2 fun _ _=>rfl⟩⟩,
  ⟨⟨_,_,q0k (st:=q1u) l7 c7 k7,mg_of X G a7,(q0k (st:=q1u) l7 c7 k7).binds (ps:=["pieces", "places", "length"]) fun _ _ _ _ _ _=>us3 fun _ _ _=>rfl⟩⟩,
  ⟨⟨_,_,q0k (st:=q2l) l8 c8 k8,mg_of X G a8,(q0k (st:=q2l) l8 c8 k8).binds (ps:=["piece", "brackets", "places"]) fun _ _ _ _ _ _=>us3 fun _ _ _=>rfl⟩⟩,
  ⟨⟨_,_,q0k (st:=q11) l9 c9 k9,mg_of X G a9,(q0k (st:=q11) l9 c9 k9).binds (ps:=["piece", "brackets"]) fun _ _ _ _ _ _=>us2 fun _ _=>rfl⟩⟩,
  ⟨⟨_,_,q0k (st:=q1b) l10 c10 k10,mg_of X G a10,(q0k (st:=q1b) l10 c10 k10).binds (ps:=["pieces", "places"]) fun _ _ _ _ _ _=>us2 fun _ _=>rfl⟩⟩,
  ⟨⟨_,_,q0k (st:=q4o) l11 c11 k11,mg_of X G a11,(q0k (st:=q4o) l11 c11 k11).binds (ps:=["forms", "waiting", "least"]) fun _ _ _ _ _ _=>us3 fun _ _ _=>rfl⟩⟩,
  ⟨⟨_,_,q0k (st:=q12) l12 c12 k12,mg_of X G a12,(q0k (st:=q12) l12 c12 k12).binds (ps:=["piece", "places"]) fun _ _ _ _ _ _=>us2 fun _ _=>rfl⟩⟩,
  ⟨⟨_,_,q0k (st:=q09) l13 c13 k13,mg_of X G a13,(q0k (st:=q09) l13 c13 k13).binds (ps:=["text"]) fun _ _ _ _ _ _=>us1 fun _=>rfl⟩⟩,
  ⟨⟨_,_,q0k (st:=q2m) l14 c14 k14,mg_of X G a14,(q0k (st:=q2m) l14 c14 k14).binds (ps:=["text"]) fun _ _ _ _ _ _=>us1 fun _=>rfl⟩⟩,
  ⟨⟨_,_,q0k (st:=q1c) l15 c15 k15,mg_of X G a15,(q0k (st:=q1c) l15 c15 k15).binds (ps:=["rows"]) fun _ _ _ _ _ _=>us1 fun _=>rfl⟩⟩,
  ⟨⟨_,_,q0k (st:=q2g) l16 c16 k16,mg_of X G a16,(q0k (st:=q2g) l16 c16 k16).binds (ps:=["text"]) fun _ _ _ _ _ _=>us1 fun _=>rfl⟩⟩,
  ⟨⟨_,_,q0k (st:=q1v) l17 c17 k17,mg_of X G a17,(q0k (st:=q1v) l17 c17 k17).binds (ps:=["row", "number"]) fun _ _ _ _ _ _=>us2 fun _ _=>rfl⟩⟩,
  ⟨⟨_,_,q0k (st:=q2n) l18 c18 k18,mg_of X G a18,(q0k (st:=q2n) l18 c18 k18).binds (ps:=["part", "ahead"]) fun _ _ _ _ _ _=>us2 fun _ _=>rfl⟩⟩,
  ⟨⟨_,_,q0k (st:=q26) l19 c19 k19,mg_of X G a19,(q0k (st:=q26) l19 c19 k19).binds (ps:=["parts", "word"]) fun _ _ _ _ _ _=>us2 fun _ _=>rfl⟩⟩,
  ⟨⟨_,_,q0k (st:=q1n) l20 c20 k20,mg_of X G a20,(q0k (st:=q1n) l20 c20 k20).binds (ps:=["_law_script", "_law_k"]) fun _ _ _ _ _ _=>us2 fun _ _=>rfl⟩⟩,
  ⟨⟨_,_,q0k (st:=q13) l21 c21 k21,mg_of X G a21,(q0k (st:=q13) l21 c21 k21).binds (ps:=["_law_cell", "_law_k"]) fun _ _ _ _ _ _=>us2 fun _ _=>rfl⟩⟩,
  ⟨⟨_,_,q0k (st:=q1o) l22 c22 k22,mg_of X G a22,(q0k (st:=q1o) l22 c22 k22).binds (ps:=["_law_cell", "_law_many"]) fun _ _ _ _ _ _=>us2 fun _ _=>rfl⟩⟩,
  ⟨⟨_,_,q0k (st:=q1p) l23 c23 k23,mg_of X G a23,(q0k (st:=q1p) l23 c23 k23).binds (ps:=["_law_cells", "_law_many"]) fun _ _ _ _ _ _=>us2 fun _ _=>rfl⟩⟩,
  ⟨⟨_,_,q0k (st:=q06) l24 c24 k24,mg_of X G a24,(q0k (st:=q06) l24 c24 k24).binds (ps:=["_law_cell", "_law_count"]) fun _ _ _ _ _ _=>us2 fun _ _=>rfl⟩⟩,
  ⟨⟨_,_,q0k (st:=q0w) l25 c25 k25,mg_of X G a25,(q0k (st:=q0w) l25 c25 k25).binds (ps:=["_law_script", "_law_most"]) fun _ _ _ _ _ _=>us2 fun _ _=>rfl⟩⟩,
  ⟨⟨_,_,q0k (st:=q14) l26 c26 k26,mg_of X G a26,(q0k (st:=q14) l26 c26 k26).binds (ps:=["_law_script", "_law_circuit"]) fun _ _ _ _ _ _=>us2 fun _ _=>rfl⟩⟩,
  ⟨⟨_,_,q0k (st:=q2o) l27 c27 k27,mg_of X G a27,(q0k (st:=q2o) l27 c27 k27).binds (ps:=["_law_form", "_law_names"]) fun _ _ _ _ _ _=>us2 fun _ _=>rfl⟩⟩,
  ⟨⟨_,_,q0k (st:=q1t) l28 c28 k28,mg_of X G a28,(q0k (st:=q1t) l28 c28 k28).binds (ps:=["_law_names", "_law_circuit"]) fun _ _ _ _ _ _=>us2 fun _ _=>rfl⟩⟩,
  ⟨⟨_,_,q0k (st:=q15) l29 c29 k29,mg_of X G a29,(q0k (st:=q15) l29 c29 k29).binds (ps:=["_law_lines_here", "_law_cell"]) fun _ _ _ _ _ _=>us2 fun _ _=>rfl⟩⟩,
  ⟨⟨_,_,q0k (st:=q4k) l30 c30 k30,mg_of X G a30,(q0k (st:=q4k) l30 c30 k30).binds (ps:=["_law_script"]) fun _ _ _ _ _ _=>us1 fun _=>rfl⟩⟩⟩
 have B:Blt l.prog w K mg:=⟨mg_none_of X G z_all,mg_none_of X G z_enumerate,mg_none_of X G z_int,mg_none_of X G z_isinstance,mg_none_of X G z_len,mg_none_of X G z_max,mg_none_of X G z_range,mg_none_of X G z_tuple,mg_none_of X G z_zip,⟨A_TIGHTNESS,mg_of X G n_TIGHTNESS,tab_TIGHTNESS⟩,⟨A_MOST_NAMES,mg_of X G n_MOST_NAMES,tab_MOST_NAMES⟩,⟨A_BEHIND,mg_of X G n_BEHIND,tab_BEHIND⟩⟩;have M:Exs K mg ⟨A_CircuitError,A_NoName,A_BadText,A_BadSheet,A_WORDS,A_JOINING,A_LONGEST_NAME,A_MOST_BRACKETS,A_LOOSEST_WORD,A_ROW_WORDS,A_FIRST_TRUTHS⟩:=⟨trivial,mg_of X G n_CircuitError,mg_of X G n_NoName,mg_of X G n_BadText,mg_of X G n_BadSheet,mg_of X G n_WORDS,mg_of X G n_JOINING,mg_of X G n_LONGEST_NAME,mg_of X G n_MOST_BRACKETS,mg_of X G n_LOOSEST_WORD,mg_of X G n_ROW_WORDS,mg_of X G n_FIRST_TRUTHS,g_WORDS,g_JOINING,g_LONGEST_NAME,g_MOST_BRACKETS,g_LOOSEST_WORD,g_ROW_WORDS,g_FIRST_TRUTHS,t_NoneType_tuple,t_bool_tuple,t_int_tuple,t_str_tuple,t_tuple_tuple,t_list_tuple⟩;exact⟨_,fun s v=>.of_eq rfl,fun base _ _=>(law_fn A B M (q0k (st:=q4k) l30 c30 k30) n).imp fun vs H Q E q=>y2v (hL _ M) q⟩
local macro_rules | `(tactic| walk_at "den") => do
 let l:=(("y37 z3i z3j z3c z3d y31 y33 y8u z3e y8v z3l y8i y8j y8k y8l y8m z55 z28 z50 z52 y3u y3v y8e y3w z53 z54 y3x y8f y8g y2x y77 y78 y79 y8a y3o y3p z5z y7x y7y y7z y70 y3l y0h y0i y0d x71 y0e y0f x72 x73 x74 x51 y3j y0g y3k y7v y7w y28 y29 x92 y7m x93 x94 y3a z2q y3b y3c x95 y7n z2r z2s z2t le_str y7q q1f y3d y3e y3f y3g y3h x98 z2u y7r z2v x70 z03 z04 z05 z06 z07 z08 z09 y6q y6m y6n y6o y2w z00 z01 z02 y6p z4o z4p z4q z4r z1a x7t x7u x9q z1b z1c y6r dC_s z4s z4t y6s y6t z1d z1e z4u z1f y6u z1g z1h z4v z4w z1i y6v z1j z1k z4x z4y z4z z40 y6w z1l y6x y6y y6z z1m z1n z1o y60 y61 y62 y2y y63 y64 y2z x9r y20 x9s z1p y65 x9t x1y y66 y67 y68 y69 y7a y21 z1q x9u z41 z1r z1s z1t y7b z1u z42 z43 z1v y7c x9v y7d y22 z1w z1x y7e y7f y23 x7v x7w x9w y24 x9x y7g y25 z1y z1z z13 z14 z15 y7h z16 z17 z44 z45 z46 z47 z48 z49 z5a z5b y5h z5c z5d z5e z5f z5g z5h z5i z5j z18 z19 z2a z2b z2c z2d z2e ix_t ix_l z5k z5l z5m z5n z5o z5p z5q z5r z5s z5t z5u sc_i sc_b sc_s sc_n sl_l at0 at1 at2 q43 rng1 rng2 init Option.map_some Option.bind_some List.map_cons List.map_nil List.length_cons List.length_nil List.replicate_succ List.replicate_zero List.cons_append List.nil_append List.getElem?_cons_zero List.getElem?_cons_succ List.set_cons_zero List.set_cons_succ if_true if_false decide_eq_true_eq reduceIte Bool.false_eq_true ite_true ite_false Nat.reduceSub Nat.reduceAdd Nat.reduceLeDiff Nat.zero_add Nat.le_refl Int.reduceLT Int.reduceLE Int.reduceNeg true_and and_true true_or or_true false_and and_false false_or or_false not_true_eq_false not_false_eq_true decide_true decide_false Bool.not_true Bool.not_false String.reduceEq Nat.reduceEqDiff y26 z2k z5w z5x Int.reduceToNat Int.reducePow Nat.reduceLT cast0 cast1 Int.reduceEq Int.reduceMod Int.reduceDiv Int.reduceAdd Int.reduceSub Int.reduceMul".splitOn " ").map fun s=>Lean.mkIdent s.toName).toArray
 `(tactic| try simp only [$[$l:ident],*])
theorem q4u(n:Nat)(ns:List Int){k:Int}(hk:0<=k):run K a (n+1) q0z [.lst (ns.map .int),.int k]=.ok (.fr (.int (ns.getD k.toNat 0))):=by
 rw[q4r];unfold q37;walk_at "den"
 by_cases h:k<ns.length
 ·rw[if_pos (by simpa using h),x4r hk]
  have e:(ns.map W.int)[k.toNat]?=some (.int (ns.getD k.toNat 0)):=by
   have:k.toNat<ns.length:=by omega
   simp[List.getD,this]
  rw[e];walk_at "den"
 ·rw[if_neg (by simpa using h)]
  have:ns.getD k.toNat 0=0:=by
   have:¬k.toNat<ns.length:=by omega
   simp[List.getD,this]
  rw[this]
set_option genInjectivity true in
inductive Fm where
 |is (b:Bool)|at (p:Nat)|not (f:Fm)|and (f g:Fm)|or (f g:Fm)|odd (f g:Fm)
variable{f g:Fm}{gs:List Fm}
def enc:Fm->W
 |.is b=>.tup [.str "is", .bl b]
 |.at p=>.tup [.str "at", .int p]
 |.not f=>.tup [.str "not", enc f]
 |.and f g=>.tup [.str "and", enc f,enc g]
 |.or f g=>.tup [.str "or", enc f,enc g]
 |.odd f g=>.tup [.str "odd", enc f,enc g]
def Fm.depth:Fm->Nat
 |.is _=>1
 |.at _=>1
 |.not f=>f.depth+1
 |.and f g=>max f.depth g.depth+1
 |.or f g=>max f.depth g.depth+1
 |.odd f g=>max f.depth g.depth+1
def Fm.inb(m:Nat):Fm->Prop
 |.is _=>True
 |.at p=>p<m
 |.not f=>f.inb m
 |.and f g=>f.inb m/\g.inb m
 |.or f g=>f.inb m/\g.inb m
 |.odd f g=>f.inb m/\g.inb m
theorem Fm.depth_pos:∀f:Fm,1<=f.depth
 |.is _=>w0b _
 |.at _=>w0b _
 |.not f=>by simp only[Fm.depth];omega
 |.and f g=>by simp only[Fm.depth];omega
 |.or f g=>by simp only[Fm.depth];omega
 |.odd f g=>by simp only[Fm.depth];omega
def Fm.size:Fm->Nat
 |.is _=>1
 |.at _=>1
 |.not f=>f.size+1
 |.and f g=>f.size+g.size+1
 |.or f g=>f.size+g.size+1
 |.odd f g=>f.size+g.size+1
def leafB(c:Int)(m:Nat):Fm:=if m=0\/c%8=7 then .is (decide (c / 8%2=1))else .at (c / 8%m).toNat
theorem x2z(c:Int)(m:Nat):(leafB c m).inb m:=by
 unfold leafB;split
 ·trivial
 ·rename_i h;show(c / 8%m).toNat<m;have h1:=w1j (c / 8) (show(m:Int)≠0 by omega);have h2:=w1b (c / 8) (show(0:Int)<m by omega);omega
theorem q92(c:Int)(m:Nat):(leafB c m).depth=1:=by
 unfold leafB;split<;>rfl
theorem x1h(c:Int)(m:Nat):(leafB c m).size=1:=by
 unfold leafB;split<;>rfl
theorem q84(n:Nat)(c:Int)(m:Nat):run K a (n+1) q1z [.int c,.int m]=.ok (.fr (enc (leafB c m))):=by
 rw[q4s];unfold q38;walk_at "den";unfold leafB
 by_cases h:m=0
 ·subst h;simp[enc]
 ·rw[if_neg (by omega)]
  by_cases h9:c%8=7
  ·rw[if_pos h9,if_pos (.inr h9)];rfl
  ·rw[if_neg h9,if_pos (show(0:Int)<m by omega),if_neg (show ¬(m=0\/c%8=7) by omega)];walk_at "den";have h1:=w1j (c / 8) (show(m:Int)≠0 by omega);simp only[enc];congr 4;simp;omega
def Ok(m:Nat)(st:List Fm)(k z:Nat):Prop:=(∀f∈st,f.inb m)/\(st.map Fm.depth).sum<=k/\(st.map Fm.size).sum<=z
theorem Ok.len:∀{st:List Fm}{k z:Nat},Ok m st k z->st.length<=k
 |[],k,_,_=>by simp
 |f::st,k,z,h=>by
  have h2:Ok m st (k-f.depth) (z-f.size):=⟨fun g hg=>h.1 g (by simp[hg]),by have:=h.2.1;simp at this;omega,by have:=h.2.2;simp at this;omega⟩
  have:=h2.len;have:=f.depth_pos;have:=h.2.1;simp at this |-
  omega
theorem Ok.push{st : List Fm}{k z : Nat}{f : Fm}(h : Ok m st k z)(hf : f.inb m){k' z' : Nat}(hk : k + f.depth <= k')(hz : z + f.size <= z') : Ok m (st ++ [f]) k' z' :=
  ⟨fun g hg => by rcases w0z.mp hg with z | z
                  . exact h.1 g z
                  . rw [w1g.mp z]; exact hf, by have := h.2.1; simp; omega, by have := h.2.2; simp; omega⟩
theorem Ok.pop{st:List Fm}{k z:Nat}(h:Ok m (st++[f]) k z):f.inb m/\(f.depth<=k/\f.size<=z)/\Ok m st (k-f.depth) (z-f.size):=
 ⟨h.1 f (by simp),⟨by have:=h.2.1;simp at this;omega,by have:=h.2.2;simp at this;omega⟩,fun g hg=>h.1 g (by simp[hg]),by have:=h.2.1;simp at this;omega,by have:=h.2.2;simp at this;omega⟩
theorem q7l(st:List Fm):(st.map enc).length=st.length:=w0j ..
theorem words3(h:j=0\/j=1\/j=2):atI [W.str "and", W.str "or", W.str "odd"] j=some (.str (if j=0 then "and" else if j=1 then "or" else "odd")):=by
 rcases h with rfl|rfl|rfl<;>rfl
def bin3(j:Int)(f g:Fm):Fm:=if j=0 then .and f g else if j=1 then .or f g else .odd f g
theorem y39(f g:Fm):(W.tup [.str (if j=0 then "and" else if j=1 then "or" else "odd"),enc f,enc g])=enc (bin3 j f g):=by
 unfold bin3;split
 ·rfl
 ·split<;>rfl
theorem y4a(h1:f.inb m)(h2:g.inb m):(bin3 j f g).inb m:=by
 unfold bin3;split
 ·exact⟨h1,h2⟩
 ·split<;>exact⟨h1,h2⟩
theorem x79(f g:Fm):(bin3 j f g).depth=max f.depth g.depth+1:=by
 unfold bin3;split
 ·rfl
 ·split<;>rfl
theorem y0z(f g:Fm):(bin3 j f g).size=f.size+g.size+1:=by
 unfold bin3;split
 ·rfl
 ·split<;>rfl
theorem x18{l:List α}(h:0<l.length):∃s x,l=s++[x]:=by
 rcases List.eq_nil_or_concat l with rfl|⟨s,x,rfl⟩
 ·simp at h
 ·exact⟨s,x,by simp⟩
theorem x5g{i:Nat}{b:List S->SR}(B:Nat)(I:Nat->List S->Prop):∀(ws:List W)(k:Nat)(e:List S),I k e->k+ws.length<=B->(∀(j:Nat)(w:W)(e:List S),j<B->w∈ws->I j e->∃e',b (e.set i (.fr w))=.nx e'/\I (j+1) e')->∃e',forD i b ws e=.nx e'/\I (k+ws.length) e'
 |[],k,e,h0,_,_=>⟨e,rfl,h0⟩
 |w::ws,k,e,h0,hB,h=>by
  rw[w0q]at hB;obtain⟨e1,h1,h2⟩:=h k w e (by omega) (by simp) h0;obtain⟨e2,h3,h4⟩:=x5g B I ws (k+1) e1 h2 (by omega) fun j u e hj hu=>h j u e hj (by simp[hu])
  refine⟨e2,?_,?_⟩
  ·rw[x4p,h1,x1y,h3]
  ·rw[w0q];have:k+1+ws.length=k+(ws.length+1):=by omega
   rw[<- this];exact h4
theorem x59(n:Nat)(cs:W)(m:Nat)(j:Nat)(c:Int)(e:List S)(hj:j<1000)(h:∃(st:List Fm)(z3 z4 z5 z6:S),e=[.fr cs,.fr (.int m),.own none (st.map enc),z3,z4,z5,z6,.no,.no]/\0<st.length/\Ok m st (j+1) (j+1)):
  ∃e',q3c K a (run K a (n+1)) (e.set 3 (.fr (.int c)))=.nx e'/\∃(st:List Fm)(z3 z4 z5 z6:S),e'=[.fr cs,.fr (.int m),.own none (st.map enc),z3,z4,z5,z6,.no,.no]/\0<st.length/\Ok m st (j+1+1) (j+1+1):=by
 obtain⟨st,z3,z4,z5,z6,rfl,hp,ok⟩:=h;have hl:=ok.len;unfold q3c;walk_at "den"
 have pushed:∃e',(if(st.map enc).length<16777216 then SR.nx [.fr cs,.fr (.int m),.own none (st.map enc++[enc (leafB (c / 9) m)]),.fr (.int c),.fr (.int (c%9)),.fr (.int (c / 9)),z6,.no,.no]else SR.no)=.nx e'/\∃(st:List Fm)(z3 z4 z5 z6:S),e'=[.fr cs,.fr (.int m),.own none (st.map enc),z3,z4,z5,z6,.no,.no]/\0<st.length/\Ok m st (j+1+1) (j+1+1):=by
  rw[if_pos (by rw[q7l];omega)];exact⟨_,rfl,st++[leafB (c / 9) m],_,_,_,_,by rw[w0i];rfl,by simp,ok.push (x2z _ m) (by rw[q92];omega) (by rw[x1h];omega)⟩
 by_cases c4:c%9=0
 ·rw[if_pos c4];obtain⟨s,f,rfl⟩:=x18 hp;rw[w0i];walk_at "den";obtain⟨p1,p2,p3⟩:=ok.pop;rw[if_pos (by rw[w0r,w4p]at hl;rw[q7l];omega)];exact⟨_,rfl,s++[.not f],_,_,_,_,by rw[w0i];rfl,by simp,p3.push (f:=.not f) p1 (by simp only[Fm.depth];omega) (by simp only[Fm.size];omega)⟩
 ·rw[if_neg c4]
  by_cases c5:c%9<5
  ·rw[if_pos c5]
   by_cases hp2:1<st.length
   ·obtain⟨s,g,rfl⟩:=x18 (show 0<st.length by omega);obtain⟨s,f,rfl⟩:=x18 (l:=s) (by simp at hp2;omega);rw[if_pos (by rw[q7l];omega),w0i];walk_at "den";rw[words3 (by omega),w0i];walk_at "den";obtain⟨p1,p2,p3⟩:=ok.pop;obtain⟨p4,p5,p6⟩:=p3.pop;rw[if_pos (by rw[w0r,w0r,w4p]at hl;rw[q7l];omega),y39];exact⟨_,rfl,s++[bin3 (c / 9%3) f g],_,_,_,_,by rw[w0i];rfl,by simp,p6.push (y4a p4 p1) (by rw[x79];have:=f.depth_pos;have:=g.depth_pos;omega) (by rw[y0z];omega)⟩
   ·rw[if_neg (by rw[q7l];omega),q84 n _ m];walk_at "den";exact pushed
  ·rw[if_neg c5,q84 n _ m];walk_at "den";exact pushed
theorem words3b(h:j=0\/j=1\/j=2):atI [W.str "or", W.str "odd", W.str "and"] j=some (.str (if j=2 then "and" else if j=0 then "or" else "odd")):=by
 rcases h with rfl|rfl|rfl<;>rfl
def bin3b(j:Int)(f g:Fm):Fm:=if j=2 then .and f g else if j=0 then .or f g else .odd f g
theorem y00(f g:Fm):(W.tup [.str (if j=2 then "and" else if j=0 then "or" else "odd"),enc f,enc g])=enc (bin3b j f g):=by
 unfold bin3b;split
 ·rfl
 ·split<;>rfl
theorem y01(h1:f.inb m)(h2:g.inb m):(bin3b j f g).inb m:=by
 unfold bin3b;split
 ·exact⟨h1,h2⟩
 ·split<;>exact⟨h1,h2⟩
theorem x6a(f g:Fm):(bin3b j f g).depth=max f.depth g.depth+1:=by
 unfold bin3b;split
 ·rfl
 ·split<;>rfl
theorem x8a(f g:Fm):(bin3b j f g).size=f.size+g.size+1:=by
 unfold bin3b;split
 ·rfl
 ·split<;>rfl
theorem q7c:∀(l:List Nat)(k:Nat),(l.take k).sum<=l.sum
 |[],k=>by simp
 |x::l,0=>by simp
 |x::l,k+1=>by have:=q7c l k;simp;omega
theorem y02(n:Nat)(ns:List Int)(m:Nat)(hl:ns.length<=900):∃f:Fm,run K a (n+2) q2z [.lst (ns.map .int),.int m]=.ok (.fr (enc f))/\f.inb m/\f.depth<=ns.length+1/\f.size<=2*ns.length+2:=by
 rw[q4t];unfold q39;walk_at "den";rw[q84 n _ m];walk_at "den"
 obtain⟨e',h1,st,z1,z2,z3,z4,rfl,hp,ok⟩:=x5g (i:=3) (b:=q3c K a (run K a (n+1))) 1000 (fun k e=>∃(st:List Fm)(z3 z4 z5 z6:S),e=[.fr (.lst (ns.map .int)),.fr (.int m),.own none (st.map enc),z3,z4,z5,z6,.no,.no]/\0<st.length/\Ok m st (k+1) (k+1)) (ns.map W.int) 0 [.fr (.lst (ns.map .int)),.fr (.int m),.own none [enc (leafB ((ns.map W.int).length) m)],.no,.no,.no,.no,.no,.no] ⟨[leafB ((ns.map W.int).length) m],_,_,_,_,rfl,by simp,(fun f hf=>by rw[w1g.mp hf];exact x2z _ _),by simp[q92],by simp[x1h]⟩ (by simp;omega) (fun j w e hj hw h=>by
  obtain⟨c,_,rfl⟩:=w0y.mp hw;exact x59 n _ m j c e hj h)
 rw[h1];rw[w0j,w4o]at ok;have hlen:=ok.len;walk_at "den"
 obtain⟨f0,rest,rfl⟩:∃f0 r,st=f0::r:=by
  cases st with
  |nil=>simp at hp
  |cons x r=>exact⟨x,r,rfl⟩
 rw[w0g];walk_at "den";rw[if_pos ⟨q3o (by omega) (by omega),q3o (by omega) (by simp;simp at hlen;omega)⟩];walk_at "den"
 obtain⟨e',h2,f,z,rfl,h3,h4,h5⟩:=q25 (b:=q4p K a (run K a (n+1))) (i:=8) (lo:=1) (hi:=(((rest.map enc).length+1:Nat):Int)) rest.length (by rw[w0j];omega)
  (fun j e=>∃(f:Fm)(z:S),e=[.fr (.lst (ns.map .int)),.fr (.int m),.own none (enc f0::rest.map enc),z1,z2,z3,z4,.fr (enc f),z]/\f.inb m/\f.depth<=f0.depth+((rest.map Fm.depth).take j).sum/\f.size<=f0.size+((rest.map Fm.size).take j).sum+j)
  [.fr (.lst (ns.map .int)),.fr (.int m),.own none (enc f0::rest.map enc),z1,z2,z3,z4,.fr (enc f0),.no] ⟨f0,_,rfl,ok.1 f0 (by simp),by simp,by simp⟩ (by
  rintro j e hj ⟨f,z,rfl,q1,q2,q3⟩;unfold q4p;walk_at "den";rw[words3b (by omega)];walk_at "den"
  have hx:atI (enc f0::rest.map enc) (1+(j:Int))=some (enc rest[j]):=by
   rw[show(1:Int)+j=((j+1:Nat):Int) by omega];refine q5f ?_;simp[hj]
  rw[hx];walk_at "den";rw[y00];refine⟨_,rfl,bin3b _ f rest[j],_,rfl,y01 q1 (ok.1 _ (by simp)),?_,?_⟩
  ·rw[x6a,w2i,w1v,w0a hj];simp only[w4q,w5b,List.sum_append,w4e,List.sum_nil];have:=f.depth_pos;have:=(rest[j]).depth_pos;have:=f0.depth_pos;omega
  ·rw[x8a,w2i,w1v,w0a hj];simp only[w4q,w5b,List.sum_append,w4e,List.sum_nil];omega)
 rw[w0q]at *;rw[h2];walk_at "den";have o2:=ok.2.1;have o3:=ok.2.2;have:=q7c (rest.map Fm.depth) rest.length;have:=q7c (rest.map Fm.size) rest.length;simp at o2 o3;refine⟨f,rfl,h3,by omega,?_⟩;simp at hlen;omega
theorem q62(n:Nat)(c k:Int):∃v:Int,run K a (n+1) q1g [.int c,.int k]=.ok (.fr (.int v)):=by
 rw[q5p];unfold q48;walk_at "den";generalize hx:(c*48271+(k+1)*1299721)%2147483647=x;have h1:0<=x:=by rw[<- hx];exact w1j _ (by decide)
 have h2:x<2147483647:=by rw[<- hx];exact w1b _ (by decide)
 rw[if_pos ⟨by omega,by omega⟩];walk_at "den";exact⟨_,rfl⟩
def isL(c:Nat):Bool:=decide (97<=c)&&decide (c<=122)
def six(x:Str):Bool:=decide (x∈(["yes", "no", "not", "and", "odd", "or"]:List Str))
def okN(x:Str):Bool:=!six x&&(decide (1<=x.length)&&(decide (x.length<=8)&&x.cps.toList.all isL))
def limS(x:Str):Prop:=x.length<=1000/\∀c∈x.cps.toList,c<1000
theorem z58:eqS (.str y) (.str x)=decide (x=y):=by
 show(some (decide (y=x))).getD false=_;simp only[Option.getD_some,eq_comm]
theorem q70:∀ys:List Str,(ys.map W.str).any (fun y=>eqS y (.str x))=decide (x∈ys)
 |[]=>by simp
 |y::ys=>by
  rw[w0g,w4d,q70 ys,z58,<- Bool.decide_or];simp
theorem q66:∀ys:List Str,(ys.map W.str).all scalW=true
 |[]=>rfl
 |y::ys=>by rw[w0g,w2t,q66 ys];rfl
theorem x1i(ys:List Str):inW (.str x) (.tup (ys.map .str))=some (.bl (decide (x∈ys))):=by
 show(if scalW (.str x)=true/\(ys.map W.str).all scalW=true then some (W.bl ((ys.map W.str).any fun y=>eqS y (.str x)))else none)=_
 rw[if_pos ⟨rfl,q66 ys⟩,q70]
theorem z59(ys:List Str):inW (.str x) (.lst (ys.map .str))=some (.bl (decide (x∈ys))):=by
 show(if scalW (.str x)=true/\(ys.map W.str).all scalW=true then some (W.bl ((ys.map W.str).any fun y=>eqS y (.str x)))else none)=_
 rw[if_pos ⟨rfl,q66 ys⟩,q70]
theorem z3o:inW (.str x) (.tup [.str "yes", .str "no", .str "not", .str "and", .str "odd", .str "or"])=some (.bl (six x)):=x1i ["yes", "no", "not", "and", "odd", "or"]
theorem y03(h:x.length<=1000):len1 [.str x]=some (.int x.length):=by rw[y5i,if_pos (by omega)]
theorem x20(n:Nat)(c:Nat):run K a (n+1) q1i [.str ⟨#[c]⟩]=.ok (.fr (.bl (isL c))):=by
 rw[q3i];unfold q2r;walk_at "den";have e1:("a":Str).cps.toList=[97]:=by decide +kernel
 have e2:("z":Str).cps.toList=[122]:=by decide +kernel
 have e3:∀x y:Nat,decide ([x]<[y])=decide (x<y):=fun x y=>by
  rw[decide_eq_decide,List.cons_lt_cons_iff];simp
 have e4:(!decide ((Str.mk #[c]).cps.toList<("a":Str).cps.toList))=decide (97<=c):=by
  rw[e1];show(!decide ([c]<[97]))=_;rw[e3];simp only[<- decide_not,w4t]
 have e5:(!decide (("z":Str).cps.toList<(Str.mk #[c]).cps.toList))=decide (c<=122):=by
  rw[e2];show(!decide ([122]<[c]))=_;rw[e3];simp only[<- decide_not,w4t]
 rw[e4];cases q:decide (97<=c)with
 |false=>
  walk_at "den";simp[isL,q]
 |true=>
  walk_at "den";rw[e5];simp[isL,q]
theorem y04{d:Den W}(h:∀c:Nat,∃e',d [.fr (.str ⟨#[c]⟩)]=.ok (.bl (isL c)) e')(x:Str):compD dYes d [] (signsW x)=some ((x.cps.toList.map isL).map .bl):=by
 have:=x4q (d:=d) (pe:=[]) (g:=fun w=>match w with|.str z=>.bl (z.cps.toList.all isL)|w=>w) (signsW x) fun w hw=>by
  obtain⟨c,_,rfl⟩:=w0y.mp hw;obtain⟨e',h⟩:=h c;exact⟨e',by rw[h];simp⟩
 rw[this];simp[signsW]
theorem y05(h:x.length<=1000):(signsW x).length<=16777216:=by
 unfold signsW;rw[w0j,w1q];have:x.cps.size<=1000:=h;omega
theorem x1j(n:Nat)(x:Str)(hx:x.length<=1000):run K a (n+2) q4x [.str x]=.ok (.fr (.bl (okN x))):=by
 rw[q7b];unfold q65;walk_at "den";rw[y03 hx];walk_at "den"
 by_cases h1:(x.length:Int)<1
 ·simp only[h1];walk_at "den";have:¬1<=x.length:=by omega
  simp[okN,this]
 ·simp only[h1];walk_at "den";rw[y03 hx];walk_at "den"
  by_cases h2:(x.length:Int)>8
  ·simp only[h2];walk_at "den";have:¬x.length<=8:=by omega
   simp[okN,this]
  ·simp only[h2];walk_at "den";rw[z3o];walk_at "den";cases h3:six x with
   |true=>
    walk_at "den";simp[okN,h3]
   |false=>
    walk_at "den";rw[if_pos (y05 hx),y04 (fun c=>⟨[.fr (.str ⟨#[c]⟩)],by unfold q91;walk_at "den";rw[x20 n c];walk_at "den"⟩) x]
    walk_at "den";rw[z5v];walk_at "den";have g1:1<=x.length:=by omega
    have g2:x.length<=8:=by omega
    simp[okN,h3,g1,g2]
def letters(t:Str):Prop:=∀c∈t.cps.toList,isL c=true
def tx(cs:List Nat):Str:=⟨cs.toArray⟩
theorem q07(cs:List Nat):(tx cs).cps.toList=cs:=by simp[tx]
theorem q0t(cs:List Nat):(tx cs).length=cs.length:=by show cs.toArray.size=_;simp
theorem q2e(x:Str):tx x.cps.toList=x:=by cases x;simp[tx]
theorem q2i(as bs:List Nat):tx as++tx bs=tx (as++bs):=by
 show Str.mk (as.toArray++bs.toArray)=_;simp[tx]
theorem y06{x y:List Nat}(h:tx x=tx y):x=y:=by rw[<- q07 x,h,q07]
def pN:Nat->List Str->List (Key×Sv)
 |_,[]=>[]
 |k,x::xs=>(.inr x,.inl (k:Int))::pN (k+1) xs
theorem x6y:∀(k:Nat)(xs:List Str)(x:Str),pN k (xs++[x])=pN k xs++[(.inr x,.inl ((k+xs.length:Nat):Int))]
 |k,[],x=>by simp[pN]
 |k,y::xs,x=>by
  show(_,_)::pN (k+1) (xs++[x])=_;rw[x6y (k+1) xs x];have:k+1+xs.length=k+(y::xs).length:=by simp;omega
  rw[this];rfl
theorem y07:∀(k:Nat)(xs:List Str),(pN k xs).length=xs.length
 |_,[]=>rfl
 |k,x::xs=>by simp[pN,y07 (k+1) xs]
theorem y08:∀(k:Nat)(xs:List Str),((pN k xs).any fun p=>decide (p.1=.inr x))=decide (x∈xs)
 |_,[]=>by simp[pN]
 |k,y::xs=>by
  show(decide ((Sum.inr y:Key)=.inr x)||_)=_;rw[y08 (k+1) xs,<- Bool.decide_or,decide_eq_decide];simp[eq_comm]
theorem x31{x:Str}:∀(k:Nat)(xs:List Str),lk (pN k xs) (.inr x)=(idxS x xs).map fun j=>.inl ((k+j:Nat):Int)
 |_,[]=>rfl
 |k,y::xs=>by
  have ih:=x31 (x:=x) (k+1) xs;unfold lk at ih |-
  show Option.map _ (List.find? _ ((.inr y,.inl (k:Int))::pN (k+1) xs))=_
  by_cases h:y=x
  ·subst h;simp[idxS]
  ·have h1:decide ((Sum.inr y:Key)=.inr x)=false:=by simp[h]
   rw[w2g,h1,ih];show _=Option.map _ (if y=x then _ else _);rw[if_neg h,Option.map_map];congr 1;funext j
   simp only[Function.comp];congr 2;omega
theorem q9n:∀xs:List Str,(idxS x xs).isSome=decide (x∈xs)
 |[]=>by simp[idxS]
 |y::xs=>by
  unfold idxS
  by_cases h:y=x
  ·simp[h]
  ·rw[if_neg h,w2a,q9n xs,decide_eq_decide,w0d];exact⟨.inr,fun z=>z.elim (fun e=>absurd e.symm h) id⟩
theorem z3p(h:isL c=true):c<1000:=by
 unfold isL at h;rw[<- Bool.decide_and]at h;have:=of_decide_eq_true h;omega
theorem q1j(h:okN x=true):six x=false/\1<=x.length/\x.length<=8/\letters x:=by
 unfold okN at h;simp only[w0p,w3g,decide_eq_true_eq,w1s]at h;exact⟨h.1,h.2.1,h.2.2.1,h.2.2.2⟩
theorem x6z(h:okN x=true):limS x:=by
 obtain⟨_,_,h2,h3⟩:=q1j h;exact⟨by omega,fun c hc=>z3p (h3 c hc)⟩
theorem q71{l:List W}{k:Nat}(h:k<=l.length):cutW l (some (k:Int)) none=l.drop k:=by
 unfold cutW;rw[HT.sIx_none,HT.sIx_nat,w2h h,w1t (by simp)]
theorem x60{k:Nat}(h:k<xs.length):atI (xs.map W.str) (k:Int)=some (.str xs[k]):=by
 rw[x4r (by omega),w2f,w1v,w0a h];rfl
theorem x5h{l:List W}{k:Nat}(h:k<=l.length):cutW l none (some (k:Int))=l.take k:=by
 unfold cutW;rw[HT.sIx_none,HT.sIx_nat,w2h h];simp
def par(b:Bool)(x:Str):Str:=if b=true then "("++(x++")")else x
theorem q1q(x y:Str):(x++y).length=x.length+y.length:=by
 cases x;cases y;exact Array.size_append
def upto(cs:List Nat):Nat:=(cs.takeWhile isL).length
def stp(cs:List Nat):Nat:=max 1 (upto cs)
theorem x61(cs:List Nat):upto cs<=cs.length:=(List.takeWhile_sublist _).length_le
theorem lenB(h:cs.length<=100000):len1 [.str (tx cs)]=some (.int cs.length):=by rw[y5i,q0t,if_pos (by omega)]
theorem ixB{cs:List Nat}(h:cs.length<=100000){k:Nat}(hc:cs[k]?=some c):ixW (.str (tx cs)) (.int k)=some (.str ⟨#[c]⟩):=by
 show(if(tx cs).length<=16777216 then(atI (tx cs).cps.toList k).map fun c=>W.str ⟨#[c]⟩else none)=_
 rw[if_pos (by rw[q0t];omega),x4r (by omega),w2f,q07,hc];rfl
theorem y09{k:Nat}(hc:cs[k]?=some c):upto (cs.drop k)=if isL c=true then upto (cs.drop (k+1))+1 else 0:=by
 obtain⟨hk,rfl⟩:=w0n.mp hc;rw[w1o hk];unfold upto;rw[w3t];split<;>rfl
theorem y4b{k:Nat}(h:cs.length<=k):upto (cs.drop k)=0:=by
 rw[w4l h];rfl
theorem x5i(n:Nat)(cs:List Nat)(hcs:cs.length<=100000)(p:Int):∀(m k fuel:Nat),upto (cs.drop k)=m->m<fuel ->
  whileD (q28 K a (run K a (n+1))) (q29 K a (run K a (n+1))) fuel [.fr (.str (tx cs)),.fr (.int p),.fr (.int k)]=.nx [.fr (.str (tx cs)),.fr (.int p),.fr (.int ((k+m:Nat):Int))]
 |m,k,0,_,hf=>by omega
 |m,k,fuel+1,hm,hf=>by
  rw[q9g];unfold q28;walk_at "den";rw[lenB hcs];walk_at "den"
  by_cases hk:k<cs.length
  ·have hg:cs[k]?=some cs[k]:=w0a hk;have h1:(k:Int)<(cs.length:Int):=by omega
   simp only[h1];walk_at "den";rw[ixB hcs hg];walk_at "den";rw[x20 n];walk_at "den";rw[y09 hg]at hm;cases q:isL cs[k]with
   |false=>
    rw[q,if_neg (by simp)]at hm;subst hm;walk_at "den";simp only[Nat.add_zero]
   |true=>
    rw[q,if_pos rfl]at hm;obtain⟨m',rfl⟩:∃m',m=m'+1:=⟨upto (cs.drop (k+1)),hm.symm⟩;have ih:=x5i n cs hcs p m' (k+1) fuel (by omega) (by omega);unfold q29;walk_at "den";unfold q28 q29 at ih;rw[show((k:Int)+1)=((k+1:Nat):Int) by omega];rw[show k+(m'+1)=k+1+m' by omega];exact ih
  ·rw[y4b (by omega)]at hm;subst hm;have h1:¬(k:Int)<(cs.length:Int):=by omega
   simp only[h1];walk_at "den";simp only[Nat.add_zero]
theorem y85{k:Nat}:(if(k:Int)+1>((k+m:Nat):Int)then(k:Int)+1 else((k+m:Nat):Int))=((k+max 1 m:Nat):Int):=by
 split<;>omega
theorem y4c{k:Nat}:(if((k+m:Nat):Int)<(k:Int)+1 then(k:Int)+1 else((k+m:Nat):Int))=((k+max 1 m:Nat):Int):=by
 split<;>omega
theorem y86(n:Nat)(cs:List Nat)(hcs:cs.length<=100000)(k:Nat):run K a (n+2) q2x [.str (tx cs),.int k]=.ok (.fr (.int ((k+stp (cs.drop k):Nat):Int))):=by
 rw[q4q];unfold q35;walk_at "den";have hu:=x61 (cs.drop k);rw[w1i]at hu;rw[x5i n cs hcs k (upto (cs.drop k)) k 1000000 rfl (by omega)];walk_at "den"
 first|rw[y85]|rw[y4c]|skip
 rfl
def pcs:Nat->List Nat->Nat->List (Nat×List Nat)
 |0,_,_=>[]
 |f+1,cs,k=>if k<cs.length then(if cs[k]?=some 32 then[]else[(k,(cs.drop k).take (stp (cs.drop k)))])++pcs f cs (k+stp (cs.drop k))else[]
theorem x62:∀(f:Nat)(cs:List Nat)(k:Nat),(pcs f cs k).length<=f
 |0,_,_=>w0b _
 |f+1,cs,k=>by
  unfold pcs;split
  ·rw[w0r];have:=x62 f cs (k+stp (cs.drop k));split
   ·simp only[w3e];omega
   ·simp only[w0q,w3e];omega
  ·simp
def encP(p:Nat×List Nat):W:=.tup [.int p.1,.str (tx p.2)]
theorem x21(c:Nat):(Str.mk #[c]=(" ":Str))=(c=32):=by
 have e:(" ":Str)=tx [32]:=by decide +kernel
 rw[e,eq_iff_iff];constructor
 ·intro z;have:=y06 (show tx [c]=tx [32]from z)
  simpa using this
 ·rintro rfl;rfl
theorem y1a(cs:List Nat)(k m:Nat)(hm:1<=m)(h:k+m<=cs.length):Txt.slice (tx cs) (some (k:Int)) (some ((k+m:Nat):Int))=tx ((cs.drop k).take m):=by
 unfold Txt.slice;rw[StrLaws.sliced_plain (tx cs) (show k<=k+m by omega) (by rw[q0t];exact h),q07];split
 ·rename_i q;rw[StrLaws.strSliceIndices_plain (show k<=k+m by omega) (by rw[q0t];exact h),q0t]at q;simp at q;have:k=0:=by omega
  subst this;rw[w4u,w1t (by omega)]
 ·rw[show k+m-k=m by omega];simp[tx]
theorem z3q{k:Nat}(h:k<cs.length):1<=stp (cs.drop k)/\k+stp (cs.drop k)<=cs.length:=by
 have:=x61 (cs.drop k);rw[w1i]at this;unfold stp;omega
theorem y87{k:Nat}(h:cs.length<=k):pcs m cs k=[]:=by
 cases m with
 |zero=>rfl
 |succ m=>unfold pcs;rw[if_neg (by omega)]
theorem y1b{k:Nat}(h:k<cs.length)(hc:cs[k]?=some 32):pcs (m+1) cs k=pcs m cs (k+stp (cs.drop k)):=by
 rw[pcs,if_pos h,if_pos hc,w1p]
theorem y4d{k:Nat}(h:k<cs.length)(hc:cs[k]?≠some 32):pcs (m+1) cs k=(k,(cs.drop k).take (stp (cs.drop k)))::pcs m cs (k+stp (cs.drop k)):=by
 rw[pcs,if_pos h,if_neg hc,w3j]
theorem q72(n:Nat)(cs:List Nat)(hcs:cs.length<=100000):∀(m k fuel:Nat)(acc:List W)(s3:S),cs.length-k<=m->m<fuel->acc.length+m<=200000 ->
  ∃q s3',whileD (q3e K a (run K a (n+2))) (q3f K a (run K a (n+2))) fuel [.fr (.str (tx cs)),.own none acc,.fr (.int k),s3]=.nx [.fr (.str (tx cs)),.own none (acc++(pcs m cs k).map encP),.fr (.int q),s3']
 |m,k,0,acc,s3,_,hf,_=>by omega
 |m,k,fuel+1,acc,s3,hm,hf,ha=>by
  rw[q9g];unfold q3e;walk_at "den";rw[lenB hcs];walk_at "den"
  by_cases hk:k<cs.length
  ·obtain⟨m',rfl⟩:∃m',m=m'+1:=⟨m-1,by omega⟩;have hg:cs[k]?=some cs[k]:=w0a hk;have hs:=z3q hk;have h1:(k:Int)<(cs.length:Int):=by omega
   simp only[h1];unfold q3f;walk_at "den";rw[y86 n cs hcs k];walk_at "den";rw[ixB hcs hg];walk_at "den"
   by_cases hb:cs[k]=32
   ·have ih:=q72 n cs hcs m' (k+stp (cs.drop k)) fuel acc (.fr (.int ((k+stp (cs.drop k):Nat):Int))) (by omega) (by omega) (by omega);rw[y1b hk (by rw[hg,hb])];simp only[show(Str.mk #[cs[k]]=(" ":Str))=True by rw[x21];simpa using hb];walk_at "den";unfold q3e q3f at ih;exact ih
   ·have ih:=q72 n cs hcs m' (k+stp (cs.drop k)) fuel (acc++[encP (k,(cs.drop k).take (stp (cs.drop k)))]) (.fr (.int ((k+stp (cs.drop k):Nat):Int))) (by omega) (by omega) (by simp;omega);rw[y4d hk (by rw[hg];simpa using hb)];simp only[show(Str.mk #[cs[k]]=(" ":Str))=False by rw[x21];simpa using hb];walk_at "den";rw[z51 (by rw[q0t];omega),y1a cs k _ hs.1 hs.2];walk_at "den";rw[if_pos (by omega)];walk_at "den";unfold q3e q3f at ih;rw[w0l]at ih;exact ih
  ·rw[y87 (by omega)];have h1:¬(k:Int)<(cs.length:Int):=by omega
   simp only[h1];walk_at "den";exact⟨k,s3,by simp⟩
def pieces(cs:List Nat):List (Nat×List Nat):=pcs cs.length cs 0
theorem x1k(n:Nat)(cs:List Nat)(hcs:cs.length<=100000):run K a (n+3) q3g [.str (tx cs)]=.ok (.own none ((pieces cs).map encP)):=by
 rw[q6d];unfold q5y;walk_at "den";obtain⟨q,s3,h⟩:=q72 (K:=K) (a:=a) n cs hcs cs.length 0 1000000 [] .no (by omega) (by omega) (by simp;omega);rw[show(.fr (.int ((0:Nat):Int)):S)=.fr (.int 0)from rfl]at h;rw[h];walk_at "den";rfl
def jw:List Str:=["and", "odd", "or"]
def flt0(xs:List Str):List (Nat×List Nat)->Bool->Nat->Nat ⊕ (Bool×Nat)
 |[],aw,br=>.inr (aw,br)
 |(k,p)::ps,true,br=>
  if tx p="(" /\ br<12 then flt0 xs ps true (br+1)
  else if tx p∈xs\/tx p="yes"\/tx p="no" then flt0 xs ps false br
  else if tx p="not" then flt0 xs ps true br else .inl k
 |(k,p)::ps,false,br=>
  if tx p=")" /\ 0<br then flt0 xs ps false (br-1)
  else if tx p∈jw then flt0 xs ps true br else .inl k
def flt(xs:List Str)(L:Nat)(ps:List (Nat×List Nat)):Option Nat:=match flt0 xs ps true 0 with
 |.inl k=>some k
 |.inr (aw,br)=>if aw=true\/0<br then some L else none
def encO:Option Nat->W
 |none=>.non
 |some k=>.int (k:Int)
theorem q73:inW (.str t) (.tup [.str "and", .str "odd", .str "or"])=some (.bl (decide (t∈jw))):=x1i jw
theorem y1c(n:Nat)(t:Str)(br:Nat)(xs:List Str):run K a (n+1) q4f [.str t,.int br,.dic (.k (pN 0 xs))]=.ok (.fr (.bl (if t="(" then decide (br<12)else decide (t∈(["yes", "no", "not"]:List Str))||decide (t∈xs)))):=by
 rw[q6e];unfold q5z;walk_at "den"
 by_cases h1:t="("
 ·simp only[eq_true h1];walk_at "den";simp only[show((br:Int)<12)=(br<12)from propext (by omega)]
 ·simp only[eq_false h1];walk_at "den";have e:inW (.str t) (.tup [.str "yes", .str "no", .str "not"])=some (.bl (decide (t∈(["yes", "no", "not"]:List Str)))):=x1i ["yes", "no", "not"];rw[e];cases q:decide (t∈(["yes", "no", "not"]:List Str))with
  |true=>walk_at "den";rfl
  |false=>
   walk_at "den";rw[x31,w2a,q9n];rfl
theorem x8b(n:Nat)(t:Str)(br:Nat):run K a (n+1) q3t [.str t,.int br]=.ok (.fr (.bl (if t=")" then decide (0<br)else decide (t∈jw)))):=by
 rw[q5m];unfold q44;walk_at "den"
 by_cases h1:t=")"
 ·simp only[eq_true h1];walk_at "den";simp only[show((br:Int)>0)=(0<br)from propext (by omega)]
 ·simp only[eq_false h1];walk_at "den";rw[q73];walk_at "den"
theorem y88(n:Nat)(w:W)(xs:List Str)(hx:∀x∈xs,okN x=true)(L:Int)(k:Nat)(p:List Nat)(br:Nat)(s7:S):∃t7,
  q1h K a (run K a (n+1)) [.fr w,.fr (.dic (.k (pN 0 xs))),.fr (.int L),.fr (.bl true),.fr (.int br),.fr (.int k),.fr (.str (tx p)),s7] =
   (if tx p="(" /\ br<12 then .nx [.fr w,.fr (.dic (.k (pN 0 xs))),.fr (.int L),.fr (.bl true),.fr (.int ((br+1:Nat):Int)),.fr (.int k),.fr (.str (tx p)),t7]
   else if tx p∈xs\/tx p="yes"\/tx p="no" then .nx [.fr w,.fr (.dic (.k (pN 0 xs))),.fr (.int L),.fr (.bl false),.fr (.int br),.fr (.int k),.fr (.str (tx p)),t7]
   else if tx p="not" then .nx [.fr w,.fr (.dic (.k (pN 0 xs))),.fr (.int L),.fr (.bl true),.fr (.int br),.fr (.int k),.fr (.str (tx p)),t7]else .rt (.fr (.int k)) [.fr w,.fr (.dic (.k (pN 0 xs))),.fr (.int L),.fr (.bl true),.fr (.int br),.fr (.int k),.fr (.str (tx p)),t7]):=by
 refine⟨.fr (.bl (if tx p="(" then decide (br<12)else decide (tx p∈(["yes", "no", "not"]:List Str))||decide (tx p∈xs))),?_⟩;unfold q1h;walk_at "den";rw[y1c n];walk_at "den"
 by_cases h1:tx p="("
 ·have nx:tx p∉xs:=fun z=>by
   have:=(q1j (hx _ z)).2.2.2;rw[h1]at this;exact absurd (this 40 (by decide +kernel)) (by decide)
  have h2:¬tx p="yes":=by rw[h1];decide +kernel
  have h3:¬tx p="no":=by rw[h1];decide +kernel
  have h4:¬tx p="not":=by rw[h1];decide +kernel
  simp only[eq_true h1,eq_false nx,eq_false h2,eq_false h3,eq_false h4];walk_at "den"
  by_cases hb:br<12
  ·simp only[eq_true hb];walk_at "den";rw[show(br:Int)+1=((br+1:Nat):Int) by omega]
  ·simp only[eq_false hb];walk_at "den"
 ·simp only[eq_false h1];walk_at "den"
  by_cases h5:tx p∈xs
  ·have ok:=q1j (hx _ h5);have h6:tx p∉(["yes", "no", "not", "and", "odd", "or"]:List Str):=of_decide_eq_false ok.1;simp only[w0d,w0o,or_false,not_or]at h6;obtain⟨q1,q2,q3,q4,q5,q6⟩:=h6
   have nc:¬tx p=")":=fun z=>by
    have:=ok.2.2.2;rw[z]at this;exact absurd (this 41 (by decide +kernel)) (by decide)
   have m3:¬(tx p∈(["yes", "no", "not"]:List Str)):=by simp[q1,q2,q3]
   have mj:¬(tx p∈jw):=by unfold jw;simp[q4,q5,q6]
   simp only[eq_true h5,eq_false m3,eq_false nc,eq_false q3,Bool.or_true];walk_at "den";rw[q73];simp only[eq_false mj];walk_at "den";try rfl
  ·by_cases q1:tx p="yes"
   ·have m3:tx p∈(["yes", "no", "not"]:List Str):=by rw[q1];simp
    have nc:¬tx p=")":=by rw[q1];decide +kernel
    have q3:¬tx p="not":=by rw[q1];decide +kernel
    have mj:¬(tx p∈jw):=by rw[q1];decide +kernel
    simp only[eq_false h5,eq_true m3,eq_true q1,eq_false nc,eq_false q3,w5g];walk_at "den";rw[q73];simp only[eq_false mj];walk_at "den";try rfl
   ·by_cases q2:tx p="no"
    ·have m3:tx p∈(["yes", "no", "not"]:List Str):=by rw[q2];simp
     have nc:¬tx p=")":=by rw[q2];decide +kernel
     have q3:¬tx p="not":=by rw[q2];decide +kernel
     have mj:¬(tx p∈jw):=by rw[q2];decide +kernel
     simp only[eq_false h5,eq_true m3,eq_false q1,eq_true q2,eq_false nc,eq_false q3,w5g];walk_at "den";rw[q73];simp only[eq_false mj];walk_at "den";try rfl
    ·by_cases q3:tx p="not"
     ·have m3:tx p∈(["yes", "no", "not"]:List Str):=by rw[q3];simp
      have nc:¬tx p=")":=by rw[q3];decide +kernel
      simp only[eq_false h5,eq_true m3,eq_false q1,eq_false q2,eq_false nc,eq_true q3,w5g];walk_at "den";try rfl
     ·have m3:¬(tx p∈(["yes", "no", "not"]:List Str)):=by simp[q1,q2,q3]
      simp only[eq_false h5,eq_false m3,eq_false q1,eq_false q2,eq_false q3,Bool.or_false];walk_at "den";try rfl
theorem y4e(n:Nat)(w:W)(xs:List Str)(L:Int)(k:Nat)(p:List Nat)(br:Nat)(s7:S):∃t7,
  q1h K a (run K a (n+1)) [.fr w,.fr (.dic (.k (pN 0 xs))),.fr (.int L),.fr (.bl false),.fr (.int br),.fr (.int k),.fr (.str (tx p)),s7] =
   (if tx p=")" /\ 0<br then .nx [.fr w,.fr (.dic (.k (pN 0 xs))),.fr (.int L),.fr (.bl false),.fr (.int ((br-1:Nat):Int)),.fr (.int k),.fr (.str (tx p)),t7]
   else if tx p∈jw then .nx [.fr w,.fr (.dic (.k (pN 0 xs))),.fr (.int L),.fr (.bl true),.fr (.int br),.fr (.int k),.fr (.str (tx p)),t7]else .rt (.fr (.int k)) [.fr w,.fr (.dic (.k (pN 0 xs))),.fr (.int L),.fr (.bl false),.fr (.int br),.fr (.int k),.fr (.str (tx p)),t7]):=by
 refine⟨.fr (.bl (if tx p=")" then decide (0<br)else decide (tx p∈jw))),?_⟩;unfold q1h;walk_at "den";rw[x8b n];walk_at "den"
 by_cases h1:tx p=")"
 ·have mj:¬(tx p∈jw):=by rw[h1];decide +kernel
  have ho:¬tx p="(":=by rw[h1];decide +kernel
  simp only[eq_true h1,eq_false mj,eq_false ho];walk_at "den"
  by_cases hb:0<br
  ·simp only[eq_true hb];walk_at "den";rw[show(br:Int)-1=((br-1:Nat):Int) by omega]
  ·simp only[eq_false hb];walk_at "den"
 ·simp only[eq_false h1];walk_at "den"
  by_cases hj:tx p∈jw
  ·have ho:¬tx p="(":=fun z=>by rw[z]at hj;exact absurd hj (by decide +kernel)
   simp only[eq_true hj,eq_false ho];walk_at "den";rw[q73];simp only[eq_true hj]
   by_cases hn:tx p="not"
   ·simp only[eq_true hn];walk_at "den"
   ·simp only[eq_false hn];walk_at "den"
  ·simp only[eq_false hj];walk_at "den"
def pr2(p:Nat×List Nat):W×W:=(.int p.1,.str (tx p.2))
theorem q85:∀ps:List (Nat×List Nat),pairsW (ps.map encP)=some (ps.map pr2)
 |[]=>rfl
 |p::ps=>by
  rw[w0g,w0g];show((pairsW (ps.map encP)).map ((W.int p.1,W.str (tx p.2))::·))=_;rw[q85 ps];rfl
theorem q6o(n:Nat)(w:W)(xs:List Str)(hx:∀x∈xs,okN x=true)(L:Int):∀(ps:List (Nat×List Nat))(aw:Bool)(br:Nat)(s5 s6 s7:S),
  match flt0 xs ps aw br with
  |.inl k=>∃e,forP 5 6 (q1h K a (run K a (n+1))) (ps.map pr2) [.fr w,.fr (.dic (.k (pN 0 xs))),.fr (.int L),.fr (.bl aw),.fr (.int br),s5,s6,s7]=.rt (.fr (.int k)) e
  |.inr (aw',br')=>∃t5 t6 t7,forP 5 6 (q1h K a (run K a (n+1))) (ps.map pr2) [.fr w,.fr (.dic (.k (pN 0 xs))),.fr (.int L),.fr (.bl aw),.fr (.int br),s5,s6,s7]=.nx [.fr w,.fr (.dic (.k (pN 0 xs))),.fr (.int L),.fr (.bl aw'),.fr (.int br'),t5,t6,t7]
 |[],aw,br,s5,s6,s7=>⟨s5,s6,s7,rfl⟩
 |(k,p)::ps,true,br,s5,s6,s7=>by
  rw[flt0,w0g,q3r];simp only[pr2,w2p,w2q];obtain⟨t7,e7⟩:=y88 (K:=K) (a:=a) n w xs hx L k p br s7;rw[e7]
  by_cases h1:tx p="(" /\ br<12
  ·rw[if_pos h1,if_pos h1];simp only[q1f];exact q6o n w xs hx L ps true (br+1) _ _ _
  ·rw[if_neg h1,if_neg h1]
   by_cases h2:tx p∈xs\/tx p="yes"\/tx p="no"
   ·rw[if_pos h2,if_pos h2];simp only[q1f];exact q6o n w xs hx L ps false br _ _ _
   ·rw[if_neg h2,if_neg h2]
    by_cases h3:tx p="not"
    ·rw[if_pos h3,if_pos h3];simp only[q1f];exact q6o n w xs hx L ps true br _ _ _
    ·rw[if_neg h3,if_neg h3];exact⟨_,rfl⟩
 |(k,p)::ps,false,br,s5,s6,s7=>by
  rw[flt0,w0g,q3r];simp only[pr2,w2p,w2q];obtain⟨t7,e7⟩:=y4e (K:=K) (a:=a) n w xs L k p br s7;rw[e7]
  by_cases h1:tx p=")" /\ 0<br
  ·rw[if_pos h1,if_pos h1];simp only[q1f];exact q6o n w xs hx L ps false (br-1) _ _ _
  ·rw[if_neg h1,if_neg h1]
   by_cases h2:tx p∈jw
   ·rw[if_pos h2,if_pos h2];simp only[q1f];exact q6o n w xs hx L ps true br _ _ _
   ·rw[if_neg h2,if_neg h2];exact⟨_,rfl⟩
theorem y1d(n:Nat)(ps:List (Nat×List Nat))(L:Nat)(xs:List Str)(hx:∀x∈xs,okN x=true):run K a (n+2) q2a [.lst (ps.map encP),.dic (.k (pN 0 xs)),.int L]=.ok (.fr (encO (flt xs L ps))):=by
 rw[q5c];unfold q4l;walk_at "den";rw[q85];walk_at "den";have h:=q6o (K:=K) (a:=a) n (.lst (ps.map encP)) xs hx L ps true 0 .no .no .no;unfold flt;cases q:flt0 xs ps true 0 with
 |inl k=>
  rw[q]at h;obtain⟨e,h⟩:=h;rw[show(W.int ((0:Nat):Int))=.int 0 from rfl]at h;rw[h];walk_at "den";rfl
 |inr z=>
  obtain⟨aw,br⟩:=z;rw[q]at h;obtain⟨t5,t6,t7,h⟩:=h;rw[show(W.int ((0:Nat):Int))=.int 0 from rfl]at h;rw[h];walk_at "den";cases aw with
  |true=>
   walk_at "den";rfl
  |false=>
   walk_at "den"
   by_cases hb:0<br
   ·have hb':(br:Int)>0:=by omega
    simp only[eq_true hb',eq_true hb];walk_at "den";rfl
   ·have hb':¬(br:Int)>0:=by omega
    simp only[eq_false hb',eq_false hb];walk_at "den";rfl
def tgt(t:Str):Nat:=if t="(" then 0 else if t="or" then 1 else if t="odd" then 2 else if t="and" then 3 else 4
def wrd5:List Str:=["(", "or", "odd", "and", "not"]
theorem tab5(h:t∈wrd5):tabW q3s (.str t)=some (.int (tgt t)):=by
 unfold wrd5 at h;simp only[w0d,w0o,or_false]at h;rcases h with rfl|rfl|rfl|rfl|rfl<;>rfl
def need:List Str->Nat
 |[]=>0
 |t::ts=>(if t="("\/t="not" then 0 else 1)+need ts
def opn:List Str->Nat
 |[]=>0
 |t::ts=>(if t="(" then 1 else 0)+opn ts
def settleF(l:Nat):List Str->List W->List Str×List W
 |[],fs=>([],fs)
 |t::ts,fs=>if l<=tgt t then
   (if t="not" then(match fs with
    |f::fs=>settleF l ts (.tup [.str "not", f]::fs)
    |[]=>(t::ts,[]))
   else(match fs with
    |g::f::fs=>settleF l ts (.tup [.str t,f,g]::fs)
    |_=>(t::ts,fs)))
  else(t::ts,fs)
theorem x63{w:W}:atI (ws++[w]) (-1)=some w:=by
 unfold atI
 have:ixN (ws++[w]).length (-1)=some ws.length:=by
  unfold ixN;simp;omega
 rw[this];simp
theorem q7d(n:Nat)(l:Nat):∀(wt:List Str)(fs:List W)(fuel:Nat)(s3 s4:S),(∀t∈wt,t∈wrd5)->need wt<fs.length->(l=0->opn wt=0)->wt.length<fuel->wt.length<=200000->fs.length<=200000 ->
  ∃t3 t4,whileD (q36 K a (run K a n)) (q45 K a (run K a n)) fuel [.own (some 0) fs.reverse,.own (some 1) (wt.reverse.map .str),.fr (.int l),s3,s4]=.nx [.own (some 0) (settleF l wt fs).2.reverse,.own (some 1) ((settleF l wt fs).1.reverse.map .str),.fr (.int l),t3,t4]
 |wt,fs,0,s3,s4,_,_,_,hf,_,_=>by omega
 |[],fs,fuel+1,s3,s4,_,_,_,_,_,hl=>by
  rw[q9g];unfold q36;walk_at "den";exact⟨s3,s4,rfl⟩
 |t::ts,fs,fuel+1,s3,s4,hw,hn,ho,hf,hl,hl2=>by
  rw[q9g];unfold q36;have e1:((t::ts).reverse.map W.str)=ts.reverse.map W.str++[.str t]:=by simp
  rw[e1];walk_at "den";have h0:((ts.reverse.map W.str++[W.str t]).length:Int)>0:=by simp
  simp only[eq_true h0];walk_at "den";rw[x63];walk_at "den";rw[tab5 (hw t (by simp))];walk_at "den";unfold settleF
  by_cases hg:l<=tgt t
  ·have hg':(tgt t:Int)>=(l:Int):=by omega
   simp only[eq_true hg',eq_true hg]
   have hp:t≠"(":=fun z=>by
    subst z
    have hl0:l=0:=by
     have:tgt "("=0:=by decide +kernel
     omega
    have:=ho hl0;unfold opn at this;rw[if_pos rfl]at this;omega
   unfold q45;walk_at "den";unfold need at hn
   by_cases hn1:t="not"
   ·subst hn1;rw[if_pos (.inr rfl)]at hn;cases fs with
    |nil=>simp at hn
    |cons f fs=>
     have ih:=q7d n l ts (.tup [.str "not", f]::fs) fuel (.fr (.str "not")) (.fr f) (fun t ht=>hw t (by simp[ht])) (by simpa using hn) (fun z=>by
      have:=ho z;unfold opn at this;omega) (by simp at hf;omega) (by simp at hl;omega) (by simpa using hl2)
     rw[w2u]at ih |-
     walk_at "den";rw[if_pos (by simp at hl2 |-;omega)];walk_at "den";unfold q36 q45 at ih;exact ih
   ·rw[if_neg (not_or.mpr ⟨hp,hn1⟩)]at hn
    match fs,hn,hl2 with
    |[],hn,_=>simp at hn
    |[g],hn,_=>simp at hn
    |g::f::fs,hn,hl2=>
     have ih:=q7d n l ts (.tup [.str t,f,g]::fs) fuel (.fr (.str t)) (.fr g) (fun t ht=>hw t (by simp[ht])) (by simp at hn |-;omega) (fun z=>by
      have:=ho z;unfold opn at this;omega) (by simp at hf;omega) (by simp at hl;omega) (by simp at hl2 |-;omega)
     rw[w2u,w2u];rw[w2u]at ih;walk_at "den";simp only[eq_false hn1];walk_at "den";rw[if_pos (by simp at hl2 |-;omega)];walk_at "den";unfold q36 q45 at ih;exact ih
  ·have hg':¬(tgt t:Int)>=(l:Int):=by omega
   simp only[eq_false hg',eq_false hg];walk_at "den";exact⟨s3,s4,by simp⟩
theorem q74(n:Nat)(l:Nat)(wt:List Str)(fs:List W)(hw:∀t∈wt,t∈wrd5)(hn:need wt<fs.length)(hl0:l=0->opn wt=0)(hl:wt.length<=200000)(hl2:fs.length<=200000):
  run K a (n+1) q4n [.lst fs.reverse,.lst (wt.reverse.map .str),.int l]=.ok (.fr (.tup [.lst (settleF l wt fs).2.reverse,.lst ((settleF l wt fs).1.reverse.map .str)])):=by
 rw[q7z];unfold q7y;walk_at "den";obtain⟨t3,t4,h⟩:=q7d (K:=K) (a:=a) n l wt fs 1000000 .no .no hw hn hl0 (by omega) hl hl2;rw[h];walk_at "den"
theorem x64(h:t≠"("):1<=tgt t:=by
 unfold tgt;rw[if_neg h];split<;>(try split)<;>(try split)<;>omega
theorem q6j(l:Nat)(h1:1<=l):∀(wt:List Str)(fs:List W),(∀t∈wt,t∈wrd5)->fs.length=need wt+1 ->
  (∀t∈(settleF l wt fs).1,t∈wrd5)/\opn (settleF l wt fs).1=opn wt/\(settleF l wt fs).2.length=need (settleF l wt fs).1+1/\(settleF l wt fs).1.length<=wt.length/\(settleF l wt fs).2.length<=fs.length/\(∀t ts,(settleF l wt fs).1=t::ts->tgt t<l)
 |[],fs,hw,hn=>⟨hw,rfl,hn,w0b _,w0b _,fun t ts z=>by cases z⟩
 |t::ts,fs,hw,hn=>by
  unfold settleF;unfold need at hn
  by_cases hg:l<=tgt t
  ·rw[if_pos hg]
   have hp:t≠"(":=fun z=>by
    subst z;have:tgt "("=0:=by decide +kernel
    omega
   by_cases hn1:t="not"
   ·rw[if_pos hn1];rw[if_pos (.inr hn1)]at hn;cases fs with
    |nil=>simp at hn
    |cons f fs=>
     have ih:=q6j l h1 ts (.tup [.str "not", f]::fs) (fun t ht=>hw t (by simp[ht])) (by simp at hn |-;omega)
     refine⟨ih.1,?_,ih.2.2.1,by simp;omega,ih.2.2.2.2.1,ih.2.2.2.2.2⟩;rw[ih.2.1];unfold opn;rw[if_neg hp];cases ts<;>simp[opn]
   ·rw[if_neg hn1];rw[if_neg (not_or.mpr ⟨hp,hn1⟩)]at hn
    match fs,hn with
    |[],hn=>simp at hn
    |[g],hn=>simp at hn
    |g::f::fs,hn=>
     have ih:=q6j l h1 ts (.tup [.str t,f,g]::fs) (fun t ht=>hw t (by simp[ht])) (by simp at hn |-;omega)
     refine⟨ih.1,?_,ih.2.2.1,by simp;omega,by have:=ih.2.2.2.2.1;simp at this |-;omega,ih.2.2.2.2.2⟩;rw[ih.2.1];unfold opn;rw[if_neg hp];cases ts<;>simp[opn]
  ·rw[if_neg hg];refine⟨hw,rfl,by unfold need;exact hn,w0b _,w0b _,fun t' ts' z=>?_⟩
   cases z;omega
theorem q75:∀(wt:List Str)(fs:List W),(∀t∈wt,t∈wrd5)->opn wt=0->fs.length=need wt+1->∃w,settleF 1 wt fs=([],[w])
 |[],fs,hw,ho,hn=>by
  unfold need at hn
  match fs,hn with
  |[w],_=>exact⟨w,rfl⟩
  |[],hn=>simp at hn
  |_::_::_,hn=>simp at hn
 |t::ts,fs,hw,ho,hn=>by
  unfold settleF;unfold need at hn;unfold opn at ho;have hp:t≠"(":=fun z=>by rw[if_pos z]at ho;omega
  rw[if_neg hp]at ho;rw[if_pos (x64 hp)]
  by_cases hn1:t="not"
  ·rw[if_pos hn1];rw[if_pos (.inr hn1)]at hn;cases fs with
   |nil=>simp at hn
   |cons f fs=>exact q75 ts _ (fun t ht=>hw t (by simp[ht])) (by omega) (by simp at hn |-;omega)
  ·rw[if_neg hn1];rw[if_neg (not_or.mpr ⟨hp,hn1⟩)]at hn
   match fs,hn with
   |[],hn=>simp at hn
   |[g],hn=>simp at hn
   |g::f::fs,hn=>exact q75 ts _ (fun t ht=>hw t (by simp[ht])) (by omega) (by simp at hn |-;omega)
def plF(xs:List Str)(t:Str):W:=if t="yes" then .tup [.str "is", .bl true]else if t="no" then .tup [.str "is", .bl false]else .tup [.str "at", match idxS t xs with|some j=>.int (j:Int)|none=>.non]
theorem y1e(n:Nat)(t:Str)(xs:List Str)(h:t="yes"\/t="no"\/t∈xs):run K a (n+1) q3u [.str t,.dic (.k (pN 0 xs))]=.ok (.fr (plF xs t)):=by
 rw[q5n];unfold q46 plF;walk_at "den"
 by_cases h1:t="yes"
 ·simp only[eq_true h1];walk_at "den"
 ·simp only[eq_false h1];walk_at "den"
  by_cases h2:t="no"
  ·simp only[eq_true h2];walk_at "den"
  ·simp only[eq_false h2];walk_at "den";have h3:t∈xs:=(h.resolve_left h1).resolve_left h2;have h4:(idxS t xs).isSome=true:=by rw[q9n];exact decide_eq_true h3
   obtain⟨j,hj⟩:=w2y.mp h4;rw[x31,hj];simp only[w4q,wSv,w4o];walk_at "den"
def stepF(xs:List Str)(st:List Str×List W)(t:Str):List Str×List W:=
 if t="("\/t="not" then(t::st.1,st.2)
 else if t=")" then((settleF 1 st.1 st.2).1.tail,(settleF 1 st.1 st.2).2)
 else if t∈jw then(t::(settleF (tgt t) st.1 st.2).1,(settleF (tgt t) st.1 st.2).2)
 else(st.1,plF xs t::st.2)
def Inv(wt:List Str)(fs:List W)(aw:Bool)(br:Nat):Prop:=(∀t∈wt,t∈wrd5)/\opn wt=br/\fs.length=need wt+(if aw=true then 0 else 1)
def fst(K:PySem.W.Frag)(w:W)(xs:List Str)(st:List Str×List W)(s4 s5:S):List S:=[.fr w,.fr (.dic (.k (pN 0 xs))),.own none st.2.reverse,.own none (st.1.reverse.map .str),s4,s5]
theorem z3r(h:t∈jw):t∈wrd5/\1<=tgt t/\t≠"(" /\ t≠"not" /\ t≠")" /\ t≠"yes" /\ t≠"no":=by
 unfold jw at h;simp only[w0d,w0o,or_false]at h;rcases h with rfl|rfl|rfl<;>decide +kernel
theorem q86(n:Nat)(w:W)(xs:List Str)(hx:∀x∈xs,okN x=true)(k:Nat)(p:List Nat)(wt:List Str)(fs:List W)(hb:wt.length+fs.length<=200000)(h:tx p="("\/tx p="not"\/(tx p∈xs\/tx p="yes"\/tx p="no")):
  q0v K a (run K a (n+1)) (fst K w xs (wt,fs) (.fr (.int k)) (.fr (.str (tx p))))=.nx (fst K w xs (stepF xs (wt,fs) (tx p)) (.fr (.int k)) (.fr (.str (tx p)))):=by
 unfold q0v fst stepF;walk_at "den"
 by_cases h1:tx p="("
 ·simp only[eq_true h1];walk_at "den";rw[if_pos (by simp;omega)];simp
 ·by_cases h2:tx p="not"
  ·simp only[eq_false h1,eq_true h2];walk_at "den";rw[if_pos (by simp;omega)];simp
  ·have h3:=(h.resolve_left h1).resolve_left h2
   have h4:¬tx p=")" /\ ¬(tx p∈jw):=by
    rcases h3 with h3|h3|h3
    ·have ok:=q1j (hx _ h3);have h6:tx p∉(["yes", "no", "not", "and", "odd", "or"]:List Str):=of_decide_eq_false ok.1;refine⟨fun z=>?_,fun z=>h6 ?_⟩
     ·have:=ok.2.2.2;rw[z]at this;exact absurd (this 41 (by decide +kernel)) (by decide)
     ·unfold jw at z;simp only[w0d,w0o,or_false]at z |-
      rcases z with z|z|z<;>simp[z]
    ·rw[h3];decide +kernel
    ·rw[h3];decide +kernel
   simp only[eq_false h1,eq_false h2,eq_false h4.1,eq_false h4.2];walk_at "den";rw[q73];simp only[eq_false h4.2];walk_at "den";rw[y1e n (tx p) xs (by rcases h3 with h3|h3|h3<;>simp[h3])];walk_at "den";rw[if_pos (by simp;omega)];simp
theorem set1:(W.int ((1:Nat):Int))=.int 1:=rfl
theorem x8c(n:Nat)(w:W)(xs:List Str)(k:Nat)(p:List Nat)(wt:List Str)(fs:List W)(hb:wt.length+fs.length<=200000)(br:Nat)(hI:Inv wt fs false br)(hbr:0<br)(h:tx p=")"):
  q0v K a (run K a (n+1)) (fst K w xs (wt,fs) (.fr (.int k)) (.fr (.str (tx p))))=.nx (fst K w xs (stepF xs (wt,fs) (tx p)) (.fr (.int k)) (.fr (.str (tx p))))/\Inv (stepF xs (wt,fs) (tx p)).1 (stepF xs (wt,fs) (tx p)).2 false (br-1)/\(stepF xs (wt,fs) (tx p)).1.length+(stepF xs (wt,fs) (tx p)).2.length<=wt.length+fs.length:=by
 obtain⟨i1,i2,i3⟩:=hI;have i3:fs.length=need wt+1:=i3;have si:=q6j 1 (w0b _) wt fs i1 i3;have sr:=q74 (K:=K) (a:=a) n 1 wt fs i1 (by omega) (fun z=>by omega) (by omega) (by omega)
 rw[set1]at sr;have n1:¬tx p="(":=by rw[h];decide +kernel
 have n2:¬tx p="not":=by rw[h];decide +kernel
 have es:stepF xs (wt,fs) (tx p)=((settleF 1 wt fs).1.tail,(settleF 1 wt fs).2):=by
  unfold stepF;rw[if_neg (not_or.mpr ⟨n1,n2⟩),if_pos h]
 rw[es];generalize settleF 1 wt fs=z at si sr;obtain⟨wt',fs'⟩:=z;dsimp only at si sr |-
 cases wt' with
 |nil=>exfalso;have h0:0=opn wt:=si.2.1;omega
 |cons t ts=>
  have ht:t="(":=by
   by_cases z:t="("
   ·exact z
   ·have:=x64 z;have:=si.2.2.2.2.2 t ts rfl;omega
  subst ht;have so:(if("(":Str)="(" then 1 else 0)+opn ts=opn wt:=si.2.1;have sn:fs'.length=((if("(":Str)="("\/("(":Str)="not" then 0 else 1)+need ts)+1:=si.2.2.1;have sl:=si.2.2.2.1;have sf:=si.2.2.2.2.1;rw[if_pos rfl]at so;rw[if_pos (.inl rfl)]at sn;refine⟨?_,⟨fun t ht=>si.1 t (by simp at ht;simp[ht]),?_,?_⟩,?_⟩
  ·unfold q0v fst;walk_at "den";simp only[eq_false n1,eq_false n2,eq_true h];walk_at "den";rw[sr];walk_at "den";rw[w2u,w0i,w0g,w3y];walk_at "den";rfl
  ·show opn ts=br-1;omega
  ·show fs'.length=need ts+1;omega
  ·show ts.length+fs'.length<=_;simp at sl;omega
theorem y1f(n:Nat)(w:W)(xs:List Str)(k:Nat)(p:List Nat)(wt:List Str)(fs:List W)(hb:wt.length+fs.length<=200000)(br:Nat)(hI:Inv wt fs false br)(h:tx p∈jw):
  q0v K a (run K a (n+1)) (fst K w xs (wt,fs) (.fr (.int k)) (.fr (.str (tx p))))=.nx (fst K w xs (stepF xs (wt,fs) (tx p)) (.fr (.int k)) (.fr (.str (tx p))))/\Inv (stepF xs (wt,fs) (tx p)).1 (stepF xs (wt,fs) (tx p)).2 true br/\(stepF xs (wt,fs) (tx p)).1.length+(stepF xs (wt,fs) (tx p)).2.length<=wt.length+fs.length+1:=by
 obtain⟨i1,i2,i3⟩:=hI;have i3:fs.length=need wt+1:=i3;obtain⟨j1,j2,n1,n2,n3,_,_⟩:=z3r h;have si:=q6j (tgt (tx p)) j2 wt fs i1 i3;have sr:=q74 (K:=K) (a:=a) n (tgt (tx p)) wt fs i1 (by omega) (fun z=>by omega) (by omega) (by omega)
 have es:stepF xs (wt,fs) (tx p)=(tx p::(settleF (tgt (tx p)) wt fs).1,(settleF (tgt (tx p)) wt fs).2):=by
  unfold stepF;rw[if_neg (not_or.mpr ⟨n1,n2⟩),if_neg n3,if_pos h]
 rw[es];generalize settleF (tgt (tx p)) wt fs=z at si sr;obtain⟨wt',fs'⟩:=z;dsimp only at si sr |-
 refine⟨?_,⟨fun t ht=>?_,?_,?_⟩,?_⟩
 ·unfold q0v fst;walk_at "den";simp only[eq_false n1,eq_false n2,eq_false n3];walk_at "den";rw[q73];simp only[eq_true h];walk_at "den";rw[tab5 j1];walk_at "den";rw[sr];walk_at "den";rw[if_pos (by simp;omega)];simp
 ·rcases w0d.mp ht with rfl|ht
  ·exact j1
  ·exact si.1 t ht
 ·unfold opn;rw[if_neg n1,si.2.1];omega
 ·show fs'.length=need (tx p::wt')+0;unfold need;rw[if_neg (not_or.mpr ⟨n1,n2⟩),si.2.2.1];omega
 ·show(tx p::wt').length+fs'.length<=_;simp;omega
theorem q4y(n:Nat)(w:W)(xs:List Str)(hx:∀x∈xs,okN x=true):∀(ps:List (Nat×List Nat))(aw:Bool)(br:Nat)(st:List Str×List W)(s4 s5:S)(aw':Bool)(br':Nat),flt0 xs ps aw br=.inr (aw',br')->Inv st.1 st.2 aw br->st.1.length+st.2.length+ps.length<=200000 ->
  ∃t4 t5,forP 4 5 (q0v K a (run K a (n+1))) (ps.map pr2) (fst K w xs st s4 s5)=.nx (fst K w xs (ps.foldl (fun st p=>stepF xs st (tx p.2)) st) t4 t5)/\Inv (ps.foldl (fun st p=>stepF xs st (tx p.2)) st).1 (ps.foldl (fun st p=>stepF xs st (tx p.2)) st).2 aw' br'/\(ps.foldl (fun st p=>stepF xs st (tx p.2)) st).1.length+(ps.foldl (fun st p=>stepF xs st (tx p.2)) st).2.length<=200000
 |[],aw,br,st,s4,s5,aw',br',hf,hI,hb=>by
  cases hf;exact⟨s4,s5,rfl,hI,hb⟩
 |(k,p)::ps,true,br,(wt,fs),s4,s5,aw',br',hf,hI,hb=>by
  rw[w0g,q3r,w0s];have hset:((fst K w xs (wt,fs) s4 s5).set 4 (.fr (pr2 (k,p)).1)).set 5 (.fr (pr2 (k,p)).2)=fst K w xs (wt,fs) (.fr (.int k)) (.fr (.str (tx p))):=rfl;rw[hset];rw[flt0]at hf;obtain⟨i1,i2,i3⟩:=hI;have i3:fs.length=need wt:=i3;simp only[w0q]at hb
  by_cases h1:tx p="(" /\ br<12
  ·rw[if_pos h1]at hf;rw[q86 n w xs hx k p wt fs (by omega) (.inl h1.1),q1f];have es:stepF xs (wt,fs) (tx p)=(tx p::wt,fs):=by unfold stepF;rw[if_pos (.inl h1.1)]
   rw[es];refine q4y n w xs hx ps true (br+1) (tx p::wt,fs) _ _ aw' br' hf ⟨fun t ht=>?_,?_,?_⟩ (by simp;omega)
   ·rcases w0d.mp ht with rfl|ht
    ·rw[h1.1];decide +kernel
    ·exact i1 t ht
   ·show opn (tx p::wt)=_;unfold opn;rw[if_pos h1.1,i2];omega
   ·show fs.length=need (tx p::wt)+0;unfold need;rw[if_pos (.inl h1.1)];omega
  ·rw[if_neg h1]at hf
   by_cases h2:tx p∈xs\/tx p="yes"\/tx p="no"
   ·rw[if_pos h2]at hf;rw[q86 n w xs hx k p wt fs (by omega) (.inr (.inr h2)),q1f]
    have h4:¬tx p="(" /\ ¬tx p="not" /\ ¬tx p=")" /\ ¬(tx p∈jw):=by
     rcases h2 with h3|h3|h3
     ·have ok:=q1j (hx _ h3);have h6:tx p∉(["yes", "no", "not", "and", "odd", "or"]:List Str):=of_decide_eq_false ok.1;refine⟨fun z=>?_,fun z=>h6 (by simp[z]),fun z=>?_,fun z=>h6 ?_⟩
      ·have:=ok.2.2.2;rw[z]at this;exact absurd (this 40 (by decide +kernel)) (by decide)
      ·have:=ok.2.2.2;rw[z]at this;exact absurd (this 41 (by decide +kernel)) (by decide)
      ·unfold jw at z;simp only[w0d,w0o,or_false]at z |-
       rcases z with z|z|z<;>simp[z]
     ·rw[h3];decide +kernel
     ·rw[h3];decide +kernel
    have es:stepF xs (wt,fs) (tx p)=(wt,plF xs (tx p)::fs):=by unfold stepF;rw[if_neg (not_or.mpr ⟨h4.1,h4.2.1⟩),if_neg h4.2.2.1,if_neg h4.2.2.2]
    rw[es];exact q4y n w xs hx ps false br (wt,plF xs (tx p)::fs) _ _ aw' br' hf ⟨i1,i2,show(plF xs (tx p)::fs).length=need wt+1 by simp;omega⟩ (by simp;omega)
   ·rw[if_neg h2]at hf
    by_cases h3:tx p="not"
    ·rw[if_pos h3]at hf;rw[q86 n w xs hx k p wt fs (by omega) (.inr (.inl h3)),q1f];have es:stepF xs (wt,fs) (tx p)=(tx p::wt,fs):=by unfold stepF;rw[if_pos (.inr h3)]
     rw[es];refine q4y n w xs hx ps true br (tx p::wt,fs) _ _ aw' br' hf ⟨fun t ht=>?_,?_,?_⟩ (by simp;omega)
     ·rcases w0d.mp ht with rfl|ht
      ·rw[h3];decide +kernel
      ·exact i1 t ht
     ·show opn (tx p::wt)=_;unfold opn;rw[if_neg (by rw[h3];decide +kernel),i2];omega
     ·show fs.length=need (tx p::wt)+0;unfold need;rw[if_pos (.inr h3)];omega
    ·rw[if_neg h3]at hf;cases hf
 |(k,p)::ps,false,br,(wt,fs),s4,s5,aw',br',hf,hI,hb=>by
  rw[w0g,q3r,w0s];have hset:((fst K w xs (wt,fs) s4 s5).set 4 (.fr (pr2 (k,p)).1)).set 5 (.fr (pr2 (k,p)).2)=fst K w xs (wt,fs) (.fr (.int k)) (.fr (.str (tx p))):=rfl;rw[hset];rw[flt0]at hf;simp only[w0q]at hb
  by_cases h1:tx p=")" /\ 0<br
  ·rw[if_pos h1]at hf;obtain⟨c1,c2,c3⟩:=x8c (K:=K) (a:=a) n w xs k p wt fs (by omega) br hI h1.2 h1.1;rw[c1,q1f];exact q4y n w xs hx ps false (br-1) _ _ _ aw' br' hf c2 (by omega)
  ·rw[if_neg h1]at hf
   by_cases h2:tx p∈jw
   ·rw[if_pos h2]at hf;obtain⟨c1,c2,c3⟩:=y1f (K:=K) (a:=a) n w xs k p wt fs (by omega) br hI h2;rw[c1,q1f];exact q4y n w xs hx ps true br _ _ _ aw' br' hf c2 (by omega)
   ·rw[if_neg h2]at hf;cases hf
def foldF(xs:List Str)(ps:List (Nat×List Nat)):List Str×List W:=ps.foldl (fun st p=>stepF xs st (tx p.2)) ([],[])
theorem y89(n:Nat)(ps:List (Nat×List Nat))(xs:List Str)(hx:∀x∈xs,okN x=true)(hp:ps.length<=200000)(h:flt0 xs ps true 0=.inr (false,0)):∃w,settleF 1 (foldF xs ps).1 (foldF xs ps).2=([],[w])/\run K a (n+2) q10 [.lst (ps.map encP),.dic (.k (pN 0 xs))]=.ok (.fr w):=by
 obtain⟨t4,t5,h1,h2,h3⟩:=q4y (K:=K) (a:=a) n (.lst (ps.map encP)) xs hx ps true 0 ([],[]) .no .no false 0 h ⟨by simp,rfl,rfl⟩ (by simpa using hp);obtain⟨i1,i2,i3⟩:=h2;have i3:(foldF xs ps).2.length=need (foldF xs ps).1+1:=i3;obtain⟨w,hw⟩:=q75 (foldF xs ps).1 (foldF xs ps).2 i1 i2 i3;refine⟨w,hw,?_⟩;have h3:(foldF xs ps).1.length+(foldF xs ps).2.length<=200000:=h3;have sr:=q74 (K:=K) (a:=a) n 1 (foldF xs ps).1 (foldF xs ps).2 i1 (by omega) (fun z=>by omega) (by omega) (by omega)
 rw[set1,hw]at sr;rw[q3y];unfold q3a;walk_at "den";rw[q85];walk_at "den";have h1:forP 4 5 (q0v K a (run K a (n+1))) (ps.map pr2) [.fr (.lst (ps.map encP)),.fr (.dic (.k (pN 0 xs))),.own none [],.own none [],.no,.no]=.nx [.fr (.lst (ps.map encP)),.fr (.dic (.k (pN 0 xs))),.own none (foldF xs ps).2.reverse,.own none ((foldF xs ps).1.reverse.map .str),t4,t5]:=h1;rw[h1];walk_at "den";rw[sr];walk_at "den";rfl
theorem y4f(x y:Str):(x++y).cps.toList=x.cps.toList++y.cps.toList:=by
 conv=>lhs;rw[<- q2e x,<- q2e y,q2i,q07]
theorem reps(c:Nat)(x:Str)(hx:x=⟨#[c]⟩)(m:Nat)(h:m<=1000):mulS (.str x) (.int (m:Int))=some (.str (tx (List.replicate m c))):=by
 rw[hx,z29 ⟨by omega,by omega⟩,w2f];rfl
inductive Tk(ns:List Str):Nat->Fm->List Str->Nat->Prop
 |yn {l:Nat} (b:Bool):Tk ns l (.is b) [if b=true then("yes":Str)else("no":Str)] 0
 |plc {l p:Nat} (h:p<ns.length):Tk ns l (.at p) [ns.getD p ""] 0
 |not {l d:Nat} {f:Fm} {ts:List Str} (h:l<=3) (t:Tk ns 3 f ts d):Tk ns l (.not f) (("not":Str)::ts) d
 |and {l d e:Nat} {f g:Fm} {ts us:List Str} (h:l<=2) (t:Tk ns 2 f ts d) (u:Tk ns 3 g us e):Tk ns l (.and f g) (ts++("and":Str)::us) (max d e)
 |odd {l d e:Nat} {f g:Fm} {ts us:List Str} (h:l<=1) (t:Tk ns 1 f ts d) (u:Tk ns 2 g us e):Tk ns l (.odd f g) (ts++("odd":Str)::us) (max d e)
 |or {l d e:Nat} {f g:Fm} {ts us:List Str} (h:l<=0) (t:Tk ns 0 f ts d) (u:Tk ns 1 g us e):Tk ns l (.or f g) (ts++("or":Str)::us) (max d e)
 |par {l d:Nat} {f:Fm} {ts:List Str} (t:Tk ns 0 f ts d):Tk ns l f (("(":Str)::(ts++[(")":Str)])) (d+1)
def topOk(wt:List Str)(l:Nat):Prop:=∀t ts,wt=t::ts->tgt t<=l
theorem q52{wt:List Str}{l t:Nat}(h:topOk wt l)(hl:l<t)(fs:List W):settleF t wt fs=(wt,fs):=by
 cases wt with
 |nil=>rfl
 |cons w ws=>
  have:=h w ws rfl;unfold settleF;rw[if_neg (by omega)]
theorem x22:∀{ns:List Str}{p:Nat},ns.Nodup->(h:p<ns.length)->idxS ns[p] ns=some p
 |x::ns,0,_,h=>by
  simp[idxS]
 |x::ns,p+1,hd,h=>by
  have hp:p<ns.length:=by simpa using h
  have ih:=x22 (w1x.mp hd).2 hp;have hne:x≠ns[p]:=fun z=>(w1x.mp hd).1 (by rw[z];exact w1l hp)
  rw[List.getElem_cons_succ];unfold idxS;rw[if_neg (by first|exact hne|exact fun z=>hne z.symm),ih]
  rfl
theorem x0f(hx:∀x∈ns,okN x=true){p:Nat}(h:p<ns.length):ns.getD p ""∈ns/\¬ns.getD p ""="(" /\ ¬ns.getD p ""="not" /\ ¬ns.getD p ""=")" /\ ¬ns.getD p ""∈jw/\¬ns.getD p ""="yes" /\ ¬ns.getD p ""="no":=by
 have e:ns.getD p ""=ns[p]:=by rw[w0k,w0a h];rfl
 rw[e];have hm:=w1l h;have ok:=q1j (hx _ hm);have h6:ns[p]∉(["yes", "no", "not", "and", "odd", "or"]:List Str):=of_decide_eq_false ok.1;refine⟨hm,fun z=>?_,fun z=>h6 (by simp[z]),fun z=>?_,fun z=>h6 ?_,fun z=>h6 (by simp[z]),fun z=>h6 (by simp[z])⟩
 ·have:=ok.2.2.2;rw[z]at this;exact absurd (this 40 (by decide +kernel)) (by decide)
 ·have:=ok.2.2.2;rw[z]at this;exact absurd (this 41 (by decide +kernel)) (by decide)
 ·unfold jw at z;simp only[w0d,w0o,or_false]at z |-
  rcases z with z|z|z<;>simp[z]
theorem z3s(hx:∀x∈ns,okN x=true)(hd:ns.Nodup){p:Nat}(h:p<ns.length):plF ns (ns.getD p "")=enc (.at p):=by
 obtain⟨_,_,_,_,_,h1,h2⟩:=x0f hx h;unfold plF;rw[if_neg h1,if_neg h2];have e:ns.getD p ""=ns[p]:=by rw[w0k,w0a h];rfl
 rw[e,x22 hd h];rfl
theorem y1g(xs:List Str)(st:List Str×List W):stepF xs st "("=(("(":Str)::st.1,st.2):=by
 unfold stepF;rw[if_pos (.inl rfl)]
theorem y4g(xs:List Str)(st:List Str×List W):stepF xs st "not"=(("not":Str)::st.1,st.2):=by
 unfold stepF;rw[if_pos (.inr rfl)]
theorem x8d(xs:List Str)(st:List Str×List W):stepF xs st ")"=((settleF 1 st.1 st.2).1.tail,(settleF 1 st.1 st.2).2):=by
 unfold stepF;rw[if_neg (by decide +kernel),if_pos rfl]
theorem y4h(xs:List Str)(st:List Str×List W):stepF xs st "and"=(("and":Str)::(settleF 3 st.1 st.2).1,(settleF 3 st.1 st.2).2):=by
 unfold stepF;rw[if_neg (by decide +kernel),if_neg (by decide +kernel),if_pos (by decide +kernel),show tgt "and"=3 by decide +kernel]
theorem y4i(xs:List Str)(st:List Str×List W):stepF xs st "odd"=(("odd":Str)::(settleF 2 st.1 st.2).1,(settleF 2 st.1 st.2).2):=by
 unfold stepF;rw[if_neg (by decide +kernel),if_neg (by decide +kernel),if_pos (by decide +kernel),show tgt "odd"=2 by decide +kernel]
theorem y9a(xs:List Str)(st:List Str×List W):stepF xs st "or"=(("or":Str)::(settleF 1 st.1 st.2).1,(settleF 1 st.1 st.2).2):=by
 unfold stepF;rw[if_neg (by decide +kernel),if_neg (by decide +kernel),if_pos (by decide +kernel),show tgt "or"=1 by decide +kernel]
theorem x8e{t:Nat}(h:t<=4)(wt:List Str)(f:W)(fs:List W):settleF t (("not":Str)::wt) (f::fs)=settleF t wt (.tup [.str "not", f]::fs):=by
 rw[settleF,if_pos (by rw[show tgt "not"=4 by decide +kernel];exact h),if_pos rfl]
theorem q76{t k:Nat}{w:Str}(hk:tgt w=k)(hn:w≠"not")(h:t<=k)(wt:List Str)(f g:W)(fs:List W):settleF t (w::wt) (g::f::fs)=settleF t wt (.tup [.str w,f,g]::fs):=by
 rw[settleF,if_pos (by omega),if_neg hn]
theorem q77{w:Str}{wt:List Str}{l k:Nat}(hk:tgt w=k)(h:k<=l):topOk (w::wt) l:=fun t ts z=>by
 cases z;omega
theorem Tk.parse(hx:∀x∈ns,okN x=true)(hd:ns.Nodup){l:Nat}(h:Tk ns l f ts d):l<=3->∀(wt:List Str)(fs:List W),(l<=2->topOk wt l)->∀t,t<=l+1 ->
  settleF t (ts.foldl (stepF ns) (wt,fs)).1 (ts.foldl (stepF ns) (wt,fs)).2=settleF t wt (enc f::fs):=by
 induction h with
 |yn b=>
  intro hl wt fs _ t _
  have:stepF ns (wt,fs) (if b=true then("yes":Str)else("no":Str))=(wt,enc (.is b)::fs):=by
   cases b
   ·unfold stepF;rw[if_neg (by decide +kernel),if_neg (by decide +kernel),if_neg (by decide +kernel)];rfl
   ·unfold stepF;rw[if_neg (by decide +kernel),if_neg (by decide +kernel),if_neg (by decide +kernel)];rfl
  rw[w0s,w4v,this]
 | @plc l p h=>
  intro hl wt fs _ t _;obtain⟨_,h1,h2,h3,h4,_,_⟩:=x0f hx h
  have:stepF ns (wt,fs) (ns.getD p "")=(wt,enc (.at p)::fs):=by
   unfold stepF;rw[if_neg (not_or.mpr ⟨h1,h2⟩),if_neg h3,if_neg h4,z3s hx hd h]
  rw[w0s,w4v,this]
 |not h t ih=>
  intro hl wt fs _ s hs;rw[w0s,y4g,ih (w0b _) _ _ (fun z=>by omega) s (by omega),x8e (by omega)]
  rfl
 |and h t u ih1 ih2=>
  intro hl wt fs hw s hs;rw[w1e,w0s,y4h];rw[ih1 (by omega) wt fs (fun _=>fun a b z=>w0v (hw (by omega) a b z) h) 3 (by omega),q52 (hw (by omega)) (by omega)]
  rw[ih2 (by omega) _ _ (fun z=>by omega) s (by omega),q76 (by decide +kernel) (by decide +kernel) (show s<=3 by omega)]
  rfl
 |odd h t u ih1 ih2=>
  intro hl wt fs hw s hs;rw[w1e,w0s,y4i];rw[ih1 (by omega) wt fs (fun _=>fun a b z=>w0v (hw (by omega) a b z) h) 2 (by omega),q52 (hw (by omega)) (by omega)]
  rw[ih2 (by omega) _ _ (fun z=>q77 (k:=2) (by decide +kernel) (by omega)) s (by omega),q76 (by decide +kernel) (by decide +kernel) (show s<=2 by omega)]
  rfl
 |or h t u ih1 ih2=>
  intro hl wt fs hw s hs;rw[w1e,w0s,y9a];rw[ih1 (by omega) wt fs (fun _=>fun a b z=>w0v (hw (by omega) a b z) h) 1 (by omega),q52 (hw (by omega)) (by omega)]
  rw[ih2 (by omega) _ _ (fun z=>q77 (k:=1) (by decide +kernel) (by omega)) s (by omega),q76 (by decide +kernel) (by decide +kernel) (show s<=1 by omega)]
  rfl
 |par t ih=>
  intro hl wt fs hw s hs;rw[w0s,y1g,w1e,w0s,w4v,x8d];have tp:topOk (("(":Str)::wt) 0:=q77 (k:=0) (by decide +kernel) (w0b _);rw[ih (by omega) _ _ (fun _=>tp) 1 (by omega),q52 tp (by omega)]
  rfl
theorem Tk.whole(hx:∀x∈ns,okN x=true)(hd:ns.Nodup)(h:Tk ns 0 f ts d):settleF 1 (ts.foldl (stepF ns) ([],[])).1 (ts.foldl (stepF ns) ([],[])).2=([],[enc f]):=
 h.parse hx hd (by omega) [] [] (fun _ a b z=>by cases z) 1 (by omega)
theorem Tk.fine(hx:∀x∈ns,okN x=true){l:Nat}(h:Tk ns l f ts d):∀(ps rest:List (Nat×List Nat))(br:Nat),ps.map (fun p=>tx p.2)=ts->br+d<=12->flt0 ns (ps++rest) true br=flt0 ns rest false br:=by
 induction h with
 |yn b=>
  intro ps rest br e hb;obtain⟨⟨k,p⟩,rfl,e'⟩:=w2x.mp e
  ·have e:tx p=if b=true then("yes":Str)else("no":Str):=e';show flt0 ns ((k,p)::rest) true br=_;rw[flt0,if_neg (fun z=>by rw[e]at z;cases b<;>exact absurd z.1 (by decide +kernel)),if_pos (.inr (by cases b;exact .inr e;exact .inl e))]
 | @plc l p h=>
  intro ps rest br e hb;obtain⟨⟨k,q⟩,rfl,e'⟩:=w2x.mp e
  ·have e:tx q=ns.getD p "":=e';obtain⟨h0,h1,_⟩:=x0f hx h;show flt0 ns ((k,q)::rest) true br=_;rw[flt0,if_neg (fun z=>h1 (by rw[<- e];exact z.1)),if_pos (.inl (by rw[e];exact h0))]
 |not h t ih=>
  intro ps rest br e hb;obtain⟨⟨k,q⟩,ps,rfl,e1,e2⟩:=w2d.mp e
  ·have e1:tx q="not":=e1;rw[w1f,flt0,if_neg (fun z=>by rw[e1]at z;exact absurd z.1 (by decide +kernel))]
   by_cases hm:tx q∈ns\/tx q="yes"\/tx q="no"
   ·exfalso;rw[e1]at hm;rcases hm with hm|hm|hm
    ·exact absurd (q1j (hx _ hm)).1 (by decide +kernel)
    ·exact absurd hm (by decide +kernel)
    ·exact absurd hm (by decide +kernel)
   ·rw[if_neg hm,if_pos e1];exact ih ps rest br e2 hb
 | @and l d e f g ts us h t u ih1 ih2=>
  intro ps rest br eq hb;obtain⟨p1,p2,rfl,e1,e2⟩:=w2o.mp eq;obtain⟨⟨k,q⟩,p2,rfl,eq1,e2⟩:=w2d.mp e2
  ·have eq1:tx q="and":=eq1;rw[w0l,ih1 p1 _ br e1 (by omega),w1f,flt0,if_neg (fun z=>by rw[eq1]at z;exact absurd z.1 (by decide +kernel)),if_pos (by rw[eq1];decide +kernel)]
   exact ih2 p2 rest br e2 (by omega)
 | @odd l d e f g ts us h t u ih1 ih2=>
  intro ps rest br eq hb;obtain⟨p1,p2,rfl,e1,e2⟩:=w2o.mp eq;obtain⟨⟨k,q⟩,p2,rfl,eq1,e2⟩:=w2d.mp e2
  ·have eq1:tx q="odd":=eq1;rw[w0l,ih1 p1 _ br e1 (by omega),w1f,flt0,if_neg (fun z=>by rw[eq1]at z;exact absurd z.1 (by decide +kernel)),if_pos (by rw[eq1];decide +kernel)]
   exact ih2 p2 rest br e2 (by omega)
 | @or l d e f g ts us h t u ih1 ih2=>
  intro ps rest br eq hb;obtain⟨p1,p2,rfl,e1,e2⟩:=w2o.mp eq;obtain⟨⟨k,q⟩,p2,rfl,eq1,e2⟩:=w2d.mp e2
  ·have eq1:tx q="or":=eq1;rw[w0l,ih1 p1 _ br e1 (by omega),w1f,flt0,if_neg (fun z=>by rw[eq1]at z;exact absurd z.1 (by decide +kernel)),if_pos (by rw[eq1];decide +kernel)]
   exact ih2 p2 rest br e2 (by omega)
 |par t ih=>
  intro ps rest br eq hb;obtain⟨⟨k,q⟩,ps,rfl,eq1,eq2⟩:=w2d.mp eq
  ·obtain⟨p1,p2,rfl,e1,e2⟩:=w2o.mp eq2;obtain⟨⟨j,r⟩,rfl,e2'⟩:=w2x.mp e2
   ·have e2:tx r=")":=e2';rw[w1f,flt0,if_pos ⟨eq1,by omega⟩,w0l,ih p1 _ (br+1) e1 (by omega)];show flt0 ns ((j,r)::rest) false (br+1)=_;rw[flt0,if_pos ⟨e2,by omega⟩];rfl
def lexF:Nat->Nat->List Nat->List (Nat×List Nat)
 |0,_,_=>[]
 |_+1,_,[]=>[]
 |f+1,k,c::cs=>(if c=32 then[]else[(k,(c::cs).take (stp (c::cs)))])++lexF f (k+stp (c::cs)) ((c::cs).drop (stp (c::cs)))
theorem x65:∀(f:Nat)(cs:List Nat)(k:Nat),pcs f cs k=lexF f k (cs.drop k)
 |0,_,_=>rfl
 |f+1,cs,k=>by
  unfold pcs
  by_cases h:k<cs.length
  ·rw[if_pos h,w1o h,lexF,x65 f,<- w1o h,w4w];have e:(cs[k]?=some 32)=(cs[k]=32):=by rw[w0a h];simp
   simp only[e]
  ·rw[if_neg h,w4l (by omega)];cases f<;>rfl
theorem y9b(cs:List Nat):1<=stp cs:=Nat.le_max_left _ _
theorem x23:∀(f g k:Nat)(cs:List Nat),cs.length<=f->cs.length<=g->lexF f k cs=lexF g k cs
 |0,g,k,cs,hf,_=>by
  obtain rfl:cs=[]:=w3n (by omega);cases g<;>rfl
 |f+1,0,k,cs,_,hg=>by
  obtain rfl:cs=[]:=w3n (by omega);rfl
 |f+1,g+1,k,[],_,_=>rfl
 |f+1,g+1,k,c::cs,hf,hg=>by
  have:=y9b (c::cs);rw[lexF,lexF,x23 f g _ _ (by rw[w1i];omega) (by rw[w1i];omega)]
def lex(k:Nat)(cs:List Nat):List (Nat×List Nat):=lexF cs.length k cs
theorem x8f(cs:List Nat):pieces cs=lex 0 cs:=by
 unfold pieces lex;rw[x65,w4u]
theorem x66(k:Nat):lex k []=[]:=rfl
theorem x67(h:isL c=false):stp (c::cs)=1:=by
 unfold stp upto;rw[w3t,h];rfl
theorem y1h(k:Nat)(r:List Nat):lex k (32::r)=lex (k+1) r:=by
 unfold lex;rw[w0q,lexF,if_pos rfl,w1p,x67 (by decide)];rfl
theorem y4j(k:Nat)(r:List Nat)(h:isL c=false)(hb:c≠32):lex k (c::r)=(k,[c])::lex (k+1) r:=by
 unfold lex;rw[w0q,lexF,if_neg hb,x67 h];rfl
def Bd(r:List Nat):Prop:=∀c cs,r=c::cs->isL c=false
theorem y1i(hl:∀c∈w,isL c=true)(hr:Bd r):upto (w++r)=w.length:=by
 unfold upto;rw[List.takeWhile_append_of_pos hl,w0r];cases r with
 |nil=>rfl
 |cons c cs=>rw[w3t,hr c cs rfl];rfl
theorem y4k(k:Nat)(hw:w≠[])(hl:∀c∈w,isL c=true)(hr:Bd r):lex k (w++r)=(k,w)::lex (k+w.length) r:=by
 cases w with
 |nil=>exact absurd rfl hw
 |cons c w=>
  have hs:stp (c::w++r)=(c::w).length:=by
   unfold stp;rw[y1i hl hr];simp
  have hc:c≠32:=fun z=>by
   have:=hl c (by simp);rw[z]at this;exact absurd this (by decide)
  show lexF (c::w++r).length k (c::(w++r))=_;rw[w1f,w0q,lexF,if_neg hc];rw[<- w1f,hs,List.take_left' rfl,List.drop_left' rfl];rw[w3j];unfold lex;rw[x23 _ _ _ _ (by rw[w0r];omega) (w0b _)]
theorem y9c(h:isL c=false):Bd (c::r):=fun d ds z=>by cases z;exact h
def chs(x:Str):List Nat:=x.cps.toList
theorem q7m(x y:Str):chs (x++y)=chs x++chs y:=y4f x y
theorem z3t:Bd []:=fun c cs z=>by cases z
theorem y4l(xs:List Str)(ps:List (Nat×List Nat)):foldF xs ps=(ps.map fun p=>tx p.2).foldl (stepF xs) ([],[]):=by
 unfold foldF;rw[List.foldl_map]
theorem q4z:∀(f:Fm),eqW (enc f) (enc f)=some true
 |.is b=>by simp[enc,eqW,eqWs]
 |.at p=>by simp[enc,eqW,eqWs]
 |.not f=>by simp[enc,eqW,eqWs,q4z f]
 |.and f g=>by simp[enc,eqW,eqWs,q4z f,q4z g]
 |.or f g=>by simp[enc,eqW,eqWs,q4z f,q4z g]
 |.odd f g=>by simp[enc,eqW,eqWs,q4z f,q4z g]
theorem q30:∀(f:Fm),depW (enc f)<=f.depth
 |.is b=>by simp[enc,depW,depWs,Fm.depth]
 |.at p=>by simp[enc,depW,depWs,Fm.depth]
 |.not f=>by have:=q30 f;simp[enc,depW,depWs,Fm.depth];omega
 |.and f g=>by have:=q30 f;have:=q30 g;simp[enc,depW,depWs,Fm.depth];omega
 |.or f g=>by have:=q30 f;have:=q30 g;simp[enc,depW,depWs,Fm.depth];omega
 |.odd f g=>by have:=q30 f;have:=q30 g;simp[enc,depW,depWs,Fm.depth];omega
def fl(cur:List Nat):List (List Nat):=if cur=[]then[]else[cur]
def tstep(s:List (List Nat)×List Nat)(c:Nat):List (List Nat)×List Nat:=if isL c=true then(s.1,s.2++[c])else(s.1++fl s.2++(if c=32 then[]else[[c]]),[])
def tfin(s:List (List Nat)×List Nat):List (List Nat):=s.1++fl s.2
theorem q78:∀(w:List Nat)(out:List (List Nat))(cur:List Nat),(∀c∈w,isL c=true)->w.foldl tstep (out,cur)=(out,cur++w)
 |[],out,cur,_=>by simp
 |c::w,out,cur,h=>by
  rw[w0s];unfold tstep;rw[if_pos (h c (by simp))];show w.foldl tstep (out,cur++[c])=_;rw[q78 w out (cur++[c]) fun d hd=>h d (by simp[hd])]
  simp
theorem x1l:∀r:List Nat,∃w q,r=w++q/\(∀d∈w,isL d=true)/\Bd q
 |[]=>⟨[],[],rfl,by simp,z3t⟩
 |c::r=>by
  cases hc:isL c with
  |true=>
   obtain⟨w,q,rfl,h1,h2⟩:=x1l r;refine⟨c::w,q,rfl,fun d hd=>?_,h2⟩
   rcases w0d.mp hd with rfl|hd
   ·exact hc
   ·exact h1 d hd
  |false=>exact⟨[],c::r,rfl,by simp,y9c hc⟩
theorem q6k(hl:isL c=false)(s:List (List Nat)×List Nat):tstep s c=(s.1++fl s.2++(if c=32 then[]else[[c]]),[]):=by
 unfold tstep;rw[if_neg (by rw[hl];simp)]
theorem q79:∀(n:Nat)(cs:List Nat)(k:Nat)(out:List (List Nat)),cs.length<=n->tfin (cs.foldl tstep (out,[]))=out++(lex k cs).map (·.2)
 |n,[],k,out,_=>by simp[tfin,fl,x66]
 |0,_::_,_,_,h=>by simp at h
 |n+1,c::r,k,out,h=>by
  simp only[w0q]at h;cases hl:isL c with
  |false=>
   by_cases hb:c=32
   ·subst hb;rw[y1h,w0s];have:tstep (out,[]) 32=(out,[]):=by simp[tstep,fl,isL]
    rw[this];exact q79 n r (k+1) out (by omega)
   ·rw[y4j k r hl hb,w0s]
    have:tstep (out,[]) c=(out++[[c]],[]):=by
     unfold tstep;rw[if_neg (by rw[hl];simp),if_neg hb];simp[fl]
    rw[this,q79 n r (k+1) (out++[[c]]) (by omega)];simp
  |true=>
   obtain⟨w,q,e,h1,h2⟩:=x1l r;subst e
   have hw:∀d∈c::w,isL d=true:=fun d hd=>by
    rcases w0d.mp hd with rfl|hd
    ·exact hl
    ·exact h1 d hd
   rw[<- w1f,y4k k (by simp) hw h2,w1e,q78 (c::w) out [] hw,w1p];have hq:q.length<=n:=by rw[w0r]at h;omega
   have ih:=q79 n q (k+(c::w).length) (out++[c::w]) hq;rw[w0g];cases q with
   |nil=>
    rw[x66];simp[tfin,fl]
   |cons d q=>
    have hd:=h2 d q rfl;rw[w0s]at ih |-
    have:tstep (out,c::w) d=tstep (out++[c::w],[]) d:=by
     rw[q6k hd,q6k hd];simp[fl]
    rw[this,ih];simp
theorem y1j(cs:List Nat):(pieces cs).map (·.2)=tfin (cs.foldl tstep ([],[])):=by
 rw[x8f,q79 cs.length cs 0 [] (w0b _)];rfl
def atB(s sub:Str)(i:Nat):Bool:=decide (i+sub.length<=s.length)&&Builtin.Str.subAt s sub i
theorem atB_iff{s sub:Str}:atB s sub i=true↔StrLaws.At s sub s.length i:=by simp[atB,StrLaws.At]
theorem x19{s sub:Str}{limit:Nat}:∀(l:List Nat)(st:Array Nat×Nat),l.Pairwise (·<·)->(∀i∈l,atB s sub i=true->st.2<=i)->(∀i∈l,∀j∈l,i<j->atB s sub i=true->atB s sub j=true->i+sub.length<=j)->st.1.size+l.length<=limit ->
  (forIn l st (StrLaws.occBody s sub s.length limit)).run.fst.toList=st.1.toList++l.filter (atB s sub)
 |[],st,_,_,_,_=>by simp
 |i::l,st,hp,hf,ho,hs=>by
  obtain⟨p1,p2⟩:=List.pairwise_cons.mp hp;rw[w2e];unfold StrLaws.occBody;have ho':∀x∈l,∀y∈l,x<y->atB s sub x=true->atB s sub y=true->x+sub.length<=y:=fun x hx y hy=>ho x (w0c _ hx) y (w0c _ hy)
  split
  ·rename_i hc;have hi:atB s sub i=true:=atB_iff.mpr ⟨hc.1.2,hc.2⟩;refine(x19 l (st.1.push i,i+sub.length) p2 (fun j hj hb=>ho i w0f j (w0c _ hj) (p1 j hj) hi hb) ho' (by simp at hs |-;omega)).trans ?_
   rw[w2m,if_pos hi];simp
  ·rename_i hc
   have hi:¬atB s sub i=true:=fun h=>by
    have h1:=hf i w0f h;obtain⟨h2,h3⟩:=atB_iff.mp h;exact hc ⟨⟨⟨by simp at hs;omega,h1⟩,h2⟩,h3⟩
   refine(x19 l st p2 (fun j hj hb=>hf j (w0c _ hj) hb) ho' (by simp at hs |-;omega)).trans ?_
   rw[w2m,if_neg hi]
theorem x8g{x:Str}(ho:∀i j,i<j->atB x y i=true->atB x y j=true->i+y.length<=j):Builtin.Str.occurrences x y 0 x.length (x.length+1)=(List.range' 0 (x.length+1)).filter (atB x y):=by
 rw[StrLaws.occ_eq,x19 _ _ (List.pairwise_lt_range' ..) (fun _ _ _=>w1c _) (fun i _ j _=>ho i j) (by simp)]
 simp
theorem z3u(cs:List Nat)(c i:Nat):atB (tx cs) ⟨#[c]⟩ i=decide (cs[i]?=some c):=by
 rw[w2s,atB_iff,decide_eq_true_iff];have:=StrLaws.subAt_one (tx cs) c i;rw[q07]at this;exact this
def cutC(c:Nat):List Nat->List (List Nat)
 |[]=>[[]]
 |d::r=>if d=c then[]::cutC c r else match cutC c r with
  |p::ps=>(d::p)::ps
  |[]=>[[d]]
theorem q40(c d:Nat)(r:List Nat):cutC c (d::r)=if d=c then[]::cutC c r else match cutC c r with|p::ps=>(d::p)::ps|[]=>[[d]]:=rfl
theorem q9o(c:Nat):∀cs,∃p ps,cutC c cs=p::ps
 |[]=>⟨[],[],rfl⟩
 |d::r=>by
  obtain⟨p,ps,e⟩:=q9o c r;unfold cutC;rw[e];split
  ·exact⟨_,_,rfl⟩
  ·exact⟨_,_,rfl⟩
theorem q7n(cs:List Nat)(i j:Nat):Builtin.Str.strSub (tx cs) i j=tx ((cs.drop i).take (j-i)):=by
 have:=StrLaws.strSub_toList (tx cs) i j;rw[<- q2e (Builtin.Str.strSub (tx cs) i j),this,q07]
theorem q87(c:Nat)(cs:List Nat):∀(m i b:Nat),cs.length-i=m->b<=i->i<=cs.length->∃p ps,cutC c (cs.drop i)=p::ps /\
  StrLaws.partsFrom (tx cs) 1 b ((List.range' i (m+1)).filter fun i=>decide (cs[i]?=some c))=tx ((cs.drop b).take (i-b)++p)::ps.map tx
 |0,i,b,hm,hb,hi=>by
  have ei:i=cs.length:=by omega
  subst ei;refine⟨[],[],by rw[w3l];rfl,?_⟩;simp[StrLaws.partsFrom,q7n,q0t]
 |m+1,i,b,hm,hb,hi=>by
  have hlt:i<cs.length:=by omega
  rw[w1o hlt,List.range'_succ,w2m,w0a hlt];unfold cutC
  by_cases hc:cs[i]=c
  ·obtain⟨p,ps,e1,e2⟩:=q87 c cs m (i+1) (i+1) (by omega) (w0b _) hlt;rw[if_pos hc,if_pos (by simp[hc]),e1];refine⟨[],p::ps,rfl,?_⟩;show Builtin.Str.strSub (tx cs) b i::StrLaws.partsFrom (tx cs) 1 (i+1) _=_;rw[e2,q7n];simp
  ·obtain⟨p,ps,e1,e2⟩:=q87 c cs m (i+1) b (by omega) (by omega) hlt;rw[if_neg hc,if_neg (by simp[hc]),e1];refine⟨cs[i]::p,ps,rfl,?_⟩;rw[e2]
   have:(cs.drop b).take (i+1-b)=(cs.drop b).take (i-b)++[cs[i]]:=by
    rw[show i+1-b=(i-b)+1 by omega,w2i,List.getElem?_drop,show b+(i-b)=i by omega,w0a hlt];rfl
   rw[this];simp
theorem q7e(c:Nat)(cs:List Nat):Builtin.Str.partsBetween (tx cs) (Builtin.Str.occurrences (tx cs) ⟨#[c]⟩ 0 (tx cs).length ((tx cs).length+1)) 1=(cutC c cs).map tx:=by
 rw[x8g (x:=tx cs) (y:=⟨#[c]⟩) (fun i j h _ _=>h),StrLaws.partsBetween_eq,q0t]
 obtain⟨p,ps,e1,e2⟩:=q87 c cs cs.length 0 0 rfl (w0b _) (w1c _);rw[w4u]at e1;rw[show(atB (tx cs) ⟨#[c]⟩)=fun i=>decide (cs[i]?=some c)from funext (z3u cs c),e2,e1]
 simp
theorem x68(h:(Builtin.Str.occurrences (tx cs) ⟨#[c]⟩ 0 (tx cs).length ((tx cs).length+1)).isEmpty=true):[tx cs]=(cutC c cs).map tx:=by
 rw[<- q7e,List.isEmpty_iff.mp h,StrLaws.partsBetween_eq];exact congrArg (·::[]) (StrLaws.sub_whole _).symm
theorem y4m(hc:c<256)(x:Str):Builtin.Str.strKind ⟨#[c]⟩<=Builtin.Str.strKind x:=by
 have h1:Builtin.Str.strKind ⟨#[c]⟩=1:=by simp[Builtin.Str.strKind,hc]
 rw[h1];unfold Builtin.Str.strKind;split
 ·omega
 ·split<;>omega
theorem x24(hc:c<256)(cs:List Nat):Txt.split (tx cs) ⟨#[c]⟩=(cutC c cs).map tx:=by
 unfold Txt.split;split
 ·rename_i h;rw[w3c]at h;rcases h with h|h
  ·have h0:cs=[]:=by
    have:(tx cs).length<1:=of_decide_eq_true h;rw[q0t]at this;exact w4f.mp (by omega)
   subst h0;rfl
  ·exact absurd (of_decide_eq_true h) (w4t.mpr (y4m hc _))
 ·split
  ·rename_i h;exact x68 h
  ·exact q7e c cs
def joinC(z:List Nat):List (List Nat)->List Nat
 |[]=>[]
 |[p]=>p
 |p::q::r=>p++(z++joinC z (q::r))
theorem x0g(z:List Nat):∀l:List (List Nat),Str.join (tx z) (l.map tx)=tx (joinC z l)
 |[]=>rfl
 |[p]=>rfl
 |p::q::r=>by
  show tx p++tx z++Str.join (tx z) ((q::r).map tx)=_;rw[x0g z (q::r),q2i,q2i,w0l];rfl
theorem y1k(z:List Nat)(c:Nat)(cs:List Nat):Builtin.Str.glued (tx z) ((cutC c cs).map tx)=tx (cs.flatMap fun d=>if d=c then z else[d]):=by
 rw[StrLaws.glued_eq_join,x0g];congr 1
 induction cs with
 |nil=>rfl
 |cons d r ih=>
  obtain⟨p,ps,e⟩:=q9o c r;rw[w2v,<- ih,e,q40,e];split
  ·rfl
  ·cases ps<;>rfl
theorem q63(hz:z≠[])(cs:List Nat):Txt.replace (tx cs) ⟨#[c]⟩ (tx z)=tx (cs.flatMap fun d=>if d=c then z else[d]):=by
 unfold Txt.replace;rw[<- y1k];split
 ·rename_i h;rw[w3c]at h;rcases h with h|h
  ·rw[<- x68 h];rfl
  ·simp only[w0p,beq_iff_eq]at h;exact absurd h.1 (fun z=>by cases z)
 ·rw[show(⟨#[c]⟩:Str).length=1 from rfl,q7e]
theorem q67:∀{l:List Nat},c∉l->cutC c l=[l]
 |[],_=>rfl
 |d::r,h=>by
  unfold cutC;rw[if_neg (fun z=>h (by rw[z];exact w0f)),q67 (fun z=>h (w0c _ z))]
theorem q5t:∀{l:List Nat}(r:List Nat),c∉l->cutC c (l++c::r)=l::cutC c r
 |[],r,_=>by rw[w1p,q40,if_pos rfl]
 |d::l,r,h=>by
  rw[w1f,q40,if_neg (fun z=>h (by rw[z];exact w0f)),q5t r (fun z=>h (w0c _ z))]
theorem x5j{c:Nat}:∀{ls:List (List Nat)}(t:List Nat),ls≠[]->(∀l∈ls,c∉l)->∃p,ls.getLast?=some p/\cutC c (joinC [c] ls++t)=ls.dropLast++cutC c (p++t)
 |[],_,h,_=>absurd rfl h
 |[p],t,_,_=>⟨p,rfl,rfl⟩
 |p::q::r,t,_,h=>by
  obtain⟨x,h1,h2⟩:=x5j (ls:=q::r) t (by simp) (fun l hl=>h l (w0c _ hl))
  refine⟨x,by rw[List.getLast?_cons_cons];exact h1,?_⟩;rw[show joinC [c] (p::q::r)=p++(c::joinC [c] (q::r))from rfl,w0l,w1f,q5t _ (h p w0f),h2];rfl
theorem at_tx{y:List Nat}:atB (tx cs) (tx y) i=true↔∃l r,cs=l++(y++r)/\l.length=i:=by
 rw[atB_iff];unfold StrLaws.At;rw[StrLaws.subAt_eq,q0t,q0t,q07,q07,beq_iff_eq];constructor
 ·rintro⟨h1,h2⟩;refine⟨cs.take i,cs.drop (i+y.length),?_,by simp;omega⟩;have:cs=cs.take i++((cs.drop i).take y.length++(cs.drop i).drop y.length):=by rw[w2c,w2c]
  rw[h2,w4w]at this;exact this
 ·rintro⟨l,r,rfl,rfl⟩;exact⟨by simp,by simp⟩
theorem x5k{l y:List Nat}(hy:y≠[])(hu:∀l' r',l++(y++r)=l'++(y++r')->l'.length=l.length)(n:Nat):Builtin.Str.occurrences (tx (l++(y++r))) (tx y) 0 (tx (l++(y++r))).length (n+1)=[l.length]:=by
 have hat:∀i,StrLaws.At (tx (l++(y++r))) (tx y) (tx (l++(y++r))).length i->i=l.length:=fun i h=>by
  obtain⟨l',r',e,hi⟩:=at_tx.mp (atB_iff.mpr h);rw[<- hi];exact hu l' r' e
 rcases StrLaws.occ_head (tx (l++(y++r))) (tx y) (n+1) (by omega)with⟨_,h2⟩|⟨i,q,h1,h2,_⟩
 ·exact absurd (atB_iff.mp (at_tx.mpr ⟨l,r,rfl,rfl⟩)) (h2 _)
 ·have:=hat i h2;subst this;obtain⟨f,hc⟩:=StrLaws.occ_chain (tx (l++(y++r))) (tx y) (n+1);rw[h1]at hc |-
  cases q with
  |nil=>rfl
  |cons j q=>
   obtain⟨_,_,h3,h4,_⟩:=hc;have:=hat j h4;rw[this,q0t]at h3;cases y with
   |nil=>exact absurd rfl hy
   |cons _ _=>simp at h3;omega
theorem y1l{l y:List Nat}(hy:y≠[])(hz:z≠[])(hu:∀l' r',l++(y++r)=l'++(y++r')->l'.length=l.length):Txt.replace (tx (l++(y++r))) (tx y) (tx z)=tx (l++(z++r)):=by
 unfold Txt.replace;rw[x5k hy hu,if_neg,StrLaws.partsBetween_eq,StrLaws.glued_eq_join]
 ·show Builtin.Str.strSub (tx (l++(y++r))) 0 l.length++tx z++Builtin.Str.strSub (tx (l++(y++r))) (l.length+(tx y).length) (tx (l++(y++r))).length=_;rw[q7n,q7n,q0t,q0t,q2i,q2i];congr 1;simp;exact w1t (by omega)
 ·simp only[List.isEmpty_cons,Bool.false_or,w0p,beq_iff_eq,q0t];rintro⟨h,_⟩;exact hy (w4f.mp h)
theorem x5l{l:List Nat}(hl:c∉l)(hr:c∉r)(l' r':List Nat)(e:l++c::r=l'++c::r'):l'.length=l.length:=by
 have h:(l++c::r)[l'.length]?=some c:=by rw[e];simp
 rcases Nat.lt_trichotomy l'.length l.length with hlt|heq|hgt
 ·rw[w1w hlt]at h;exact absurd (w1m h) hl
 ·exact heq
 ·rw[w1d (by omega),show l'.length-l.length=(l'.length-l.length-1)+1 by omega,w1r]at h;exact absurd (w1m h) hr
theorem x5m(hl:c∉l)(hr:c∉r):partT (tx (l++c::r)) (tx [c])=[tx l,tx [c],tx r]:=by
 have:=x5k (l:=l) (y:=[c]) (r:=r) (by simp) (fun l' r' e=>x5l hl hr l' r' e) 0
 rw[w3j]at this;unfold partT;rw[this];show[Builtin.Str.strSub _ 0 l.length,_,Builtin.Str.strSub _ (l.length+(tx [c]).length) _]=_;rw[q7n,q7n,q0t,q0t];simp;congr 1;exact w1t (by omega)
theorem y1m(hl:c∉l):partT (tx l) (tx [c])=[tx l, "", ""]:=by
 unfold partT;rcases StrLaws.occ_head (tx l) (tx [c]) 1 (w0b _)with⟨h,_⟩|⟨i,q,_,h2,_⟩
 ·rw[h];rfl
 ·obtain⟨l',r',e,_⟩:=at_tx.mp (atB_iff.mpr h2);exact absurd (by rw[e];simp) hl
theorem y1n:∀l:List (List Nat),strsW (l.map fun w=>.str (tx w))=some (l.map tx)
 |[]=>rfl
 |w::l=>by
  have:=y1n l;rw[w0g,w0g];show(strsW (l.map fun w=>W.str (tx w))).map (tx w::·)=_
  rw[this];rfl
theorem x5n{z:List Nat}{l:List (List Nat)}(h:(l.map List.length).sum+l.length*(z.length+1)<=1000000):joinW (.str (tx z)) [.lst (l.map fun w=>.str (tx w))]=some (.str (tx (joinC z l))):=by
 show(match strsW (l.map fun w=>W.str (tx w))with
   |some ys=>if joinOk (tx z) ys=true then some (W.str (Txt.join (tx z) ys))else none
   |none=>none)=_
 rw[y1n];show(if joinOk (tx z) (l.map tx)=true then some (W.str (Txt.join (tx z) (l.map tx)))else none)=_;rw[show Txt.join (tx z) (l.map tx)=tx (joinC z l)from(StrLaws.glued_eq_join _ _).trans (x0g z l),if_pos];unfold joinOk;rw[w1a,show(fun x:Str=>x.length) ∘ tx=List.length from funext q0t,w0j,q0t]
 refine w4n (w0v (Nat.add_le_add_left (w4x _ (w5h _)) _) (w0v h (by decide)))
def wstep(s:List (List Nat)×List Nat)(c:Nat):List (List Nat)×List Nat:=if c=32 then(s.1++fl s.2,[])else(s.1,s.2++[c])
def neB(w:List Nat):Bool:=decide (w≠[])
def wds(cs:List Nat):List (List Nat):=(cutC 32 cs).filter neB
theorem x25(w:List Nat)(r:List (List Nat)):(w::r).filter neB=fl w++r.filter neB:=by
 unfold fl neB;rw[w2m]
 by_cases h:w=[]
 ·simp[h]
 ·simp[h]
theorem x0h:∀(cs:List Nat)(out:List (List Nat))(cur:List Nat),∃p ps,cutC 32 cs=p::ps/\tfin (cs.foldl wstep (out,cur))=out++(((cur++p)::ps).filter neB)
 |[],out,cur=>⟨[],[],rfl,by rw[x25];simp[tfin]⟩
 |c::cs,out,cur=>by
  rw[q40,w0s]
  by_cases h:c=32
  ·obtain⟨p,ps,e1,e2⟩:=x0h cs (out++fl cur) [];rw[if_pos h,show wstep (out,cur) c=(out++fl cur,[])from if_pos h,e2,e1];exact⟨[],p::ps,rfl,by rw[x25 (cur++[]),w0l,w1h,w1p]⟩
  ·obtain⟨p,ps,e1,e2⟩:=x0h cs out (cur++[c]);rw[if_neg h,show wstep (out,cur) c=(out,cur++[c])from if_neg h,e2,e1];exact⟨c::p,ps,rfl,by rw[w0l];rfl⟩
theorem q7o(cs:List Nat):wds cs=tfin (cs.foldl wstep ([],[])):=by
 obtain⟨p,ps,e1,e2⟩:=x0h cs [] [];rw[e2];unfold wds;rw[e1];rfl
def toks(cs:List Nat):List (List Nat):=tfin (cs.foldl tstep ([],[]))
theorem q59{st:α->Nat->α}{g:Nat->List Nat}(h:∀c s,(g c).foldl st s=st s c)(cs:List Nat)(s:α):(cs.flatMap g).foldl st s=cs.foldl st s:=by
 induction cs generalizing s with
 |nil=>rfl
 |cons c cs ih=>rw[w2v,w1e,h,ih];rfl
theorem x69(s:List (List Nat)×List Nat):wstep (wstep s 32) 32=wstep s 32:=by simp[wstep,fl]
theorem x7a(s:List (List Nat)×List Nat):tstep (tstep s 32) 32=tstep s 32:=by simp[tstep,isL,fl]
theorem y5n(s:List (List Nat)×List Nat):tfin (wstep s 32)=tfin s:=by simp[wstep,tfin,fl]
theorem z6a(s:List (List Nat)×List Nat):tfin (tstep s 32)=tfin s:=by simp[tstep,isL,tfin,fl]
def rp(c:Nat)(z:List Nat)(d:Nat):List Nat:=if d=c then z else[d]
theorem y5o(c:Nat)(s:List (List Nat)×List Nat):(rp 32 [32,32,32] c).foldl wstep s=wstep s c:=by
 unfold rp;split
 ·rename_i h;subst h;show wstep (wstep (wstep s 32) 32) 32=_;rw[x69,x69]
 ·rfl
theorem z6b(c:Nat)(s:List (List Nat)×List Nat):(rp 32 [32,32,32] c).foldl tstep s=tstep s c:=by
 unfold rp;split
 ·rename_i h;subst h;show tstep (tstep (tstep s 32) 32) 32=_;rw[x7a,x7a]
 ·rfl
theorem z6c(c:Nat)(s:List (List Nat)×List Nat):(rp 40 [32,40,32] c).foldl tstep s=tstep s c:=by
 unfold rp;split
 ·rename_i h;subst h;show tstep (tstep (tstep s 32) 40) 32=_;simp[tstep,isL,fl]
 ·rfl
theorem z6d(c:Nat)(s:List (List Nat)×List Nat):(rp 41 [32,32,41] c).foldl tstep s=tstep s c:=by
 unfold rp;split
 ·rename_i h;subst h;show tstep (tstep (tstep s 32) 32) 41=_;simp[tstep,isL,fl]
 ·rfl
theorem q7p:∀{cs:List Nat},c∉cs->cs.flatMap (rp c z)=cs
 |[],_=>rfl
 |d::cs,h=>by
  rw[w2v,q7p (fun x=>h (w0c _ x))]
  unfold rp;rw[if_neg (fun x=>h (by rw[x];exact w0f))];rfl
theorem q4h{c e:Nat}(hz:e∉z)(h:e∉cs):e∉cs.flatMap (rp c z):=fun hm=>by
 obtain⟨d,hd,he⟩:=List.mem_flatMap.mp hm;unfold rp at he;split at he
 ·exact hz he
 ·rw[w1g.mp he]at h;exact h hd
def InR(cs:List Nat)(ws:List (List Nat)):Prop:=61∉cs/\10∉cs/\wds cs=ws
def EqR(cs:List Nat)(ws ts:List (List Nat)):Prop:=∃l r,cs=l++61::r/\61∉l/\61∉r/\10∉cs/\wds l=ws/\toks r=ts
def wayT(w:Int)(x:Str):Str:=if w=3\/w=2 then("  ":Str)++Txt.replace x " " "   "++" " else if w=4 then Txt.replace x " = " "=" else if w=5 then Txt.replace (Txt.replace x "(" " ( ") ")" "  )" else x
def wayC(w:Int)(cs:List Nat):List Nat:=if w=3\/w=2 then 32::32::(cs.flatMap (rp 32 [32,32,32])++[32])else if w=5 then(cs.flatMap (rp 40 [32,40,32])).flatMap (rp 41 [32,32,41])else cs
theorem y5p{w:Int}(cs:List Nat)(h:w≠4):wayT w (tx cs)=tx (wayC w cs):=by
 unfold wayT wayC
 by_cases h3:w=3\/w=2
 ·rw[if_pos h3,if_pos h3,show(" ":Str)=⟨#[32]⟩from rfl,show("   ":Str)=tx [32,32,32]from rfl,q63 (by simp),show("  ":Str)=tx [32,32]from rfl,q2i,show(⟨#[32]⟩:Str)=tx [32]from rfl,q2i];simp only[w1f,w1p,w0l];rfl
 ·rw[if_neg h3,if_neg h3,if_neg h]
  by_cases h5:w=5
  ·rw[if_pos h5,if_pos h5,show("(":Str)=⟨#[40]⟩from rfl,show(" ( ":Str)=tx [32,40,32]from rfl,q63 (by simp),show(")":Str)=⟨#[41]⟩from rfl,show("  )":Str)=tx [32,32,41]from rfl,q63 (by simp)];rfl
  ·rw[if_neg h5,if_neg h5]
theorem q5u{g:Nat->List Nat}(h:∀c,(g c).length<=3):∀cs:List Nat,(cs.flatMap g).length<=3*cs.length
 |[]=>by simp
 |c::cs=>by
  have h1:=h c;have h2:=q5u h cs;rw[w2v,w0r,w0q];omega
theorem x5o(h:z.length<=3):(rp c z d).length<=3:=by unfold rp;split<;>simp[h]
theorem x7b(w:Int)(cs:List Nat):(wayC w cs).length<=9*cs.length+3:=by
 have h1:=q5u (g:=rp 32 [32,32,32]) (fun c=>x5o (by simp)) cs
 have h2:=q5u (g:=rp 40 [32,40,32]) (fun c=>x5o (by simp)) cs
 have h3:=q5u (g:=rp 41 [32,32,41]) (fun c=>x5o (by simp)) (cs.flatMap (rp 40 [32,40,32]))
 unfold wayC;split
 ·simp only[w0q,w0r,w3e];omega
 ·split<;>omega
theorem z3v{w:Int}{ws:List (List Nat)}(h:InR cs ws)(h40:40∉cs)(h41:41∉cs):∃cs',wayT w (tx cs)=tx cs'/\InR cs' ws/\cs'.length<=9*cs.length+3:=by
 obtain⟨h1,h2,h3⟩:=h
 by_cases e4:w=4
 ·refine⟨cs,?_,⟨h1,h2,h3⟩,by omega⟩;unfold wayT;rw[if_neg (by omega),if_pos e4];unfold Txt.replace;rw[if_pos];rw[w3c]
  left
  rcases StrLaws.occ_head (tx cs) " = " ((tx cs).length+1) (by omega)with⟨h,_⟩|⟨i,q,_,h2,_⟩
  ·rw[h];rfl
  ·obtain⟨l',r',e,_⟩:=(at_tx (y:=[32,61,32])).mp (atB_iff.mpr h2);exact absurd (by rw[e];simp) h1
 ·refine⟨wayC w cs,y5p cs e4,?_,x7b w cs⟩;unfold wayC;split
  ·refine⟨?_,?_,?_⟩
   ·simp[q4h (c:=32) (z:=[32,32,32]) (by simp) h1]
   ·simp[q4h (c:=32) (z:=[32,32,32]) (by simp) h2]
   ·rw[q7o,<- h3,q7o,w0s,w0s,w1e,show wstep (wstep ([],[]) 32) 32=([],[])from rfl,q59 y5o];exact y5n _
  ·rw[q7p h40,q7p h41];split<;>exact⟨h1,h2,h3⟩
theorem z3w{w:Int}{ws ts:List (List Nat)}(hl:61∉l)(hr:61∉r)(h10:10∉l++r)(h40:40∉l)(h41:41∉l)(hw:wds l=ws)(ht:toks r=ts):∃cs',wayT w (tx (l++32::61::32::r))=tx cs'/\EqR cs' ws ts/\cs'.length<=9*(l.length+r.length+3)+3:=by
 have t10:10∉l:=fun x=>h10 (w0x _ x)
 have r10:10∉r:=fun x=>h10 (w0e _ x)
 have w1:wds (l++[32])=ws:=by rw[<- hw,q7o,q7o,w1e];exact y5n _
 have t1:toks (32::r)=ts:=by rw[<- ht];rfl
 by_cases e4:w=4
 ·refine⟨l++61::r,?_,⟨l,r,rfl,hl,hr,by simp[t10,r10],hw,ht⟩,by simp;omega⟩;unfold wayT;rw[if_neg (by omega),if_pos e4];refine(y1l (l:=l) (y:=[32,61,32]) (z:=[61]) (r:=r) (by simp) (by simp) fun l' r' e=>?_)
  have:=x5l (l:=l++[32]) (r:=32::r) (c:=61) (by simp[hl]) (by simp[hr]) (l'++[32]) (32::r') (by simpa using e)
  simpa using this
 ·refine⟨wayC w (l++32::61::32::r),y5p _ e4,?_,w0v (x7b _ _) (by simp;omega)⟩;unfold wayC;split
  ·refine⟨32::32::(l++[32]).flatMap (rp 32 [32,32,32]),(32::r).flatMap (rp 32 [32,32,32])++[32],?_,?_,?_,?_,?_,?_⟩
   ·simp[rp]
   ·simp[q4h (c:=32) (z:=[32,32,32]) (by simp) hl,rp]
   ·simp[q4h (c:=32) (z:=[32,32,32]) (by simp) hr,rp]
   ·simp[q4h (c:=32) (z:=[32,32,32]) (by simp) t10,q4h (c:=32) (z:=[32,32,32]) (by simp) r10,rp]
   ·rw[<- w1,q7o,q7o,w0s,w0s,show wstep (wstep ([],[]) 32) 32=([],[])from rfl,q59 y5o]
   ·rw[<- t1];unfold toks;rw[w1e,q59 z6b];exact z6a _
  ·split
   ·refine⟨l++[32],((32::r).flatMap (rp 40 [32,40,32])).flatMap (rp 41 [32,32,41]),?_,by simp[hl],?_,?_,w1,?_⟩
    ·rw[w3u,w3u,q7p h40,q7p h41];simp[rp]
    ·exact q4h (by simp) (q4h (by simp) (by simp[hr]))
    ·refine q4h (by simp) (q4h (by simp) (by simp[t10,r10]))
    ·rw[<- t1];unfold toks;rw[q59 z6d,q59 z6c]
   ·exact⟨l++[32],32::r,by simp,by simp[hl],by simp[hr],by simp[t10,r10],w1,t1⟩
theorem y4n(n k:Nat)(w:W)(x:Str)(done:List Str)(hx:okN x=true)(hi:x∉done)(hd:done.length<1000)(hk:k=done.length):
  q2h K a (run K a (n+2)) [.fr w,.dic (.k (pN 0 done)),.fr (.int k),.fr (.str x)]=.nx [.fr w,.dic (.k (pN 0 (done++[x]))),.fr (.int k),.fr (.str x)]:=by
 unfold q2h;walk_at "den";rw[x1j n x (x6z hx).1,hx];walk_at "den";rw[x31,w2a,q9n];simp only[hi,decide_false];walk_at "den";rw[if_pos ⟨by rw[y07];omega,rfl⟩]
 have e1:putL (pN 0 done) (.inr x) (.inl (k:Int))=pN 0 (done++[x]):=by
  unfold putL;rw[y08,if_neg (by simp[hi]),x6y,hk];simp
 rw[e1]
theorem x26(n:Nat)(w:W):∀(xs done:List Str)(z2 z3:S),(∀x∈xs,okN x=true)->(done++xs).Nodup->done.length+xs.length<1000 ->
  ∃y2 y3,forP 2 3 (q2h K a (run K a (n+2))) (enumL done.length (xs.map .str)) [.fr w,.dic (.k (pN 0 done)),z2,z3]=.nx [.fr w,.dic (.k (pN 0 (done++xs))),y2,y3]
 |[],done,z2,z3,_,_,_=>⟨z2,z3,by rw[w1h];rfl⟩
 |x::xs,done,z2,z3,hl,hn,hd=>by
  have hi:x∉done:=fun h=>(w3h.mp hn).2.2 x h x w0f rfl
  rw[w0g];show ∃y2 y3,forP 2 3 _ ((.int (done.length:Nat),.str x)::enumL (done.length+1) (xs.map .str)) _=_;rw[q3r];simp only[w2q,w2p];rw[y4n n done.length w x done (hl x w0f) hi (by simp at hd;omega) rfl,q1f];have ih:=x26 n w xs (done++[x]) (.fr (.int done.length)) (.fr (.str x)) (fun y hy=>hl y (w0c _ hy)) (by simpa using hn) (by simp at hd |-;omega)
  rw[show(done++[x]).length=done.length+1 by simp,show done++[x]++xs=done++x::xs by simp]at ih;exact ih
theorem y1o(n:Nat)(xs:List Str)(hx:∀x∈xs,okN x=true)(hn:xs.Nodup)(hd:xs.length<1000):run K a (n+3) q1k [.tup (xs.map .str)]=.ok (.dic (.k (pN 0 xs))):=by
 rw[q3x];unfold q27;walk_at "den";obtain⟨y2,y3,q⟩:=x26 (K:=K) (a:=a) n (.tup (xs.map .str)) xs [] .no .no hx (by simpa using hn) (by simpa using hd);rw[show(pN 0 []:List (Key×Sv))=[]from rfl,show([]:List Str).length=0 from rfl,w1p]at q;rw[q];walk_at "den"
theorem x7c(n:Nat)(cs:List Nat)(hcs:cs.length<=100000)(xs:List Str)(hx:∀x∈xs,okN x=true)(hd:xs.Nodup)(hl:xs.length<1000)(h:Tk xs 0 f ts d)(ht:(pieces cs).map (fun p=>tx p.2)=ts)(hd2:d<=12):
  run K a (n+4) q7h [.str (tx cs),.tup (xs.map .str)]=.ok (.fr .non)/\run K a (n+4) q8x [.str (tx cs),.tup (xs.map .str)]=.ok (.fr (enc f)):=by
 have hp:=x62 cs.length cs 0;have hf:=h.fine hx (pieces cs) [] 0 ht (by omega);rw[w1h]at hf;have hf0:flt0 xs (pieces cs) true 0=.inr (false,0):=hf;have hn:flt xs cs.length (pieces cs)=none:=by unfold flt;rw[hf0];rfl
 obtain⟨w,h1,h2⟩:=y89 (K:=K) (a:=a) (n+1) (pieces cs) xs hx (by show(pcs cs.length cs 0).length<=_;omega) hf0;rw[y4l,ht,h.whole hx hd]at h1;cases h1;refine⟨?_,?_⟩
 ·rw[q81];unfold q9m;walk_at "den";rw[y1o n xs hx hd hl];walk_at "den";rw[x1k n cs hcs];walk_at "den";rw[lenB hcs];walk_at "den";rw[y1d (n+1) (pieces cs) cs.length xs hx,hn];unfold encO;walk_at "den"
 ·rw[x0d];unfold x1c;walk_at "den";rw[y1o n xs hx hd hl];walk_at "den";rw[x1k n cs hcs];walk_at "den";rw[lenB hcs];walk_at "den";rw[y1d (n+1) (pieces cs) cs.length xs hx,hn];unfold encO;walk_at "den";rw[h2];walk_at "den"
theorem q5v{cc:Den Bool}{d:Den W}{pe:List S}(en g:α->W)(t:α->Bool):∀l:List α,(∀x∈l,∃e',cc (.fr (en x)::pe)=.ok (t x) e'/\(t x=true->∃e2,d e'=.ok (g x) e2))->compD cc d pe (l.map en)=some ((l.filter t).map g)
 |[],_=>rfl
 |x::l,h=>by
  obtain⟨e',h1,h2⟩:=h x w0f;rw[w0g,q8q,h1,w2m,q5v en g t l fun y hy=>h y (w0c _ hy)]
  cases q:t x with
  |false=>rfl
  |true=>
   obtain⟨e2,h3⟩:=h2 q;simp only[h3];rfl
theorem q8a(c:Nat):∀cs:List Nat,(cutC c cs).length<=cs.length+1
 |[]=>by simp[cutC]
 |d::r=>by
  have:=q8a c r;obtain⟨p,ps,e⟩:=q9o c r;rw[q40];split
  ·simp;omega
  ·rw[e]at this |-;simp at this |-;omega
def wT(w:List Nat):W:=.str (tx w)
theorem sp_w(hc:c<256)(h:cs.length<=100000):splitW (.str (tx cs)) [.str ⟨#[c]⟩]=some (.lst ((cutC c cs).map wT)):=by
 have:=q8a c cs;show(if okSplit (tx cs) ⟨#[c]⟩=true then some (W.lst ((Txt.split (tx cs) ⟨#[c]⟩).map .str))else none)=_;rw[x24 hc,if_pos,w1a]
 ·rfl
 ·unfold okSplit;rw[x24 hc,q0t,w0j];simp only[w0p,decide_eq_true_eq];exact⟨⟨rfl,by omega⟩,by omega⟩
theorem z3x(w:List Nat):ne2 (wT w) (.str "")=some (.bl (neB w)):=by
 show ne2 (.str (tx w)) (.str "")=_;rw[y5h];have:(tx w=("":Str))↔w=[]:=⟨fun h=>y06 (y:=[]) h,fun h=>by rw[h];rfl⟩
 simp[neB,this]
theorem q88(n:Nat)(cs:List Nat)(h:cs.length<=100000):run K a (n+1) q34 [.str (tx cs)]=.ok (.own none ((wds cs).map wT)):=by
 rw[q60];unfold q6h;walk_at "den";rw[show(" ":Str)=⟨#[32]⟩from rfl,sp_w (by omega) h];have hl:=q8a 32 cs;walk_at "den";rw[if_pos (by rw[w0j];omega),q5v wT wT neB]
 ·walk_at "den";rfl
 ·intro w _;unfold q80 q8z;walk_at "den";rw[z3x];walk_at "den";exact⟨_,rfl,fun _=>⟨_,rfl⟩⟩
structure Pt where
 row:Nat
 word:Str
 names:List Str
 first:W
 form:Str
 fm:Fm
def pk:List Kx:=[.str "row", .str "word", .str "names", .str "first", .str "form"]
def pw(p:Pt):List W:=[.int p.row,.str p.word,.tup (p.names.map .str),p.first,.str p.form]
def encPt(p:Pt):W:=.dw false .str pk (pw p)
theorem q6p(p:Pt):ixS (encPt p) (.str "word")=some (.str p.word):=by simp[ixS,encPt,pk,pw,lkW,q43]
theorem x0i(p:Pt):ixS (encPt p) (.str "names")=some (.tup (p.names.map .str)):=by simp[ixS,encPt,pk,pw,lkW,q43]
theorem y4o(p:Pt):ixS (encPt p) (.str "first")=some p.first:=by simp[ixS,encPt,pk,pw,lkW,q43]
theorem x7d(p:Pt):ixS (encPt p) (.str "form")=some (.str p.form):=by simp[ixS,encPt,pk,pw,lkW,q43]
theorem z3y(h:l.length<=100000):partW (.str (tx l)) [.str "="]=some (.tup ((partT (tx l) (tx [61])).map .str)):=by
 refine if_pos ?_;unfold okPart;rw[q0t];simp only[w0p,decide_eq_true_eq];exact⟨rfl,by omega⟩
def pt0(k:Nat)(f:Str):List W:=[.int k,.str "", .tup [],.non,.str f]
theorem x0j(n k:Nat){s1 s2:Str}(hc:cs.length<=100000)(hl:l.length<=100000)(h:partT (tx cs) (tx [61])=[tx l,s1,s2]):run K a (n+2) q00 [.str (tx cs),.int k]=(ptT K a (run K a (n+1)) [.fr (.str (tx cs)),.fr (.int k),.fr (.tup [.str (tx l),.str s1,.str s2]),.fr (.lst ((wds l).map wT)),.dw .str pk (pt0 k s2)]).fn:=by
 rw[q5d];unfold q4m;walk_at "den";rw[z3y hc,h];walk_at "den";rw[q88 n l hl];walk_at "den";rfl
theorem q9p(x y:Str):eq2 (.lst [.str x]) (.lst [.str y])=some (.bl (decide (x=y))):=by
 have h:(eqW (.lst [.str x]) (.lst [.str y]))=some (x==y):=by
  cases q:(x==y)<;>simp[eqW,eqWs,q]
 have d:depW (.lst [.str x])<=150:=by simp[depW,depWs]
 unfold eq2;rw[if_pos d,h];show some (W.bl (x==y))=_;congr 2
theorem q9q(w:W)(l:List W):cutW (w::l) none (some 1)=[w]:=x5h (k:=1) (l:=w::l) (by simp)
theorem z6e(w:W)(l:List W):cutW (w::l) (some 1) none=l:=q71 (k:=1) (l:=w::l) (by simp)
theorem y1p{g:Fm}{k:Nat}{f:Str}{w0 w1 w2 w3:W}:updC 4 ["word", "names"] [.str x,.tup (xs.map .str)] [.fr w0,.fr w1,.fr w2,.fr w3,.dw .str pk (pt0 k f)] (some (.dw .str pk (pt0 k f)))=.nx [.fr w0,.fr w1,.fr w2,.fr w3,.dw .str pk (pw ⟨k,x,xs,.non,f,g⟩)]:=by
 rw[y0x ⟨rfl,by simp[pk],by simp[pk,q43],rfl⟩];simp[updW,setW,pk,pt0,pw,q43]
theorem y4p{g:Fm}{k:Nat}{f:Str}{w0 w1 w2 w3:W}:updC 4 ["word", "names", "first"] [.str x,.tup (xs.map .str),.str y] [.fr w0,.fr w1,.fr w2,.fr w3,.dw .str pk (pt0 k f)] (some (.dw .str pk (pt0 k f)))=.nx [.fr w0,.fr w1,.fr w2,.fr w3,.dw .str pk (pw ⟨k,x,xs,.str y,f,g⟩)]:=by
 rw[y0x ⟨rfl,by simp[pk],by simp[pk,q43],rfl⟩];simp[updW,setW,pk,pt0,pw,q43]
theorem z3z(l:List (List Nat)):l.map wT=(l.map tx).map .str:=by rw[w1a];rfl
theorem z30{g:Fm}(n k:Nat){ns:List (List Nat)}(hc:cs.length<=100000)(h:InR cs ([105,110]::ns)):run K a (n+2) q00 [.str (tx cs),.int k]=.ok (.dw .str pk (pw ⟨k, "in", ns.map tx,.non, "", g⟩)):=by
 obtain⟨h1,h2,h3⟩:=h;rw[x0j n k hc hc (y1m h1),h3];unfold ptT;walk_at "den";rw[q9q,show wT [105,110]=.str "in" from rfl,q9p];walk_at "den";rw[z6e,z3z,y1p (g:=g)];walk_at "den"
def heldC:List Nat:=[104,101,108,100]
def outC:List Nat:=[111,117,116]
def ynC(b:Bool):List Nat:=if b=true then[121,101,115]else[110,111]
theorem y4q{g:Fm}(n k:Nat){nm:List Nat}{b:Bool}(hc:(l++61::r).length<=100000)(h1:61∉l)(h2:61∉r)(h:wds l=[heldC,nm,ynC b]):run K a (n+2) q00 [.str (tx (l++61::r)),.int k]=.ok (.dw .str pk (pw ⟨k, "held", [tx nm],wT (ynC b),tx r,g⟩)):=by
 rw[x0j n k hc (by simp at hc;omega) (show partT (tx (l++61::r)) (tx [61])=[tx l, "=", tx r]from x5m h1 h2),h];unfold ptT;walk_at "den";rw[q9q,show wT heldC=.str "held" from rfl,q9p];walk_at "den";rw[q9q,q9p];walk_at "den";rw[show inW (wT (ynC b)) (.tup [.str "yes", .str "no"])=some (.bl true) by cases b<;>rfl];walk_at "den";rw[show([wT nm]:List W)=[tx nm].map .str from rfl,show wT (ynC b)=.str (tx (ynC b))from rfl,y4p (g:=g)];walk_at "den";exact(if_pos rfl).trans rfl
theorem y9d{g:Fm}(n k:Nat){nm:List Nat}(hc:(l++61::r).length<=100000)(h1:61∉l)(h2:61∉r)(h:wds l=[outC,nm]):run K a (n+2) q00 [.str (tx (l++61::r)),.int k]=.ok (.dw .str pk (pw ⟨k, "out", [tx nm],.non,tx r,g⟩)):=by
 rw[x0j n k hc (by simp at hc;omega) (show partT (tx (l++61::r)) (tx [61])=[tx l, "=", tx r]from x5m h1 h2),h];unfold ptT;walk_at "den";rw[q9q,show wT outC=.str "out" from rfl,q9p];walk_at "den";rw[q9q,q9p];walk_at "den";rw[q9q,q9p];walk_at "den";rw[show([wT nm]:List W)=[tx nm].map .str from rfl,y1p (g:=g)];walk_at "den";exact if_pos rfl
def namesOf(ps:List Pt)(x:Str):List Str:=(ps.filter fun p=>decide (p.word=x)).flatMap Pt.names
theorem q31(p:Pt)(ps:List Pt)(x:Str):namesOf (p::ps) x=(if p.word=x then p.names else[])++namesOf ps x:=by
 unfold namesOf;rw[w2m]
 by_cases h:p.word=x<;>simp[h]
theorem x1m(r:Nat->List W->FR)(w0:W)(x:Str):∀(ps:List Pt)(acc:List Str)(z:S),(acc++namesOf ps x).length<=1000->∃z',forD 3 (q3w K a r) (ps.map encPt) [.fr w0,.fr (.str x),.fr (.tup (acc.map .str)),z]=.nx [.fr w0,.fr (.str x),.fr (.tup ((acc++namesOf ps x).map .str)),z']
 |[],acc,z,_=>⟨z,by simp[namesOf];rfl⟩
 |p::ps,acc,z,h=>by
  rw[q31,<- w0l]at h |-
  obtain⟨z',ih⟩:=x1m r w0 x ps (acc++if p.word=x then p.names else[]) (.fr (encPt p)) h;refine⟨z',?_⟩;rw[<- ih,w0g];show(q3w K a r [.fr w0,.fr (.str x),.fr (.tup (acc.map .str)),.fr (encPt p)]).turnT (forD 3 (q3w K a r) (ps.map encPt))=_;unfold q3w;walk_at "den";rw[q6p];walk_at "den"
  by_cases e:p.word=x
  ·simp only[e,if_true]at h |-
   rw[x0i];walk_at "den";rw[if_pos (by simp at h |-;omega),<- w0i];walk_at "den"
  ·simp only[e,if_false,w1h];walk_at "den"
theorem q6a(n:Nat)(ps:List Pt)(x:Str)(h:(namesOf ps x).length<=1000):run K a (n+1) q1x [.lst (ps.map encPt),.str x]=.ok (.fr (.tup ((namesOf ps x).map .str))):=by
 rw[q61];unfold q6i;walk_at "den";obtain⟨z',e⟩:=x1m (K:=K) (a:=a) (run K a n) (.lst (ps.map encPt)) x ps [] .no (by simpa using h);rw[w3y,w1p]at e;rw[e];walk_at "den"
def rowW:List Str:=["in", "held", "out"]
def behind(x:Str):List Str:=if x="in" then[""]else if x="held" then["in", "held"]else["in", "held", "out"]
def mostN(x:Str):Nat:=if x="in" then 3 else if x="held" then 4 else 6
theorem y5q(ys:List Str):ninW (.str x) (.tup (ys.map .str))=some (.bl (!decide (x∈ys))):=by
 refine(if_pos ⟨rfl,q66 ys⟩).trans ?_;rw[q70]
theorem z6f(h:x∈rowW):tabCW q64 (.str x)=some (.tup ((behind x).map .str))/\tabW q4j (.str x)=some (.int (mostN x)):=by
 simp only[rowW,w0d,w0o,or_false]at h;rcases h with rfl|rfl|rfl
 ·exact⟨rfl,rfl⟩
 ·exact⟨rfl,rfl⟩
 ·exact⟨rfl,rfl⟩
def lastW(ps:List Pt):Str:=match ps.getLast? with
 |some p=>p.word
 |none=>""
def taken(ps:List Pt):List Str:=namesOf ps "in"++(namesOf ps "held"++namesOf ps "out")
structure Stand(ps:List Pt)(p:Pt):Prop where
 word:p.word∈rowW
 last:lastW ps∈behind p.word
 most:(namesOf ps p.word++p.names).length<=mostN p.word
 ok:∀x∈p.names,okN x=true/\x∉rowW
 nd:(taken ps++p.names).Nodup
 len:(taken ps).length<=900
theorem x8h(n:Nat)(w0 w1 w2 w3:W)(x:Str)(tk:List Str)(z5:S)(h1:okN x=true)(h2:x∉rowW)(hi:x∉tk)(hl:tk.length<=1000):q2c K a (run K a (n+2)) [.fr w0,.fr w1,.fr w2,.fr w3,.own none (tk.map .str),z5,.fr (.str x)]=.nx [.fr w0,.fr w1,.fr w2,.fr w3,.own none ((tk++[x]).map .str),z5,.fr (.str x)]:=by
 unfold q2c;walk_at "den";rw[z59];simp only[hi,decide_false];walk_at "den";rw[show inW (.str x) (.tup [.str "in", .str "held", .str "out"])=some (.bl false)from(x1i rowW).trans (by simp[h2])];walk_at "den";rw[x1j n x (x6z h1).1,h1];walk_at "den";rw[if_pos (by simp;omega)];simp
theorem x1n(n:Nat)(w0 w1 w2 w3:W):∀(xs tk:List Str)(z5 z6:S),(∀x∈xs,okN x=true/\x∉rowW)->(tk++xs).Nodup->(tk++xs).length<=1000->∃e,forD 6 (q2c K a (run K a (n+2))) (xs.map .str) [.fr w0,.fr w1,.fr w2,.fr w3,.own none (tk.map .str),z5,z6]=.nx e
 |[],tk,z5,z6,_,_,_=>⟨_,rfl⟩
 |x::xs,tk,z5,z6,hx,hn,hl=>by
  obtain⟨h1,h2⟩:=hx x w0f;have hi:x∉tk:=fun h=>(w3h.mp hn).2.2 x h x w0f rfl
  obtain⟨e,ih⟩:=x1n n w0 w1 w2 w3 xs (tk++[x]) z5 (.fr (.str x)) (fun y hy=>hx y (w0c _ hy)) (by simpa using hn) (by simpa using hl)
  refine⟨e,?_⟩;rw[<- ih,w0g];show(q2c K a (run K a (n+2)) [.fr w0,.fr w1,.fr w2,.fr w3,.own none (tk.map .str),z5,.fr (.str x)]).turnT (forD 6 (q2c K a (run K a (n+2))) (xs.map .str))=_;rw[x8h n w0 w1 w2 w3 x tk z5 h1 h2 hi (by simp at hl;omega)];rfl
theorem x0k(n:Nat)(w0 w2 w3:W)(ps:List Pt)(x:Str)(tk:List Str)(z6:S)(h:tk.length+(namesOf ps x).length<=1000):q04 K a (run K a (n+1)) [.fr w0,.fr (.lst (ps.map encPt)),.fr w2,.fr w3,.own none (tk.map .str),.fr (.str x),z6]=.nx [.fr w0,.fr (.lst (ps.map encPt)),.fr w2,.fr w3,.own none ((tk++namesOf ps x).map .str),.fr (.str x),z6]:=by
 unfold q04;walk_at "den";rw[q6a n ps x (by omega)];walk_at "den";rw[if_pos (by simp;omega)];simp
theorem y9e{ps:List Pt}(h:ps≠[]):∃p,ps.getLast?=some p/\atI (ps.map encPt) (-1)=some (encPt p):=by
 obtain⟨q,e⟩:∃q,ps=ps.dropLast++[q]:=⟨ps.getLast h,(List.dropLast_concat_getLast h).symm⟩;refine⟨q,by rw[e];simp,?_⟩;rw[e,w0i];exact x63
theorem y9f(n:Nat)(w0 w2 w3:W)(ps:List Pt)(z5 z6:S)(h:(taken ps).length<=900):forD 5 (q04 K a (run K a (n+1))) [.str "in", .str "held", .str "out"] [.fr w0,.fr (.lst (ps.map encPt)),.fr w2,.fr w3,.own none [],z5,z6]=.nx [.fr w0,.fr (.lst (ps.map encPt)),.fr w2,.fr w3,.own none ((taken ps).map .str),.fr (.str "out"),z6]:=by
 simp only[taken,w0r]at h;show(q04 K a (run K a (n+1)) [.fr w0,.fr (.lst (ps.map encPt)),.fr w2,.fr w3,.own none (([]:List Str).map .str),.fr (.str "in"),z6]).turnT (forD 5 (q04 K a (run K a (n+1))) [.str "held", .str "out"])=_;rw[x0k n w0 w2 w3 ps "in" [] z6 (by simp;omega)];show(q04 K a (run K a (n+1)) [.fr w0,.fr (.lst (ps.map encPt)),.fr w2,.fr w3,.own none (([]++namesOf ps "in").map .str),.fr (.str "held"),z6]).turnT (forD 5 (q04 K a (run K a (n+1))) [.str "out"])=_;rw[x0k n w0 w2 w3 ps "held" _ z6 (by simp;omega)];show(q04 K a (run K a (n+1)) [.fr w0,.fr (.lst (ps.map encPt)),.fr w2,.fr w3,.own none (([]++namesOf ps "in"++namesOf ps "held").map .str),.fr (.str "out"),z6]).turnT (forD 5 (q04 K a (run K a (n+1))) [])=_;rw[x0k n w0 w2 w3 ps "out" _ z6 (by simp;omega),w1p,w0l];rfl
def lastD:Den W:=dIf (dTest (dOp gtW (dFn len1 (dCons (dVar 1) dNil)) (dC (.int 0)))) (dOp ixS (dOp ixW (dVar 1) (dUn negW (dC (.int 1)))) (dC (.str "word"))) (dC (.str ""))
theorem y4r(w0 w2:W)(z3 z4 z5 z6:S)(ps:List Pt)(hl:ps.length<=1000):lastD [.fr w0,.fr (.lst (ps.map encPt)),.fr w2,z3,z4,z5,z6]=.ok (.str (lastW ps)) [.fr w0,.fr (.lst (ps.map encPt)),.fr w2,z3,z4,z5,z6]:=by
 unfold lastD;walk_at "den"
 by_cases h:ps=[]
 ·subst h;rfl
 ·obtain⟨p,h1,h2⟩:=y9e h;have hp:0<ps.length:=w3v.mpr h;unfold lastW;rw[w0j,if_pos (by omega),h1,h2];walk_at "den";rw[q6p];walk_at "den"
theorem y9g(n:Nat)(ps:List Pt)(p:Pt)(hl:ps.length<=1000)(h:Stand ps p):run K a (n+3) q4g [encPt p,.lst (ps.map encPt)]=.ok (.fr (.bl true)):=by
 have hm:=h.most;have hlen:=h.len;have hm6:mostN p.word<=6:=by unfold mostN;split<;>(try split)<;>omega
 have hlt:(taken ps).length=(namesOf ps "in").length+((namesOf ps "held").length+(namesOf ps "out").length):=by simp[taken]
 rw[w0r]at hm;obtain⟨b1,b2⟩:=z6f h.word;rw[q6g];unfold q51;rw[show dIf (dTest (dOp gtW (dFn len1 (dCons (dVar 1) dNil)) (dC (.int 0)))) (dOp ixS (dOp ixW (dVar 1) (dUn negW (dC (.int 1)))) (dC (.str "word"))) (dC (.str ""))=lastD from rfl];walk_at "den";rw[q6p];walk_at "den";rw[y4r _ _ _ _ _ _ ps hl];walk_at "den";rw[show ninW (.str p.word) (.tup [.str "in", .str "held", .str "out"])=some (.bl false)from(y5q rowW).trans (by simp[h.word])];walk_at "den";rw[b1];walk_at "den";rw[y5q];simp only[h.last,decide_true];walk_at "den";rw[q6a (n+1) ps p.word (by omega)];walk_at "den";rw[x0i];walk_at "den";rw[if_pos (by simp;omega)];walk_at "den";rw[b2];walk_at "den";rw[if_neg (by simp;omega)];rw[y9f (n+1) _ _ _ ps _ _ hlen];walk_at "den";rw[x0i];walk_at "den";obtain⟨e,he⟩:=x1n (K:=K) (a:=a) n (encPt p) (.lst (ps.map encPt)) (.str p.word) (.str (lastW ps)) p.names (taken ps) (.fr (.str "out")) .no h.ok h.nd (by simp;omega);rw[he];walk_at "den"
inductive Rows(K:PySem.W.Frag)(a:Adr):Nat->List Pt->List (List Nat)->List Pt->Prop
 |nil {k:Nat} {ah:List Pt}:Rows K a k ah [] []
 |blank {k:Nat} {ah ps:List Pt} {cs:List Nat} {rs:List (List Nat)} (hw:wds cs=[]) (hc:cs.length<=100000) (h:Rows K a (k+1) ah rs ps):Rows K a k ah (cs::rs) ps
 |part {k:Nat} {ah ps:List Pt} {p:Pt} {cs:List Nat} {rs:List (List Nat)} (hw:wds cs≠[]) (hc:cs.length<=100000) (hp:∀n,run K a (n+2) q00 [.str (tx cs),.int k]=.ok (.dw .str pk (pw p))) (hs:Stand ah p) (h:Rows K a (k+1) (ah++[p]) rs ps):Rows K a k ah (cs::rs) (p::ps)
theorem x8i(n k:Nat)(w0:W)(ah:List Pt)(z4:S)(hw:wds cs=[])(hc:cs.length<=100000):q1d K a (run K a (n+3)) [.fr w0,.own none (ah.map encPt),.fr (.int k),.fr (wT cs),z4]=.nx [.fr w0,.own none (ah.map encPt),.fr (.int k),.fr (wT cs),z4]:=by
 unfold q1d;walk_at "den";rw[show wT cs=.str (tx cs)from rfl,q88 (n+2) cs hc,hw];walk_at "den"
theorem x8j(n k:Nat)(w0:W)(ah:List Pt){p:Pt}(z4:S)(hw:wds cs≠[])(hc:cs.length<=100000)(hl:ah.length<=900)(hp:∀n,run K a (n+2) q00 [.str (tx cs),.int k]=.ok (.dw .str pk (pw p)))(hs:Stand ah p):q1d K a (run K a (n+3)) [.fr w0,.own none (ah.map encPt),.fr (.int k),.fr (wT cs),z4]=.nx [.fr w0,.own none ((ah++[p]).map encPt),.fr (.int k),.fr (wT cs),.fr (encPt p)]:=by
 have hwl:0<(wds cs).length:=w3v.mpr hw;have hw2:(wds cs).length<=100001:=w0v (w4r _ _) (w0v (q8a 32 cs) (by omega));unfold q1d;walk_at "den";rw[show wT cs=.str (tx cs)from rfl,q88 (n+2) cs hc];walk_at "den";rw[if_pos (by rw[w0j];omega),hp (n+1)];walk_at "den";rw[show W.dw false .str pk (pw p)=encPt p from rfl,y9g n ah p (by omega) hs];walk_at "den";rw[if_pos (by simp;omega)];simp
theorem y1q(n:Nat)(w0:W){k:Nat}{ah ps:List Pt}(h:Rows K a k ah rs ps):ah.length+ps.length<=900->∀z2 z3 z4:S,∃y2 y3 y4,forP 2 3 (q1d K a (run K a (n+3))) (enumL k (rs.map wT)) [.fr w0,.own none (ah.map encPt),z2,z3,z4]=.nx [.fr w0,.own none ((ah++ps).map encPt),y2,y3,y4]:=by
 induction h with
 |nil=>exact fun _ z2 z3 z4=>⟨z2,z3,z4,by rw[w1h];rfl⟩
 | @blank k ah ps cs rs hw hc h ih=>
  intro hl z2 z3 z4;obtain⟨y2,y3,y4,e⟩:=ih hl (.fr (.int k)) (.fr (wT cs)) z4;refine⟨y2,y3,y4,?_⟩;rw[w0g,enumL,q3r];simp only[w2q,w2p];rw[x8i n k w0 ah z4 hw hc,q1f];exact e
 | @part k ah ps p cs rs hw hc hp hs h ih=>
  intro hl z2 z3 z4;obtain⟨y2,y3,y4,e⟩:=ih (by simp at hl |-;omega) (.fr (.int k)) (.fr (wT cs)) (.fr (encPt p));refine⟨y2,y3,y4,?_⟩;rw[w0g,enumL,q3r];simp only[w2q,w2p];rw[x8j n k w0 ah z4 hw hc (by omega) hp hs,q1f,e,w0l];rfl
theorem x1o(n:Nat){ps:List Pt}(h:Rows K a 0 [] rs ps)(hp:ps≠[])(hl:ps.length<=900):run K a (n+4) q1l [.lst (rs.map wT)]=.ok (.fr (.tup [.lst (ps.map encPt),.non])):=by
 have h0:0<ps.length:=w3v.mpr hp;rw[q3z];unfold q3b;walk_at "den";obtain⟨y2,y3,y4,e⟩:=y1q n (.lst (rs.map wT)) h (by simpa using hl) .no .no .no;rw[show([]:List Pt).map encPt=[]from rfl,w1p]at e;rw[e];walk_at "den";rw[if_neg (by simp;omega)];walk_at "den"
def FormOk(ns:List Str)(p:Pt):Prop:=∃cs ts d,p.form=tx cs/\cs.length<=100000/\Tk ns 0 p.fm ts d/\(pieces cs).map (fun p=>tx p.2)=ts/\d<=12
structure Sheet(ns:List Str)(ps:List Pt):Prop where
 ne:ps≠[]
 len:ps.length<=900
 ok:∀x∈ns,okN x=true
 nd:ns.Nodup
 nl:ns.length<1000
 few:∀x,(namesOf ps x).length<=1000
 names:namesOf ps "in"++namesOf ps "held"=ns
 fm:∀p∈ps,p.word≠"in"->FormOk ns p
theorem x8k(n:Nat)(w0 w1:W)(ns:List Str)(p:Pt)(ok:∀x∈ns,okN x=true)(nd:ns.Nodup)(nl:ns.length<1000)(h:p.word≠"in"->FormOk ns p):q2b K a (run K a (n+4)) [.fr w0,.fr w1,.fr (.tup (ns.map .str)),.fr (encPt p)]=.nx [.fr w0,.fr w1,.fr (.tup (ns.map .str)),.fr (encPt p)]:=by
 unfold q2b;walk_at "den";rw[q6p];walk_at "den"
 by_cases e:p.word="in"
 ·rw[e];walk_at "den"
 ·obtain⟨cs,ts,d,h1,h2,h3,h4,h5⟩:=h e;simp only[e,decide_false];walk_at "den";rw[x7d,h1];walk_at "den";rw[(x7c n cs h2 ns ok nd nl h3 h4 h5).1];walk_at "den"
theorem x1p(n:Nat)(w0 w1:W)(ns:List Str)(ok:∀x∈ns,okN x=true)(nd:ns.Nodup)(nl:ns.length<1000):∀(ps:List Pt)(z:S),(∀p∈ps,p.word≠"in"->FormOk ns p)->∃e,forD 3 (q2b K a (run K a (n+4))) (ps.map encPt) [.fr w0,.fr w1,.fr (.tup (ns.map .str)),z]=.nx e
 |[],z,_=>⟨_,rfl⟩
 |p::ps,z,h=>by
  obtain⟨e,ih⟩:=x1p n w0 w1 ns ok nd nl ps (.fr (encPt p)) fun q hq=>h q (w0c _ hq)
  refine⟨e,?_⟩;rw[<- ih,w0g];show(q2b K a (run K a (n+4)) [.fr w0,.fr w1,.fr (.tup (ns.map .str)),.fr (encPt p)]).turnT (forD 3 (q2b K a (run K a (n+4))) (ps.map encPt))=_;rw[x8k n w0 w1 ns p ok nd nl (h p w0f)];rfl
theorem x5p(n:Nat){ps:List Pt}(hc:cs.length<=100000)(h:Rows K a 0 [] (cutC 10 cs) ps)(s:Sheet ns ps):run K a (n+5) q2j [.str (tx cs)]=.ok (.fr .non):=by
 rw[q6f];unfold q50;walk_at "den";rw[show("\n":Str)=⟨#[10]⟩from rfl,sp_w (by omega) hc];walk_at "den";rw[x1o n h s.ne s.len];walk_at "den";rw[q6a (n+3) ps "in" (s.few _)];walk_at "den";rw[q6a (n+3) ps "held" (s.few _)];walk_at "den";rw[if_pos (by have:=s.few "in";have:=s.few "held";simp;omega),<- w0i,s.names];walk_at "den";obtain⟨e,he⟩:=x1p (K:=K) (a:=a) n (.str (tx cs)) (.tup [.lst (ps.map encPt),.non]) ns s.ok s.nd s.nl ps .no s.fm;rw[he];walk_at "den"
def inB(p:Pt):Bool:=!decide (p.word="in")
def heldB(p:Pt):Bool:=decide (p.word="held")
def yesB:W->Bool
 |.str x=>decide (x="yes")
 |_=>false
def formsW(ps:List Pt):List W:=(ps.filter inB).map fun p=>enc p.fm
def firstsW(ps:List Pt):List W:=(ps.filter heldB).map fun p=>.bl (yesB p.first)
def namesT(ps:List Pt):W:=.tup (rowW.map fun x=>.tup ((namesOf ps x).map .str))
def sheetW(ps:List Pt):W:=.tup [namesT ps,.tup [.int (namesOf ps "in").length,.tup (pairW (firstsW ps) ((formsW ps).take (firstsW ps).length)),.tup ((formsW ps).drop (firstsW ps).length)]]
theorem y9h(n:Nat)(ps:List Pt)(ns:List Str)(s:Sheet ns ps)(p:Pt)(hp:p∈ps):∃e',q5l K a (run K a (n+4)) [.fr (encPt p),.fr (namesT ps)]=.ok (inB p) e'/\(inB p=true->∃e2,q5k K a (run K a (n+4)) e'=.ok (enc p.fm) e2):=by
 unfold q5l q5k;walk_at "den";rw[q6p];walk_at "den";refine⟨_,rfl,fun e=>?_⟩
 obtain⟨cs,ts,d,h1,h2,h3,h4,h5⟩:=s.fm p hp (by simpa [inB]using e);walk_at "den";rw[x7d,h1];unfold namesT rowW;walk_at "den";rw[if_pos (by have:=s.few "in";have:=s.few "held";simp;omega),<- w0i,s.names];walk_at "den";rw[(x7c n cs h2 ns s.ok s.nd s.nl h3 h4 h5).2];walk_at "den";exact⟨_,rfl⟩
theorem y4s(r:Nat->List W->FR)(p:Pt)(hf:p.word="held"->∃b,p.first=wT (ynC b)):∃e',q5j K a r [.fr (encPt p)]=.ok (heldB p) e'/\(heldB p=true->∃e2,q5i K a r e'=.ok (.bl (yesB p.first)) e2):=by
 unfold q5j q5i;walk_at "den";rw[q6p];walk_at "den";refine⟨_,rfl,fun e=>?_⟩
 obtain⟨b,hb⟩:=hf (by simpa [heldB]using e);walk_at "den";rw[y4o,hb];walk_at "den";cases b
 ·exact⟨_,rfl⟩
 ·exact⟨_,rfl⟩
theorem y4t(n:Nat){ps:List Pt}(hc:cs.length<=100000)(h:Rows K a 0 [] (cutC 10 cs) ps)(s:Sheet ns ps)(hf:∀p∈ps,p.word="held"->∃b,p.first=wT (ynC b)):run K a (n+6) q2y [.str (tx cs)]=.ok (.fr (sheetW ps)):=by
 have hl:=s.len
 have hk:(firstsW ps).length<=(formsW ps).length:=by
  unfold firstsW formsW;rw[w0j,w0j,<- w3p,<- w3p];refine List.countP_mono_left fun p _ h=>?_
  simp only[heldB,inB,decide_eq_true_eq]at h |-
  rw[h];decide
 have hk2:(firstsW ps).length<=900:=by
  unfold firstsW;rw[w0j];exact w0v (w4r _ _) hl
 rw[q5o];unfold q47;walk_at "den";rw[x5p n hc h s];walk_at "den";rw[show("\n":Str)=⟨#[10]⟩from rfl,sp_w (by omega) hc];walk_at "den";rw[x1o (n+1) h s.ne s.len];walk_at "den";simp only[frz1,pj1,w1r,w1y];rw[show([.str "in", .str "held", .str "out"]:List W)=rowW.map .str from rfl,q5v W.str (fun x=>.tup ((namesOf ps x).map .str)) (fun _=>true)]
 ·rw[show(rowW.filter fun _=>true)=rowW from rfl]
  walk_at "den";rw[show W.tup (rowW.map fun x=>.tup ((namesOf ps x).map .str))=namesT ps from rfl,if_pos (by simp;omega)]
  simp only[frz1,pj1,w1r,w1y];rw[q5v encPt (fun p=>enc p.fm) inB ps (y9h (n+1) ps ns s)]
  walk_at "den";rw[if_pos (by simp;omega),q5v encPt (fun p=>.bl (yesB p.first)) heldB ps fun p hp=>y4s _ p (hf p hp)]
  walk_at "den";rw[show ixW (namesT ps) (.int 0)=some (.tup ((namesOf ps "in").map .str))from rfl];walk_at "den";rw[show(ps.filter heldB).map (fun p=>W.bl (yesB p.first))=firstsW ps from rfl,show(ps.filter inB).map (fun p=>enc p.fm)=formsW ps from rfl,x5h hk]
  walk_at "den";rw[show zip1 [.lst (firstsW ps),.lst ((formsW ps).take (firstsW ps).length)]=some (.tup (pairW (firstsW ps) ((formsW ps).take (firstsW ps).length)))from if_pos (by rw[w3d];omega)];walk_at "den";rw[q71 hk,w0j];rfl
 ·intro x _;unfold q7i;refine⟨_,rfl,fun _=>?_⟩
  walk_at "den";rw[q6a (n+4) ps x (s.few x)];walk_at "den";exact⟨_,rfl⟩
def ynS(b:Bool):Str:=if b=true then "yes" else "no"
def binT(w x y:Str):Str:=("(":Str)++x++" "++w++" "++y++")"
def txF(ns:List Str):Fm->Str
 |.is b=>ynS b
 |.at p=>ns.getD p ""
 |.not f=>("not ":Str)++txF ns f
 |.and f g=>binT "and" (txF ns f) (txF ns g)
 |.or f g=>binT "or" (txF ns f) (txF ns g)
 |.odd f g=>binT "odd" (txF ns f) (txF ns g)
theorem x0l(w x y:Str)(hw:w.length<=3):(binT w x y).length<=x.length+y.length+7:=by
 unfold binT;simp only[q1q];have h1:("(":Str).length=1:=rfl;have h2:(" ":Str).length=1:=rfl;have h3:(")":Str).length=1:=rfl;omega
theorem x0m(hn:∀x∈ns,x.length<=8)(p:Nat):(ns.getD p "").length<=8:=by
 rcases w3z p ns.length with h|h
 ·rw[w0k,w0a h];exact hn _ (w1l h)
 ·rw[w0k,w3k h];exact w1c _
theorem q1e(hn:∀x∈ns,x.length<=8):∀f:Fm,(txF ns f).length<=16*f.size
 |.is b=>by show(ynS b).length<=16;cases b<;>decide
 |.at p=>w0v (x0m hn p) (show 8<=16 by decide)
 |.not f=>by
  have:=q1e hn f;show(("not ":Str)++txF ns f).length<=16*(f.size+1);rw[q1q];have h1:("not ":Str).length=4:=rfl;omega
 |.and f g=>by
  have h1:=q1e hn f;have h2:=q1e hn g;have:=x0l "and" (txF ns f) (txF ns g) (by decide);show(binT "and" _ _).length<=16*(f.size+g.size+1);omega
 |.or f g=>by
  have h1:=q1e hn f;have h2:=q1e hn g;have:=x0l "or" (txF ns f) (txF ns g) (by decide);show(binT "or" _ _).length<=16*(f.size+g.size+1);omega
 |.odd f g=>by
  have h1:=q1e hn f;have h2:=q1e hn g;have:=x0l "odd" (txF ns f) (txF ns g) (by decide);show(binT "odd" _ _).length<=16*(f.size+g.size+1);omega
theorem x0n(n:Nat)(ns:List Str){w:String}{h:Fm}(hh:enc h=.tup [.str w,enc f,enc g])(h1:w≠"is")(h2:w≠"at")(h3:w≠"not")(hw:(Str.ofString w).length<=3)(lf:(txF ns f).length<=100000)(lg:(txF ns g).length<=100000)
  (rf:run K a n q03 [enc f,.tup (ns.map .str)]=.ok (.fr (.str (txF ns f))))(rg:run K a n q03 [enc g,.tup (ns.map .str)]=.ok (.fr (.str (txF ns g)))):run K a (n+1) q03 [enc h,.tup (ns.map .str)]=.ok (.fr (.str (binT w (txF ns f) (txF ns g)))):=by
 rw[q2d,hh];unfold q2p;walk_at "den";simp only[h1,h2,h3];walk_at "den";rw[rf];walk_at "den";have c1:("(":Str).length=1:=rfl;have c2:(" ":Str).length=1:=rfl;have c3:(")":Str).length=1:=rfl;rw[if_pos (by omega),if_pos (by simp only[q1q];omega),if_pos (by simp only[q1q];omega),if_pos (by simp only[q1q];omega),rg];walk_at "den";rw[if_pos (by simp only[q1q];omega)];walk_at "den";rw[if_pos (by simp only[q1q];omega)];rfl
theorem q3d(ns:List Str)(hn:∀x∈ns,x.length<=8):∀(f:Fm)(n:Nat),f.depth<=n->f.size<=100->f.inb ns.length->run K a n q03 [enc f,.tup (ns.map .str)]=.ok (.fr (.str (txF ns f)))
 |.is b,n+1,_,_,_=>by
  rw[q2d];unfold q2p enc;walk_at "den";cases b<;>rfl
 |.at p,n+1,_,_,hi=>by
  have hp:p<ns.length:=hi;rw[q2d];unfold q2p enc;walk_at "den";rw[x60 hp];walk_at "den";simp[txF,hp]
 |.not f,n+1,hd,hs,hi=>by
  have hd:f.depth+1<=n+1:=hd;have hs:f.size+1<=100:=hs;have hl:=q1e hn f;rw[q2d];unfold q2p enc;walk_at "den";rw[q3d ns hn f n (by omega) (by omega) hi];walk_at "den";rw[if_pos (by have h1:("not ":Str).length=4:=rfl;omega)];rfl
 |.and f g,n+1,hd,hs,hi=>by
  have hd:max f.depth g.depth+1<=n+1:=hd;have hs:f.size+g.size+1<=100:=hs;have:=q1e hn f;have:=q1e hn g;exact x0n n ns rfl (by decide) (by decide) (by decide) (by decide) (by omega) (by omega) (q3d ns hn f n (by omega) (by omega) hi.1) (q3d ns hn g n (by omega) (by omega) hi.2)
 |.or f g,n+1,hd,hs,hi=>by
  have hd:max f.depth g.depth+1<=n+1:=hd;have hs:f.size+g.size+1<=100:=hs;have:=q1e hn f;have:=q1e hn g;exact x0n n ns rfl (by decide) (by decide) (by decide) (by decide) (by omega) (by omega) (q3d ns hn f n (by omega) (by omega) hi.1) (q3d ns hn g n (by omega) (by omega) hi.2)
 |.odd f g,n+1,hd,hs,hi=>by
  have hd:max f.depth g.depth+1<=n+1:=hd;have hs:f.size+g.size+1<=100:=hs;have:=q1e hn f;have:=q1e hn g;exact x0n n ns rfl (by decide) (by decide) (by decide) (by decide) (by omega) (by omega) (q3d ns hn f n (by omega) (by omega) hi.1) (q3d ns hn g n (by omega) (by omega) hi.2)
 |f,0,hd,_,_=>absurd (w0v f.depth_pos hd) (by omega)
def Fo(cs:List Nat)(ts:List (List Nat)):Prop:=∀out,tfin (cs.foldl tstep (out,[]))=out++ts/\∀c,isL c=false->tstep (cs.foldl tstep (out,[])) c=tstep (out++ts,[]) c
theorem Fo.word{w:List Nat}(hw:w≠[])(hl:∀c∈w,isL c=true):Fo w [w]:=fun out=>by
 rw[q78 w out [] hl,w1p];refine⟨by simp[tfin,fl,hw],fun c hc=>?_⟩
 rw[q6k hc,q6k hc];simp[fl,hw]
theorem Fo.not{x:List Nat}{ts:List (List Nat)}(h:Fo x ts):Fo ([110,111,116,32]++x) ([110,111,116]::ts):=fun out=>by
 obtain⟨h1,h2⟩:=h (out++[[110,111,116]]);rw[w1e,show[110,111,116,32].foldl tstep (out,[])=(out++[[110,111,116]],[]) by simp[tstep,isL,fl]];refine⟨by rw[h1];simp,fun c hc=>?_⟩
 rw[h2 c hc];simp
theorem Fo.bin{x y:List Nat}{ts us:List (List Nat)}(hx:Fo x ts)(hy:Fo y us)(hw:w≠[])(hl:∀c∈w,isL c=true):Fo (40::(x++(32::(w++(32::(y++[41])))))) ([40]::((ts++w::us)++[[41]])):=fun out=>by
 have e:(40::(x++(32::(w++(32::(y++[41])))))).foldl tstep (out,[])=(out++[40]::((ts++w::us)++[[41]]),[]):=by
  rw[w0s,w1e,w0s,w1e,w0s,w1e,show tstep (out,[]) 40=(out++[[40]],[]) by simp[tstep,isL,fl],(hx _).2 32 rfl,show tstep (out++[[40]]++ts,[]) 32=(out++[[40]]++ts,[]) by simp[tstep,isL,fl],((Fo.word hw hl) _).2 32 rfl,show ∀o,tstep (o,[]) 32=(o,[])from fun o=>by simp[tstep,isL,fl],w0s,(hy _).2 41 rfl]
  simp[tstep,isL,fl]
 rw[e];exact⟨by simp[tfin,fl],fun _ _=>rfl⟩
theorem q9r(w x y:Str):chs (binT w x y)=40::(chs x++(32::(chs w++(32::(chs y++[41]))))):=by
 unfold binT;simp only[q7m,w0l];rfl
def ToldF(ns:List Str)(f:Fm):Prop:=∃ts d,(∀l,l<=3->Tk ns l f (ts.map tx) d)/\d<f.depth/\Fo (chs (txF ns f)) ts
theorem x0o{h:Fm}{w:List Nat}(hw:w≠[])(hl:∀c∈w,isL c=true)(hb:txF ns h=binT (tx w) (txF ns f) (txF ns g))(hd:h.depth=max f.depth g.depth+1)(tf:ToldF ns f)(tg:ToldF ns g)
  (mk:∀{ts us:List Str}{d e:Nat},(∀l,l<=3->Tk ns l f ts d)->(∀l,l<=3->Tk ns l g us e)->Tk ns 0 h (ts++tx w::us) (max d e)):ToldF ns h:=by
 obtain⟨ts,d,h1,h2,h3⟩:=tf;obtain⟨us,e,k1,k2,k3⟩:=tg;refine⟨[40]::((ts++w::us)++[[41]]),max d e+1,fun l hl=>?_,by omega,?_⟩
 ·rw[w0g,w0i,w0i];exact Tk.par (mk h1 k1)
 ·rw[hb,q9r];rw[show chs (tx w)=w from q07 w];exact h3.bin k3 hw hl
theorem q6b(hx:∀x∈ns,okN x=true):∀f:Fm,f.inb ns.length->ToldF ns f
 |.is true,_=>⟨[ynC true],0,fun l _=>.yn true,w4s,Fo.word (w:=ynC true) (by decide) (by decide)⟩
 |.is false,_=>⟨[ynC false],0,fun l _=>.yn false,w4s,Fo.word (w:=ynC false) (by decide) (by decide)⟩
 |.at p,hi=>by
  have hp:p<ns.length:=hi;have e:ns.getD p ""∈ns:=by rw[w0k,w0a hp];exact w1l hp
  obtain⟨_,h2,_,h4⟩:=q1j (hx _ e);refine⟨[chs (ns.getD p "")],0,fun l _=>?_,w4s,Fo.word (fun z=>?_) h4⟩
  ·rw[w0g,show tx (chs (ns.getD p ""))=ns.getD p "" from q2e _];exact .plc hp
  ·have:(ns.getD p "").cps.toList.length=0:=congrArg List.length z;rw[w1q]at this;have h2:1<=(ns.getD p "").cps.size:=h2;omega
 |.not f,hi=>by
  obtain⟨ts,d,h1,h2,h3⟩:=q6b hx f hi;refine⟨[110,111,116]::ts,d,fun l hl=>Tk.not hl (h1 3 (w0b _)),w1n h2,?_⟩
  show Fo (chs (("not ":Str)++txF ns f)) _;rw[q7m];exact h3.not
 |.and f g,hi=>x0o (w:=[97,110,100]) (by decide) (by decide) rfl rfl (q6b hx f hi.1) (q6b hx g hi.2) fun h k=>Tk.and (by omega) (h 2 (by omega)) (k 3 (by omega))
 |.or f g,hi=>x0o (w:=[111,114]) (by decide) (by decide) rfl rfl (q6b hx f hi.1) (q6b hx g hi.2) fun h k=>Tk.or (by omega) (h 0 (by omega)) (k 1 (by omega))
 |.odd f g,hi=>x0o (w:=[111,100,100]) (by decide) (by decide) rfl rfl (q6b hx f hi.1) (q6b hx g hi.2) fun h k=>Tk.odd (by omega) (h 1 (by omega)) (k 2 (by omega))
def abcC:List Nat:=[97,98,99,100,101,102,103,104,105,106,107,108,109,110,111,112,113,114,115,116,117,118,119,120,121,122]
def ltr(j:Int):Nat:=97+(j%26).toNat
theorem x8l(j:Int):isL (ltr j)=true:=by
 have h1:=w1j j (show(26:Int)≠0 by decide);have h2:=w1b j (show(0:Int)<26 by decide);unfold isL ltr;rw[w0p,decide_eq_true_iff,decide_eq_true_iff];omega
theorem y1r(j:Int):ixW (.str "abcdefghijklmnopqrstuvwxyz") (.int (j%26))=some (.str (tx [ltr j])):=by
 have h1:=w1j j (show(26:Int)≠0 by decide);have h2:=w1b j (show(0:Int)<26 by decide);obtain⟨k,hk⟩:∃k:Nat,j%26=(k:Int):=⟨(j%26).toNat,by omega⟩;unfold ltr;rw[hk,w2f];refine(ixB (cs:=abcC) (by decide) ?_);have hk2:k<26:=by omega
 rw[show abcC=(List.range 26).map (97+·)from rfl,w1v,w3w hk2];rfl
theorem y9i(j:Int):∃s:Nat,s<=7/\atI [W.int 0,.int 1,.int 2,.int 0,.int 5,.int 7,.int 3,.int 0] (j%8)=some (.int (s:Int)):=by
 have h1:=w1j j (show(8:Int)≠0 by decide);have h2:=w1b j (show(0:Int)<8 by decide);generalize j%8=k at h1 h2;obtain rfl|rfl|rfl|rfl|rfl|rfl|rfl|rfl:k=0\/k=1\/k=2\/k=3\/k=4\/k=5\/k=6\/k=7:=by omega
 ·exact⟨0,by omega,rfl⟩
 ·exact⟨1,by omega,rfl⟩
 ·exact⟨2,by omega,rfl⟩
 ·exact⟨0,by omega,rfl⟩
 ·exact⟨5,by omega,rfl⟩
 ·exact⟨7,by omega,rfl⟩
 ·exact⟨3,by omega,rfl⟩
 ·exact⟨0,by omega,rfl⟩
theorem x7e{d:Den W}{pe:List S}:∀ws:List W,(∀w∈ws,∃j e',d (.fr w::pe)=.ok (.str (tx [ltr j])) e')->∃cs:List Nat,cs.length=ws.length/\(∀c∈cs,isL c=true)/\compD dYes d pe ws=some (cs.map fun c=>.str (tx [c]))
 |[],_=>⟨[],rfl,(fun _ h=>nomatch h),rfl⟩
 |w::ws,h=>by
  obtain⟨j,e',h1⟩:=h w w0f;obtain⟨cs,h2,h3,h4⟩:=x7e ws fun x hx=>h x (w0c _ hx)
  refine⟨ltr j::cs,by simp[h2],fun c hc=>?_,?_⟩
  ·rcases w0d.mp hc with rfl|hc
   ·exact x8l j
   ·exact h3 c hc
  ·rw[q8q,h4];simp only[x9w,h1];rfl
theorem y9j(n:Nat)(c k:Int)(w:W)(hw:∃j:Int,w=.int j):∃j e',q2s K a (run K a (n+1)) [.fr w,.fr (.int c),.fr (.str "abcdefghijklmnopqrstuvwxyz"),.fr (.int k)]=.ok (.str (tx [ltr j])) e':=by
 obtain⟨j,rfl⟩:=hw;unfold q2s;walk_at "den";obtain⟨v,hv⟩:=q62 (K:=K) (a:=a) n c (9*k+j);rw[hv];walk_at "den";rw[y1r v];walk_at "den";exact⟨v,_,rfl⟩
def nineW:List Str:=["yes", "no", "not", "and", "odd", "or", "in", "held", "out"]
def Nm(c:Int)(k:Nat)(x:Str):Prop:=okN x=true/\x∉rowW/\(if c%3=2 then ∃t,chs x=ltr (c / 3+7*(k:Int))::t else ∃i j,chs x=List.replicate i 113++ltr (c / 3+7*(k:Int))::List.replicate j 113)
theorem y1s(h1:1<=cs.length)(h2:cs.length<=8)(h3:∀c∈cs,isL c=true)(h4:tx cs∉nineW):okN (tx cs)=true/\tx cs∉rowW:=by
 have hs:six (tx cs)=false:=by
  unfold six;exact decide_eq_false fun h=>h4 ((by decide:∀y∈(["yes", "no", "not", "and", "odd", "or"]:List Str),y∈nineW) _ h)
 refine⟨?_,fun h=>h4 ((by decide:∀y∈rowW,y∈nineW) _ h)⟩
 unfold okN;rw[hs,q0t,q07];simp[h1,h2];exact h3
theorem z31(h:y∈nineW):y++"x"∉nineW/\(y++"x").length<=8/\∀c∈chs (y++"x"),isL c=true:=by
 simp only[nineW,w0d,w0o,or_false]at h;rcases h with rfl|rfl|rfl|rfl|rfl|rfl|rfl|rfl|rfl<;>decide
theorem z32(h:tx cs∈nineW):113∉cs/\2<=cs.length:=by
 have:∀y∈nineW,113∉chs y/\2<=(chs y).length:=by decide
 have:=this _ h
 rwa [show chs (tx cs)=cs from q07 cs]at this
theorem x7f(r:Nat->List W->FR)(c:Int)(w1 w2:W)(acc:List W)(k:Nat)(ha:acc.length<=100)(z5 z6 z7 z9:S)(h1:1<=cs.length)(h2:cs.length<=8)(h3:∀c∈cs,isL c=true)(h4:if c%3=2 then ∃t,cs=ltr (c / 3+7*(k:Int))::t else ∃i j,cs=List.replicate i 113++ltr (c / 3+7*(k:Int))::List.replicate j 113):∃x t8,Nm c k x/\nmE K a r [.fr (.int c),.fr w1,.fr w2,.own none acc,.fr (.int k),z5,z6,z7,.fr (.str (tx cs)),z9]=.nx [.fr (.int c),.fr w1,.fr w2,.own none (acc++[.str x]),.fr (.int k),z5,z6,z7,t8,z9]:=by
 unfold nmE;walk_at "den";rw[show inW (.str (tx cs)) (.tup [.str "yes", .str "no", .str "not", .str "and", .str "odd", .str "or", .str "in", .str "held", .str "out"])=some (.bl (decide (tx cs∈nineW)))from x1i nineW];walk_at "den"
 by_cases h:tx cs∈nineW
 ·obtain⟨g1,g2,g3⟩:=z31 h;obtain⟨q1,q2⟩:=z32 h;have hx:("x":Str).length=1:=rfl;rw[if_pos h,q0t,if_pos (by omega)];walk_at "den";rw[if_pos (by omega)];have e:tx cs++"x"=tx (cs++[120]):=q2i cs [120];rw[e]at g1 g2 g3 |-
  rw[show chs (tx (cs++[120]))=cs++[120]from q07 _]at g3;rw[q0t]at g2;obtain⟨o1,o2⟩:=y1s (by simp) g2 g3 g1;refine⟨_,_,⟨o1,o2,?_⟩,rfl⟩;rw[show chs (tx (cs++[120]))=cs++[120]from q07 _];split at h4
  ·rename_i hc;rw[if_pos hc];obtain⟨t,rfl⟩:=h4;exact⟨t++[120],rfl⟩
  ·obtain⟨i,j,rfl⟩:=h4;exfalso;cases i with
   |succ i=>exact q1 (by simp[w4y])
   |zero=>cases j with
    |succ j=>exact q1 (by simp[w4y])
    |zero=>simp at q2
 ·rw[if_neg h];walk_at "den";rw[if_pos (by omega)];obtain⟨o1,o2⟩:=y1s h1 h2 h3 h;refine⟨_,_,⟨o1,o2,?_⟩,rfl⟩;rw[show chs (tx cs)=cs from q07 _];exact h4
theorem x5q:∀cs:List Nat,joinC [] (cs.map fun c=>[c])=cs
 |[]=>rfl
 |[c]=>rfl
 |c::d::cs=>by
  show[c]++([]++joinC [] ((d::cs).map fun c=>[c]))=_
  rw[x5q (d::cs)];rfl
theorem joinE(cs:List Nat)(h:cs.length<=1000):joinW (.str "") [.lst (cs.map fun c=>.str (tx [c]))]=some (.str (tx cs)):=by
 have e:=x5n (z:=[]) (l:=cs.map fun c=>[c]) (by
  rw[w1a,show List.length ∘ (fun c:Nat=>[c])=fun _=>1 from rfl,List.map_const']
  simp;omega)
 rw[x5q,w1a]at e;exact e
theorem x7g(n:Nat)(c:Int)(w1:W)(acc:List W)(k s:Nat)(hs:s<=7)(ha:acc.length<=100)(z7 z8 z9:S):∃x t7 t8 t9,Nm c k x/\nmS K a (run K a (n+1)) [.fr (.int c),.fr w1,.fr (.str "abcdefghijklmnopqrstuvwxyz"),.own none acc,.fr (.int k),.fr (.str (tx [ltr (c / 3+7*(k:Int))])),.fr (.int s),z7,z8,z9]=.nx [.fr (.int c),.fr w1,.fr (.str "abcdefghijklmnopqrstuvwxyz"),.own none (acc++[.str x]),.fr (.int k),.fr (.str (tx [ltr (c / 3+7*(k:Int))])),.fr (.int s),t7,t8,t9]:=by
 unfold nmS;walk_at "den";have t1:=w1j (c / 624) (show((s:Int)+1)≠0 by omega);have t2:=w1b (c / 624) (show(0:Int)<(s:Int)+1 by omega);rw[if_pos (by omega)];generalize c / 624%((s:Int)+1)=t at t1 t2;obtain⟨t,rfl⟩:∃m:Nat,t=(m:Int):=⟨t.toNat,by omega⟩;rw[reps 113 "q" rfl t (by omega)];walk_at "den";rw[q0t,q0t,q2i,if_pos (by simp;omega)];walk_at "den";rw[show((s:Int)-(t:Int))=((s-t:Nat):Int) by omega,reps 113 "q" rfl (s-t) (by omega)];walk_at "den";rw[q0t,q0t,q2i,if_pos (by simp;omega)];walk_at "den"
 by_cases hc:c%3=2
 ·simp only[hc];walk_at "den";rw[if_pos (q3o (by omega) (by omega))];walk_at "den";rw[if_pos (by rw[q4w];omega)];simp only[frz1,pj1,w1r,w1y]
  obtain⟨cs,g1,g2,g3⟩:=x7e (d:=q2s K a (run K a (n+1))) (pe:=[.fr (.int c),.fr (.str "abcdefghijklmnopqrstuvwxyz"),.fr (.int k)]) (rangeW 0 s) fun w hw=>y9j n c k w (by
   obtain⟨j,_,rfl⟩:=w0y.mp hw;exact⟨_,rfl⟩)
  rw[q4w]at g1;rw[g3];walk_at "den";rw[joinE cs (by omega)];walk_at "den";rw[q0t,q0t,q2i,if_pos (by simp;omega)];walk_at "den"
  obtain⟨x,t8,q1,q2⟩:=x7f (K:=K) (a:=a) (run K a (n+1)) c w1 (.str "abcdefghijklmnopqrstuvwxyz") acc k ha (.fr (.str (tx [ltr (c / 3+7*(k:Int))]))) (.fr (.int s)) (.fr (.int t)) (.fr (.lst (cs.map fun c=>.str (tx [c])))) (cs:=[ltr (c / 3+7*(k:Int))]++cs) (by simp) (by simp;omega) (fun c hc=>by
   rcases w0d.mp hc with rfl|hc
   ·exact x8l _
   ·exact g2 c hc) (by rw[if_pos hc];exact⟨cs,rfl⟩)
  exact⟨x,_,t8,_,q1,q2⟩
 ·simp only[hc];walk_at "den"
  obtain⟨x,t8,q1,q2⟩:=x7f (K:=K) (a:=a) (run K a (n+1)) c w1 (.str "abcdefghijklmnopqrstuvwxyz") acc k ha (.fr (.str (tx [ltr (c / 3+7*(k:Int))]))) (.fr (.int s)) (.fr (.int t)) z9 (cs:=List.replicate t 113++[ltr (c / 3+7*(k:Int))]++List.replicate (s-t) 113) (by simp;omega) (by simp;omega) (fun c hc=>by
   simp only[w0z,w5c,w1g]at hc;rcases hc with(⟨_,rfl⟩|rfl)|⟨_,rfl⟩
   ·rfl
   ·exact x8l _
   ·rfl) (by rw[if_neg hc];exact⟨t,s-t,by simp⟩)
  exact⟨x,_,t8,_,q1,q2⟩
theorem y1t(n:Nat)(c:Int)(w1:W)(acc:List W)(k:Nat)(ha:acc.length<=100)(z5 z6 z7 z8 z9:S):∃x t5 t6 t7 t8 t9,Nm c k x/\q2t K a (run K a (n+1)) [.fr (.int c),.fr w1,.fr (.str "abcdefghijklmnopqrstuvwxyz"),.own none acc,.fr (.int k),z5,z6,z7,z8,z9]=.nx [.fr (.int c),.fr w1,.fr (.str "abcdefghijklmnopqrstuvwxyz"),.own none (acc++[.str x]),.fr (.int k),t5,t6,t7,t8,t9]:=by
 obtain⟨s,hs,e6⟩:=y9i (c / 78);obtain⟨v,hv⟩:=q62 (K:=K) (a:=a) n c k;unfold q2t;walk_at "den";rw[y1r];walk_at "den";rw[e6];walk_at "den"
 by_cases hc:c%3=0
 ·have t1:=w1j v (show(8:Int)≠0 by omega);have t2:=w1b v (show(0:Int)<8 by omega);simp only[hc];walk_at "den";rw[hv];walk_at "den";generalize v%8=m at t1 t2;obtain⟨m,rfl⟩:∃j:Nat,m=(j:Int):=⟨m.toNat,by omega⟩;obtain⟨x,t7,t8,t9,q1,q2⟩:=x7g (K:=K) (a:=a) n c w1 acc k m (by omega) ha z7 z8 z9;exact⟨x,_,_,t7,t8,t9,q1,q2⟩
 ·simp only[hc];walk_at "den";obtain⟨x,t7,t8,t9,q1,q2⟩:=x7g (K:=K) (a:=a) n c w1 acc k s hs ha z7 z8 z9;exact⟨x,_,_,t7,t8,t9,q1,q2⟩
theorem z33{q:Int}{j:Nat}(h:i<j)(hj:j<26):ltr (q+7*(i:Int))≠ltr (q+7*(j:Int)):=by
 unfold ltr;omega
theorem Nm.ne{c:Int}{j:Nat}(hx:Nm c i x)(hy:Nm c j y)(h:i<j)(hj:j<26):x≠y:=fun e=>by
 subst e;have hl:=z33 (q:=c / 3) h hj;obtain⟨_,_,h1⟩:=hx;obtain⟨_,_,h2⟩:=hy;split at h1
 ·rename_i hc;rw[if_pos hc]at h2;obtain⟨t,e1⟩:=h1;obtain⟨u,e2⟩:=h2;rw[e1]at e2;exact hl (List.cons.inj e2).1
 ·rename_i hc;rw[if_neg hc]at h2;obtain⟨p,q,e1⟩:=h1;obtain⟨r,s,e2⟩:=h2;rw[e1]at e2;have m1:ltr (c / 3+7*(i:Int))∈List.replicate r 113++ltr (c / 3+7*(j:Int))::List.replicate s 113:=by rw[<- e2];simp
  have m2:ltr (c / 3+7*(j:Int))∈List.replicate p 113++ltr (c / 3+7*(i:Int))::List.replicate q 113:=by rw[e2];simp
  simp only[w0z,w0d,w5c]at m1 m2
  grind
theorem y4u(n:Nat)(c:Int)(m:Nat)(hm:m<=20):∃xs:List Str,xs.length=m/\xs.Nodup/\(∀x∈xs,okN x=true/\x∉rowW)/\run K a (n+2) q2f [.int c,.int m]=.ok (.own none (xs.map .str)):=by
 rw[q4e];unfold q3m;walk_at "den";rw[if_pos (q3o (by omega) (by omega))];walk_at "den"
 obtain⟨e',h1,xs,z4,z5,z6,z7,z8,z9,rfl,hl,hx⟩:=q25 (lo:=0) (hi:=(m:Int)) (b:=q2t K a (run K a (n+1))) (i:=4) m (by omega) (fun k e=>∃(xs:List Str)(z4 z5 z6 z7 z8 z9:S),e=[.fr (.int c),.fr (.int m),.fr (.str "abcdefghijklmnopqrstuvwxyz"),.own none (xs.map .str),z4,z5,z6,z7,z8,z9]/\xs.length=k/\∀(i:Nat)(x:Str),xs[i]?=some x->Nm c i x) [.fr (.int c),.fr (.int m),.fr (.str "abcdefghijklmnopqrstuvwxyz"),.own none [],.no,.no,.no,.no,.no,.no] ⟨[],_,_,_,_,_,_,rfl,rfl,fun _ _ h=>nomatch h⟩ (fun j e hj h=>by
  obtain⟨xs,z4,z5,z6,z7,z8,z9,rfl,hl,hx⟩:=h;obtain⟨x,t5,t6,t7,t8,t9,q1,q2⟩:=y1t (K:=K) (a:=a) n c (.int m) (xs.map .str) j (by simp;omega) z5 z6 z7 z8 z9;refine⟨_,by rw[w2z];exact q2,xs++[x],_,t5,t6,t7,t8,t9,by rw[w0i];rfl,by simp[hl],fun i y hy=>?_⟩
  rcases w3z i xs.length with h|h
  ·rw[w1w h]at hy;exact hx i y hy
  ·rw[w1d h]at hy;cases hk:i-xs.length with
   |zero=>rw[hk]at hy;cases hy;rw[show i=j by omega];exact q1
   |succ _=>rw[hk]at hy;simp at hy)
 rw[h1];walk_at "den";refine⟨xs,hl,?_,fun x h=>?_,rfl⟩
 ·rw[List.nodup_iff_pairwise_ne,List.pairwise_iff_getElem];intro i j hi hj hij;exact Nm.ne (hx i _ (w0a hi)) (hx j _ (w0a hj)) hij (by omega)
 ·obtain⟨i,hi,rfl⟩:=w3s h;have:=hx i _ (w0a hi);exact⟨this.1,this.2.1⟩
theorem y4v(n:Nat)(k:Nat)(s:Int)(m:Nat)(hm:m<=5):∃cs:List Int,cs.length=m/\compD dYes (q16 K a (run K a (n+1))) [.fr (.int k),.fr (.int s)] (rangeW 0 m)=some (cs.map .int):=by
 have:∀ws:List W,(∀w∈ws,∃j:Int,w=.int j)->∃cs:List Int,cs.length=ws.length/\compD dYes (q16 K a (run K a (n+1))) [.fr (.int k),.fr (.int s)] ws=some (cs.map .int):=by
  intro ws
  induction ws with
  |nil=>exact fun _=>⟨[],rfl,rfl⟩
  |cons w ws ih=>
   intro h;obtain⟨j,rfl⟩:=h w w0f;obtain⟨cs,h1,h2⟩:=ih fun x hx=>h x (w0c _ hx)
   obtain⟨v,hv⟩:=q62 (K:=K) (a:=a) n s (11*k+j);refine⟨v::cs,by simp[h1],?_⟩;rw[q8q,h2];unfold q16;walk_at "den";rw[hv];walk_at "den"
 obtain⟨cs,h1,h2⟩:=this (rangeW 0 m) fun w hw=>by obtain⟨j,_,rfl⟩:=w0y.mp hw;exact⟨_,rfl⟩
 exact⟨cs,by rw[h1,q4w];omega,h2⟩
def Fine(m:Nat)(f:Fm):Prop:=f.inb m/\f.depth<=6/\f.size<=12
theorem y9k(n:Nat)(ns:List Int)(cell:Int)(m c o k:Nat)(fs:List Fm)(hl:fs.length<=100)(z8 z9 z10 z11 z12:S):∃f t8 t9 t10,Fine (m+c) f/\q17 K a (run K a (n+2)) [.fr (.lst (ns.map .int)),.fr (.int 5),.fr (.int cell),.fr (.int m),.fr (.int c),.fr (.int o),.own none (fs.map enc),.fr (.int k),z8,z9,z10,z11,z12]=.nx [.fr (.lst (ns.map .int)),.fr (.int 5),.fr (.int cell),.fr (.int m),.fr (.int c),.fr (.int o),.own none ((fs++[f]).map enc),.fr (.int k),t8,t9,t10,z11,z12]:=by
 unfold q17;walk_at "den";rw[q4u (n+1) ns (k:=2+(k:Int)) (by omega)];walk_at "den";generalize ns.getD (2+(k:Int)).toNat 0=sd;obtain⟨v,hv⟩:=q62 (K:=K) (a:=a) (n+1) sd k;rw[hv];walk_at "den";have t1:=w1j v (show(5:Int)≠0 by omega);have t2:=w1b v (show(0:Int)<5 by omega);generalize v%5=q at t1 t2;obtain⟨q,rfl⟩:∃j:Nat,q=(j:Int):=⟨q.toNat,by omega⟩;rw[show(1+(q:Int))=((q+1:Nat):Int) by omega,if_pos (q3o (by omega) (by omega))];walk_at "den";rw[if_pos (by rw[q4w];omega)];simp only[frz1,pj1,w1r,w1y];obtain⟨cs,g1,g2⟩:=y4v (K:=K) (a:=a) (n+1) k sd (q+1) (by omega);rw[g2];walk_at "den";rw[show((m:Int)+(c:Int))=((m+c:Nat):Int) by omega];obtain⟨f,f1,f2,f3,f4⟩:=y02 (K:=K) (a:=a) n cs (m+c) (by omega);rw[f1];walk_at "den";rw[if_pos (by simp;omega)];exact⟨f,_,_,_,⟨f2,by omega,by omega⟩,by rw[w0i];rfl⟩
theorem y4w(n:Nat):rangeW 0 (n:Int)=(List.range n).map fun(i:Nat)=>W.int (i:Int):=by
 unfold rangeW;rw[show((n:Int)-0).toNat=n by omega];refine w1u fun i _=>?_
 rw[w2z]
theorem y9l(r:Nat->List W->FR)(fs:List Fm)(q:Int)(k:Nat)(hk:k<fs.length)(h100:k<100):q3h K a r [.fr (.int (k:Int)),.fr (.lst (fs.map enc)),.fr (.int q)]=.ok (.tup [.bl (decide (q / (k+1:Int)%2=1)),enc fs[k]]) [.fr (.int (k:Int)),.fr (.lst (fs.map enc)),.fr (.int q)]:=by
 unfold q3h;walk_at "den";rw[if_pos ⟨by omega,by omega⟩];walk_at "den";rw[show atI (fs.map enc) (k:Int)=some (enc fs[k])from q5f (by rw[w1v,w0a hk];rfl)];walk_at "den"
def encC(m:Nat)(bs:List Bool)(fs:List Fm):W:=.tup [.int m,.tup (pairW (bs.map .bl) ((fs.take bs.length).map enc)),.tup ((fs.drop bs.length).map enc)]
theorem z34(n:Nat)(ns:List Int)(cell:Int)(m c o:Nat)(hc:c<=4)(ho:o<=6):∃(bs:List Bool)(fs:List Fm),bs.length=c/\fs.length=c+o/\(∀f∈fs,Fine (m+c) f)/\(ciT K a (run K a (n+2)) [.fr (.lst (ns.map .int)),.fr (.int 5),.fr (.int cell),.fr (.int m),.fr (.int c),.fr (.int o),.no,.no,.no,.no,.no,.no,.no]).fn=.ok (.fr (encC m bs fs)):=by
 unfold ciT;walk_at "den";rw[show((c:Int)+(o:Int))=((c+o:Nat):Int) by omega,if_pos (q3o (by omega) (by omega))];walk_at "den"
 obtain⟨e',h1,fs,z7,z8,z9,z10,rfl,hl,hx⟩:=q25 (lo:=0) (hi:=((c+o:Nat):Int)) (b:=q17 K a (run K a (n+2))) (i:=7) (c+o) (by omega) (fun k e=>∃(fs:List Fm)(z7 z8 z9 z10:S),e=[.fr (.lst (ns.map .int)),.fr (.int 5),.fr (.int cell),.fr (.int m),.fr (.int c),.fr (.int o),.own none (fs.map enc),z7,z8,z9,z10,.no,.no]/\fs.length=k/\∀f∈fs,Fine (m+c) f) [.fr (.lst (ns.map .int)),.fr (.int 5),.fr (.int cell),.fr (.int m),.fr (.int c),.fr (.int o),.own none [],.no,.no,.no,.no,.no,.no] ⟨[],_,_,_,_,rfl,rfl,fun _ h=>nomatch h⟩ (fun j e hj h=>by
  obtain⟨fs,z7,z8,z9,z10,rfl,hl,hx⟩:=h;obtain⟨f,t8,t9,t10,q1,q2⟩:=y9k (K:=K) (a:=a) n ns cell m c o j fs (by omega) z8 z9 z10 .no .no;refine⟨_,by rw[w2z];exact q2,fs++[f],_,t8,t9,t10,rfl,by simp[hl],fun g hg=>?_⟩
  rcases w0z.mp hg with hg|hg
  ·exact hx g hg
  ·rw[w1g.mp hg];exact q1)
 rw[h1];walk_at "den";rw[q4u (n+1) ns (k:=1) (by omega)];walk_at "den";generalize ns.getD 1 0=q;rw[if_pos (q3o (by omega) (by omega))];walk_at "den";rw[if_pos (by rw[q4w];omega),y4w];simp only[frz1,pj1,w1r,w1y];rw[q5v (fun(i:Nat)=>W.int (i:Int)) (fun k=>.tup [.bl (decide (q / (k+1:Int)%2=1)),enc (fs.getD k (.is false))]) (fun _=>true)]
 ·rw[w2l.mpr (fun _ _=>rfl)]
  walk_at "den";rw[q71 (by rw[w0j];omega)];refine⟨(List.range c).map fun(k:Nat)=>decide (q / (k+1:Int)%2=1),fs,by simp,hl,hx,?_⟩
  unfold encC
  have e:(List.range c).map (fun(k:Nat)=>W.tup [.bl (decide (q / (k+1:Int)%2=1)),enc (fs.getD k (.is false))])=pairW (((List.range c).map fun(k:Nat)=>decide (q / (k+1:Int)%2=1)).map .bl) ((fs.take c).map enc):=by
   unfold pairW;apply List.ext_getElem
   ·simp[hl]
   ·intro i h1 h2;have hi:i<c:=by simpa using h1
    have hi2:i<fs.length:=by omega
    simp[List.getElem_zip,List.getD,hi2]
  rw[e,w4g];simp
 ·intro k hk;have hk:=w2n.mp hk;have hk2:k<fs.length:=by omega
  have:=y9l (K:=K) (a:=a) (run K a (n+2)) fs q k hk2 (by omega);rw[show fs[k]=fs.getD k (.is false) by rw[w0k,w0a hk2];rfl]at this;exact⟨_,rfl,fun _=>⟨_,this⟩⟩
theorem y9m(j:Int):∃o:Nat,o<=3/\atI [W.int 1,.int 2,.int 3,.int 0] (j%4)=some (.int (o:Int)):=by
 have h1:=w1j j (show(4:Int)≠0 by decide);have h2:=w1b j (show(0:Int)<4 by decide);generalize j%4=k at h1 h2;obtain rfl|rfl|rfl|rfl:k=0\/k=1\/k=2\/k=3:=by omega
 ·exact⟨1,by omega,rfl⟩
 ·exact⟨2,by omega,rfl⟩
 ·exact⟨3,by omega,rfl⟩
 ·exact⟨0,by omega,rfl⟩
def Circ(K:PySem.W.Frag)(a:Adr)(r:FR):Prop:=∃(m:Nat)(bs:List Bool)(fs:List Fm),m<=3/\m+bs.length<=5/\bs.length<=4/\bs.length<=fs.length/\fs.length<=bs.length+6/\(∀f∈fs,Fine (m+bs.length) f)/\r=.ok (.fr (encC m bs fs))
theorem q9s(n:Nat)(ns:List Int)(cell:Int)(m c:Nat)(hm:m<=3)(hc:c<=4)(h:m+c<=5):Circ K a (ciO K a (run K a (n+2)) [.fr (.lst (ns.map .int)),.fr (.int 5),.fr (.int cell),.fr (.int m),.fr (.int c),.no,.no,.no,.no,.no,.no,.no,.no]).fn:=by
 obtain⟨o,ho,e⟩:=y9m (cell / 12)
 have key:∀o:Nat,o<=6->Circ K a (ciT K a (run K a (n+2)) [.fr (.lst (ns.map .int)),.fr (.int 5),.fr (.int cell),.fr (.int m),.fr (.int c),.fr (.int o),.no,.no,.no,.no,.no,.no,.no]).fn:=fun o ho=>by
  obtain⟨bs,fs,h1,h2,h3,h4⟩:=z34 (K:=K) (a:=a) n ns cell m c o hc ho;subst h1;exact⟨m,bs,fs,hm,h,hc,by omega,by omega,h3,h4⟩
 unfold ciO;walk_at "den";rw[e];walk_at "den"
 by_cases h3:cell / 48%8=3
 ·simp only[h3];walk_at "den";exact key 6 (by omega)
 ·simp only[h3];walk_at "den";exact key o (by omega)
theorem x6b(n:Nat)(ns:List Int):Circ K a (run K a (n+3) q1w [.lst (ns.map .int),.int 5]):=by
 rw[q3j];unfold q2u;walk_at "den";rw[q4u (n+1) ns (k:=0) (by omega)];generalize ns.getD (0:Int).toNat 0=x;have a1:=w1j x (show(3:Int)≠0 by omega);have a2:=w1b x (show(0:Int)<3 by omega);have b1:=w1j (x / 3) (show(4:Int)≠0 by omega);have b2:=w1b (x / 3) (show(0:Int)<4 by omega);obtain⟨m,hm⟩:∃m:Nat,x%3=(m:Int):=⟨(x%3).toNat,by omega⟩;obtain⟨c,hc⟩:∃m:Nat,x / 3%4=(m:Int):=⟨(x / 3%4).toNat,by omega⟩;walk_at "den";rw[hm,hc]
 by_cases h1:x / 48%8=1
 ·rw[if_pos h1]
  by_cases h2:(m:Int)<2
  ·rw[if_pos h2,if_neg (by omega)];exact q9s n ns x m 4 (by omega) (by omega) (by omega)
  ·rw[if_neg h2,if_neg (by omega)];exact q9s n ns x m c (by omega) (by omega) (by omega)
 ·rw[if_neg h1]
  by_cases h2:x / 48%8=2
  ·rw[if_pos h2,show((c:Int)%3)=((c%3:Nat):Int) by omega];exact q9s n ns x 3 (c%3) (by omega) (by omega) (by omega)
  ·rw[if_neg h2];exact q9s n ns x m c (by omega) (by omega) (by omega)
theorem x27{bs:List Bool}{fs:List Fm}(h:bs.length<=fs.length):(pairW (bs.map .bl) ((fs.take bs.length).map enc)).length=bs.length:=by
 unfold pairW;simp;omega
theorem y9n{l:List W}{k j:Nat}(h:k<=j)(hj:j<=l.length):cutW l (some (k:Int)) (some (j:Int))=(l.drop k).take (j-k):=by
 unfold cutW;rw[HT.sIx_nat,HT.sIx_nat,w2h hj,w2h (by omega)]
theorem y1u(n:Nat)(ns:List Int)(m:Nat)(bs:List Bool)(fs:List Fm)(h1:m+bs.length<=5)(h2:bs.length<=fs.length)(h3:fs.length<=bs.length+6):∃xs:List Str,xs.length=m+fs.length/\xs.Nodup/\(∀x∈xs,okN x=true/\x∉rowW)/\run K a (n+3) q20 [.lst (ns.map .int),encC m bs fs]=.ok (.fr (.tup [.tup ((xs.take m).map .str),.tup (((xs.drop m).take bs.length).map .str),.tup ((xs.drop (m+bs.length)).map .str)])):=by
 obtain⟨xs,x1,x2,x3,x4⟩:=y4u (K:=K) (a:=a) n (ns.getD 9 0) (m+fs.length) (by omega);refine⟨xs,x1,x2,x3,?_⟩;rw[q5q];unfold q49 encC;walk_at "den";rw[x27 h2,q4u (n+1) ns (k:=9) (by omega)];walk_at "den";rw[show((m:Int)+(bs.length:Int)+(((fs.drop bs.length).map enc).length:Int))=((m+fs.length:Nat):Int) by simp;omega,x4];walk_at "den";rw[x5h (by simp;omega),show((m:Int)+(bs.length:Int))=((m+bs.length:Nat):Int) by omega,q71 (by simp;omega)];rw[y9n (by omega) (by simp;omega),w3f,<- w3q,<- w4g,<- w4g,<- w3q]
def lineI(xs:List Str):Str:=tx (105::110::xs.flatMap fun x=>32::chs x)
def lineH(x:Str)(b:Bool)(t:Str):Str:=("held ":Str)++x++" "++ynS b++" = "++t
def lineO(x t:Str):Str:=("out ":Str)++x++" = "++t
theorem y4x(r:Nat->List W->FR)(x:Str)(h:x.length<=100):q4c K a r [.fr (.str x)]=.ok (.str (tx (32::chs x))) [.fr (.str x)]:=by
 unfold q4c;walk_at "den";rw[if_pos (by have:(" ":Str).length=1:=rfl;omega)];walk_at "den";rw[show x=tx (chs x)from(q2e x).symm,show(" ":Str)=tx [32]from rfl,q2i,show chs (tx (chs x))=chs x from q07 _];rfl
theorem x1q:∀l:List (List Nat),joinC [] l=l.flatten
 |[]=>rfl
 |[p]=>by simp[joinC]
 |p::q::r=>by
  show p++([]++joinC [] (q::r))=_;rw[x1q (q::r)];simp
def ln1(kn hn:List Str)(bs:List Bool)(fs:List Fm)(k:Nat):Str:=lineH (hn.getD k "") (bs.getD k false) (txF kn (fs.getD k (.is false)))
def ln2(kn on:List Str)(gs:List Fm)(k:Nat):Str:=lineO (on.getD k "") (txF kn (gs.getD k (.is false)))
def linesL(ins hn on:List Str)(bs:List Bool)(fs:List Fm):List Str:=(lineI ins::(List.range bs.length).map (ln1 (ins++hn) hn bs fs))++(List.range (fs.drop bs.length).length).map (ln2 (ins++hn) on (fs.drop bs.length))
theorem x2a{l:List Str}{k:Nat}(h:k<l.length):atI (l.map W.str) (k:Int)=some (.str (l.getD k "")):=by
 rw[x60 h,w0k,w0a h];rfl
theorem z6g(b:Bool):atI [W.str "no", .str "yes"] (if b=true then 1 else 0)=some (.str (ynS b)):=by cases b<;>rfl
theorem z35{l:List Fm}{k:Nat}(h:k<l.length):atI (l.map enc) (k:Int)=some (enc (l.getD k (.is false))):=q5f (by rw[w1v,w0a h,w0k,w0a h];rfl)
theorem y4y(n:Nat)(kn on ls:List Str)(gs:List Fm)(w0 w1 v0 v1:W)(k:Nat)(hk:k<gs.length)(hk2:k<on.length)(hn:∀x∈kn,x.length<=8)(ho:∀x∈on,x.length<=8)(hg:∀f∈gs,Fine kn.length f)(hl:ls.length<=100)(z5 z6:S):∃t6,q4a K a (run K a (n+6)) [.fr (.tup [w0,w1,.tup (on.map .str)]),.fr (.tup [v0,v1,.tup (gs.map enc)]),.fr (.tup (kn.map .str)),.own none (ls.map .str),.fr (.int k),z5,z6]=.nx [.fr (.tup [w0,w1,.tup (on.map .str)]),.fr (.tup [v0,v1,.tup (gs.map enc)]),.fr (.tup (kn.map .str)),.own none ((ls++[ln2 kn on gs k]).map .str),.fr (.int k),z5,t6]:=by
 have hf:Fine kn.length (gs.getD k (.is false)):=by
  rw[w0k,w0a hk];exact hg _ (w1l hk)
 have hx:=x0m ho k;have ht:=q1e hn (gs.getD k (.is false));have hs:=hf.2.2;unfold q4a;walk_at "den";rw[z35 hk];walk_at "den";rw[q3d kn hn _ (n+6) (by have:=hf.2.1;omega) (by omega) hf.1];walk_at "den";rw[x2a hk2];walk_at "den";have c1:("out ":Str).length=4:=rfl;have c2:(" = ":Str).length=3:=rfl;rw[if_pos (by omega)];walk_at "den";rw[if_pos (by simp only[q1q];omega)];walk_at "den";rw[if_pos (by simp only[q1q];omega)];walk_at "den";rw[if_pos (by simp;omega)];exact⟨_,by rw[w0i];rfl⟩
theorem x7h{bs:List Bool}{fs:List Fm}{k:Nat}(h:k<bs.length)(h2:bs.length<=fs.length):atI (pairW (bs.map .bl) ((fs.take bs.length).map enc)) (k:Int)=some (.tup [.bl (bs.getD k false),enc (fs.getD k (.is false))]):=by
 have h3:k<fs.length:=by omega
 refine q5f ?_;unfold pairW;simp[w2w,List.getD,h,h3]
theorem y1v(n:Nat)(kn hn ls:List Str)(bs:List Bool)(fs:List Fm)(w0 w2 v0 v2:W)(k:Nat)(hk:k<bs.length)(hb:bs.length<=fs.length)(hk2:k<hn.length)(hkn:∀x∈kn,x.length<=8)(ho:∀x∈hn,x.length<=8)(hg:∀f∈fs,Fine kn.length f)(hl:ls.length<=100)(z5 z6:S):∃t5 t6,q4b K a (run K a (n+6)) [.fr (.tup [w0,.tup (hn.map .str),w2]),.fr (.tup [v0,.tup (pairW (bs.map .bl) ((fs.take bs.length).map enc)),v2]),.fr (.tup (kn.map .str)),.own none (ls.map .str),.fr (.int k),z5,z6]=.nx [.fr (.tup [w0,.tup (hn.map .str),w2]),.fr (.tup [v0,.tup (pairW (bs.map .bl) ((fs.take bs.length).map enc)),v2]),.fr (.tup (kn.map .str)),.own none ((ls++[ln1 kn hn bs fs k]).map .str),.fr (.int k),t5,t6]:=by
 have hk3:k<fs.length:=by omega
 have hf:Fine kn.length (fs.getD k (.is false)):=by
  rw[w0k,w0a hk3];exact hg _ (w1l hk3)
 have hx:=x0m ho k;have ht:=q1e hkn (fs.getD k (.is false));have hs:=hf.2.2;have hy:(ynS (bs.getD k false)).length<=3:=by cases bs.getD k false<;>decide
 unfold q4b;walk_at "den";rw[x7h hk hb];walk_at "den";rw[z6g];walk_at "den";rw[x7h hk hb];walk_at "den";rw[q3d kn hkn _ (n+6) (by have:=hf.2.1;omega) (by omega) hf.1];walk_at "den";rw[x2a hk2];walk_at "den";have c1:("held ":Str).length=5:=rfl;have c2:(" = ":Str).length=3:=rfl;have c3:(" ":Str).length=1:=rfl;rw[if_pos (by omega)];walk_at "den";rw[if_pos (by simp only[q1q];omega)];walk_at "den";rw[if_pos (by simp only[q1q];omega)];walk_at "den";rw[if_pos (by simp only[q1q];omega)];walk_at "den";rw[if_pos (by simp only[q1q];omega)];walk_at "den";rw[if_pos (by simp;omega)];exact⟨_,_,by rw[w0i];rfl⟩
def nmT(ins hn on:List Str):W:=.tup [.tup (ins.map .str),.tup (hn.map .str),.tup (on.map .str)]
theorem y4z(r:Nat->List W->FR)(xs:List Str)(h:∀x∈xs,x.length<=8):compD dYes (q4c K a r) [] (xs.map .str)=some (xs.map fun x=>.str (tx (32::chs x))):=by
 rw[q5v (cc:=dYes) .str (fun x=>.str (tx (32::chs x))) (fun _=>true) xs fun x hx=>⟨_,rfl,fun _=>⟨_,y4x r x (by have:=h x hx;omega)⟩⟩,w2l.mpr fun _ _=>rfl]
theorem q89{g:α->Nat}{b:Nat}:∀l:List α,(∀x∈l,g x<=b)->(l.map g).sum<=l.length*b
 |[],_=>by simp
 |x::l,h=>by
  have h1:=h x w0f;have:=q89 l fun y hy=>h y (w0c _ hy)
  simp only[w0g,w4e,w0q,Nat.succ_mul];omega
theorem y40(xs:List Str)(h:∀x∈xs,x.length<=8)(hl:xs.length<=100):joinW (.str "") [.lst (xs.map fun x=>.str (tx (32::chs x)))]=some (.str (tx (xs.flatMap fun x=>32::chs x))):=by
 have:=q89 (g:=fun x=>(32::chs x).length) (b:=9) xs fun x hx=>by
  have:(chs x).length=x.length:=w1q;have:=h x hx;rw[w0q];omega
 have:=x5n (z:=[]) (l:=xs.map fun x=>32::chs x) (by rw[w1a,w0j];show(xs.map fun x=>(32::chs x).length).sum+_<=_;simp only[w3e];omega)
 rw[w1a,x1q]at this;exact this
theorem y1w(n m:Nat)(ins hn on:List Str)(bs:List Bool)(fs:List Fm)(e1:hn.length=bs.length)(hb:bs.length<=fs.length)(e2:on.length=fs.length-bs.length)(h5:ins.length<=5)(h6:fs.length<=20)(hx:∀x∈ins++hn,x.length<=8)(ho:∀x∈on,x.length<=8)(hg:∀f∈fs,Fine (ins++hn).length f):run K a (n+7) q3v [nmT ins hn on,encC m bs fs]=.ok (.own none ((linesL ins hn on bs fs).map .str)):=by
 rw[q5r];unfold q5a nmT encC;walk_at "den";rw[if_pos (by simp;omega)];walk_at "den";rw[<- w0i];rw[y4z _ _ fun x h=>hx x (w0x _ h)]
 walk_at "den";rw[y40 _ (fun x h=>hx x (w0x _ h)) (by omega)]
 walk_at "den"
 have c1:(tx (ins.flatMap fun x=>32::chs x)).length<=1000:=by
  show(ins.flatMap fun x=>32::chs x).toArray.size<=_
  have:=q89 (g:=fun x=>(32::chs x).length) (b:=9) ins fun x h=>by
   have:(chs x).length=x.length:=w1q;have:=hx x (w0x _ h);rw[w0q];omega
  simp only[w1z,w4z];omega
 rw[if_pos (by simp;omega),if_pos (by have:("in":Str).length=2:=rfl;omega),x27 hb,if_pos (q3o (by omega) (by omega)),show("in":Str)=tx [105,110]from rfl,q2i];walk_at "den"
 obtain⟨e',g1,z4,z5,z6,rfl⟩:=q25 (lo:=0) (hi:=(bs.length:Int)) (b:=q4b K a (run K a (n+6))) (i:=4) bs.length (by omega) (fun j e=>∃z4 z5 z6:S,e=[.fr (nmT ins hn on),.fr (encC m bs fs),.fr (.tup ((ins++hn).map .str)),.own none ((lineI ins::(List.range j).map (ln1 (ins++hn) hn bs fs)).map .str),z4,z5,z6]) [.fr (nmT ins hn on),.fr (encC m bs fs),.fr (.tup ((ins++hn).map .str)),.own none [.str (lineI ins)],.no,.no,.no] ⟨_,_,_,rfl⟩ (fun j e hj h=>by
  obtain⟨z4,z5,z6,rfl⟩:=h;obtain⟨t5,t6,q⟩:=y1v (K:=K) (a:=a) n (ins++hn) hn (lineI ins::(List.range j).map (ln1 (ins++hn) hn bs fs)) bs fs (.tup (ins.map .str)) (.tup (on.map .str)) (.int m) (.tup ((fs.drop bs.length).map enc)) j hj hb (by omega) hx (fun x h=>hx x (w0e _ h)) hg (by simp;omega) z5 z6
  exact⟨_,by rw[w2z];exact q,_,_,_,by rw[w3x,w0i (f:=ln1 (ins++hn) hn bs fs)];rfl⟩)
 unfold nmT encC lineI at g1;rw[g1];walk_at "den";rw[w0j,if_pos (q3o (by omega) (by rw[w1i];omega))];walk_at "den"
 obtain⟨e',g2,z4,z5,z6,rfl⟩:=q25 (lo:=0) (hi:=((fs.drop bs.length).length:Int)) (b:=q4a K a (run K a (n+6))) (i:=4) (fs.drop bs.length).length (by omega) (fun j e=>∃z4 z5 z6:S,e=[.fr (nmT ins hn on),.fr (encC m bs fs),.fr (.tup ((ins++hn).map .str)),.own none (((lineI ins::(List.range bs.length).map (ln1 (ins++hn) hn bs fs))++(List.range j).map (ln2 (ins++hn) on (fs.drop bs.length))).map .str),z4,z5,z6]) [.fr (nmT ins hn on),.fr (encC m bs fs),.fr (.tup ((ins++hn).map .str)),.own none (.str (lineI ins)::((List.range bs.length).map (ln1 (ins++hn) hn bs fs)).map .str),z4,z5,z6] ⟨z4,z5,z6,by simp⟩ (fun j e hj h=>by
  obtain⟨z4,z5,z6,rfl⟩:=h;obtain⟨t6,q⟩:=y4y (K:=K) (a:=a) n (ins++hn) on ((lineI ins::(List.range bs.length).map (ln1 (ins++hn) hn bs fs))++(List.range j).map (ln2 (ins++hn) on (fs.drop bs.length))) (fs.drop bs.length) (.tup (ins.map .str)) (.tup (hn.map .str)) (.int m) (.tup (pairW (bs.map .bl) ((fs.take bs.length).map enc))) j hj (by rw[w1i]at hj;omega) hx ho (fun f h=>hg f (w3o h)) (by rw[w1i]at hj;simp;omega) z5 z6
  exact⟨_,by rw[w2z];exact q,_,_,_,by rw[w3x,w0i (f:=ln2 (ins++hn) on (fs.drop bs.length)),<- w0l];rfl⟩)
 unfold nmT encC lineI at g2;rw[g2];walk_at "den";rfl
def looP(w:Int):List Str:=if w=1 then["   "]else if w=2 then["", ""]else[]
def looR(w:Int)(l:Str):List Str:=looP w++[wayT w l]
theorem q9a{z:Str}(h:x.length<=10000)(hz:z.length<=3)(hn:(y==z)=false):rplW y z (.str x)=some (.str (Txt.replace x y z)):=by
 unfold rplW;refine if_pos ?_;unfold okRepl;rw[hn];have:(x.length+1)*z.length<=(x.length+1)*3:=w4x _ hz;simp;omega
theorem x8m(n:Nat)(ls rs:List Str)(c:Int)(k:Nat)(hk:k<ls.length)(hl:∀x∈ls,x.length<=2200)(hr:rs.length<=100)(z4 z5:S):∃(w:Int)(t4 t5:S),q4d K a (run K a (n+1)) [.fr (.lst (ls.map .str)),.fr (.int c),.own none (rs.map .str),.fr (.int k),z4,z5]=.nx [.fr (.lst (ls.map .str)),.fr (.int c),.own none ((rs++looR w (ls.getD k "")).map .str),.fr (.int k),t4,t5]:=by
 obtain⟨v,hv⟩:=q62 (K:=K) (a:=a) n c k
 have hx:(ls.getD k "").length<=2200:=by
  rw[w0k,w0a hk];exact hl _ (w1l hk)
 have t1:=w1j v (show(6:Int)≠0 by omega);have t2:=w1b v (show(0:Int)<6 by omega);refine⟨v%6,?_⟩;unfold q4d;walk_at "den";rw[hv];walk_at "den";generalize v%6=w at t1 t2;have at1:=x2a hk;generalize ls.getD k ""=x at hx at1;obtain⟨cs,rfl⟩:∃cs,x=tx cs:=⟨_,(q2e x).symm⟩
 have l5:(Txt.replace (tx cs) "(" " ( ").length<=3*(tx cs).length:=by
  rw[show("(":Str)=⟨#[40]⟩from rfl,show(" ( ":Str)=tx [32,40,32]from rfl,q63 (by simp)];have:=q5u (g:=fun d=>if d=40 then[32,40,32]else[d]) (fun c=>by split<;>simp) cs
  simpa [tx,Str.length]using this
 have l3:(Txt.replace (tx cs) " " "   ").length<=3*(tx cs).length:=by
  rw[show(" ":Str)=⟨#[32]⟩from rfl,show("   ":Str)=tx [32,32,32]from rfl,q63 (by simp)];have:=q5u (g:=fun d=>if d=32 then[32,32,32]else[d]) (fun c=>by split<;>simp) cs
  simpa [tx,Str.length]using this
 obtain rfl|rfl|rfl|rfl|rfl|rfl:w=0\/w=1\/w=2\/w=3\/w=4\/w=5:=by omega
 ·walk_at "den";(try rw[at1]);walk_at "den";rw[if_pos (by simp;omega)];exact⟨_,_,by rw[w0i];rfl⟩
 ·walk_at "den";rw[if_pos (by simp;omega)];walk_at "den";(try rw[at1]);walk_at "den";rw[if_pos (by simp;omega)];exact⟨_,_,by rw[w0i,w0l];rfl⟩
 ·walk_at "den";rw[z3m,if_pos (by simp;omega)];walk_at "den";(try rw[at1]);walk_at "den";rw[q9a (by omega) (by decide) (by decide)];walk_at "den";have c1:("  ":Str).length=2:=rfl;have c2:(" ":Str).length=1:=rfl;rw[if_pos (by omega)];walk_at "den";rw[if_pos (by rw[q1q];omega)];walk_at "den";rw[if_pos (by simp;omega)];exact⟨_,_,by rw[w0i,w0l];rfl⟩
 ·walk_at "den";(try rw[at1]);walk_at "den";rw[q9a (by omega) (by decide) (by decide)];walk_at "den";have c1:("  ":Str).length=2:=rfl;have c2:(" ":Str).length=1:=rfl;rw[if_pos (by omega)];walk_at "den";rw[if_pos (by rw[q1q];omega)];walk_at "den";rw[if_pos (by simp;omega)];exact⟨_,_,by rw[w0i];rfl⟩
 ·walk_at "den";(try rw[at1]);walk_at "den";rw[q9a (by omega) (by decide) (by decide)];walk_at "den";rw[if_pos (by simp;omega)];exact⟨_,_,by rw[w0i];rfl⟩
 ·walk_at "den";(try rw[at1]);walk_at "den";rw[q9a (by omega) (by decide) (by decide)];walk_at "den";rw[q9a (by omega) (by decide) (by decide)];walk_at "den";rw[if_pos (by simp;omega)];exact⟨_,_,by rw[w0i];rfl⟩
def flatR(ws:List Int)(ls:List Str):List Str:=(List.zipWith looR ws ls).flatten
theorem x5r(w:Int)(l:Str):(looR w l).length<=3:=by
 unfold looR looP;split
 ·simp
 ·split<;>simp
theorem y1x(n:Nat)(ls:List Str)(c:Int)(hl:∀x∈ls,x.length<=2200)(hn:ls.length<=20):∃ws:List Int,ws.length=ls.length/\run K a (n+2) q21 [.lst (ls.map .str),.int c]=.ok (.own none ((flatR ws ls).map .str)):=by
 rw[q5s];unfold q5b;walk_at "den";rw[w0j,if_pos (q3o (by omega) (by omega))];walk_at "den"
 obtain⟨e',g1,ws,rs,z3,z4,z5,rfl,q1,q2,q3⟩:=q25 (lo:=0) (hi:=(ls.length:Int)) (b:=q4d K a (run K a (n+1))) (i:=3) ls.length (by omega) (fun j e=>∃(ws:List Int)(rs:List Str)(z3 z4 z5:S),e=[.fr (.lst (ls.map .str)),.fr (.int c),.own none (rs.map .str),z3,z4,z5]/\ws.length=j/\rs=flatR ws (ls.take j)/\rs.length<=3*j) [.fr (.lst (ls.map .str)),.fr (.int c),.own none [],.no,.no,.no] ⟨[],[],_,_,_,rfl,rfl,by simp[flatR],by simp⟩ (fun j e hj h=>by
  obtain⟨ws,rs,z3,z4,z5,rfl,q1,q2,q3⟩:=h;obtain⟨w,t4,t5,q⟩:=x8m (K:=K) (a:=a) n ls rs c j hj hl (by omega) z4 z5;have:=x5r w (ls.getD j "");refine⟨_,by rw[w2z];exact q,ws++[w],rs++looR w (ls.getD j ""),_,t4,t5,rfl,by simp[q1],?_,by rw[w0r];omega⟩;rw[w2i,w0a hj,q2];unfold flatR;rw[List.zipWith_append (by rw[w3m];omega)];simp[List.getD,hj])
 rw[g1];walk_at "den";exact⟨ws,q1,by rw[q2,w2b]⟩
def kq(p:Pt):Pt:=⟨0,p.word,p.names,p.first, "", p.fm⟩
theorem q5w(ps:List Pt)(x:Str):namesOf (ps.map kq) x=namesOf ps x:=by
 induction ps with
 |nil=>rfl
 |cons p ps ih=>rw[w0g,q31,q31,ih];rfl
theorem x5s(ps:List Pt):taken (ps.map kq)=taken ps:=by unfold taken;rw[q5w,q5w,q5w]
theorem y9o(ps:List Pt):lastW (ps.map kq)=lastW ps:=by
 unfold lastW;rw[List.getLast?_map];cases ps.getLast?<;>rfl
theorem Stand.of_kq{ps:List Pt}{p:Pt}(h:Stand (ps.map kq) (kq p)):Stand ps p:=
 ⟨h.word,by rw[<- y9o];exact h.last,by rw[<- q5w];exact h.most,h.ok,by rw[<- x5s];exact h.nd,by rw[<- x5s];exact h.len⟩
theorem y41(ps:List Pt):sheetW (ps.map kq)=sheetW ps:=by
 have e1:formsW (ps.map kq)=formsW ps:=by unfold formsW;rw[List.filter_map,w1a];rfl
 have e2:firstsW (ps.map kq)=firstsW ps:=by unfold firstsW;rw[List.filter_map,w1a];rfl
 unfold sheetW namesT;simp only[e1,e2,q5w]
def LineOk(K:PySem.W.Frag)(a:Adr)(kn:List Str)(l:Str)(q:Pt):Prop:=∀(w:Int)(k:Nat),∃cs p,wayT w l=tx cs/\wds cs≠[]/\10∉cs/\cs.length<=2200/\(∀n,run K a (n+2) q00 [.str (tx cs),.int k]=.ok (.dw .str pk (pw p)))/\kq p=q/\(p.word≠"in"->FormOk kn p)
theorem x28{w:Int}:∀b∈looP w,wds (chs b)=[]/\10∉chs b/\(chs b).length<=2200:=by
 unfold looP;split
 ·decide
 ·split
  ·decide
  ·simp
theorem x0p{ah:List Pt}{P:List Pt->Prop}(h:∀k,∃ps,Rows K a k ah rs ps/\P ps):∀bl:List (List Nat),(∀b∈bl,wds b=[]/\b.length<=100000)->∀k,∃ps,Rows K a k ah (bl++rs) ps/\P ps
 |[],_,k=>h k
 |b::bl,hb,k=>by
  obtain⟨ps,h1,h2⟩:=x0p h bl (fun x hx=>hb x (w0c _ hx)) (k+1)
  have:=hb b w0f;exact⟨ps,.blank this.1 this.2 h1,h2⟩
theorem Rows.more{bl:List (List Nat)}(hb:∀b∈bl,wds b=[]/\b.length<=100000){k:Nat}{ah ps:List Pt}(h:Rows K a k ah rs ps):Rows K a k ah (rs++bl) ps:=by
 induction h with
 | @nil k ah=>
  obtain⟨ps,h1,rfl⟩:=x0p (K:=K) (a:=a) (ah:=ah) (rs:=[]) (P:=fun ps=>ps=[]) (fun k=>⟨[],.nil,rfl⟩) bl hb k
  rw[w1h]at h1;exact h1
 |blank hw hc _ ih=>exact .blank hw hc ih
 |part hw hc hp hs _ ih=>exact .part hw hc hp hs ih
theorem x7i{qs:List Pt}(hs:∀b q c,qs=b++q::c->Stand b q):∀(rem:List (Str×Pt))(ws:List Int)(ah:List Pt)(k:Nat),qs=ah.map kq++rem.map (·.2)->ws.length=rem.length->(∀pr∈rem,LineOk K a kn pr.1 pr.2)->∃ps,Rows K a k ah ((flatR ws (rem.map (·.1))).map chs) ps/\ps.map kq=rem.map (·.2)/\∀p∈ps,p.word≠"in"->FormOk kn p
 |[],[],ah,k,_,h,_=>⟨[],.nil,rfl,fun _ h=>nomatch h⟩
 |(l,q)::rem,w::ws,ah,k,e,h,ok=>by
  have e0:(flatR (w::ws) (((l,q)::rem).map (·.1))).map chs=(looP w).map chs++(chs (wayT w l)::(flatR ws (rem.map (·.1))).map chs):=by
   show((looP w++[wayT w l])++flatR ws (rem.map (·.1))).map chs=_;simp
  rw[e0];refine x0p (fun k=>?_) _ (fun b hb=>?_) k
  ·obtain⟨cs,p,h1,h2,h3,h4,h5,h6,h7⟩:=ok (l,q) w0f w k;have h6:kq p=q:=h6;obtain⟨ps,g1,g2,g3⟩:=x7i hs rem ws (ah++[p]) (k+1) (by rw[e,w0i,w0l,w0g];show _=_++(kq p::_);rw[h6];rfl) (by simpa using h) fun pr hp=>ok pr (w0c _ hp)
   have h1:wayT w l=tx cs:=h1;rw[h1,show chs (tx cs)=cs from q07 cs];refine⟨p::ps,.part h2 (by omega) h5 (Stand.of_kq ?_) g1,?_,fun x hx=>?_⟩
   ·rw[h6];exact hs _ _ _ e
   ·rw[w0g,g2,h6];rfl
   ·rcases w0d.mp hx with rfl|hx
    ·exact h7
    ·exact g3 x hx
  ·obtain⟨x,hx,rfl⟩:=w0y.mp hb;have:=x28 x hx;exact⟨this.1,by omega⟩
 |[],w::ws,_,_,_,h,_=>nomatch h
 |_::_,[],_,_,_,h,_=>nomatch h
theorem x7j:∀(rem:List (Str×Pt))(ws:List Int),(∀pr∈rem,LineOk K a kn pr.1 pr.2)->(flatR ws (rem.map (·.1))).length<=3*rem.length/\∀r∈flatR ws (rem.map (·.1)),10∉chs r/\(chs r).length<=2200
 |[],[],_=>⟨w1c _,fun _ h=>nomatch h⟩
 |[],w::ws,_=>⟨w1c _,fun _ h=>nomatch h⟩
 |_::_,[],_=>⟨w1c _,fun _ h=>nomatch h⟩
 |(l,q)::rem,w::ws,ok=>by
  obtain⟨h1,h2⟩:=x7j rem ws fun pr hp=>ok pr (w0c _ hp)
  have e0:flatR (w::ws) (((l,q)::rem).map (·.1))=looR w l++flatR ws (rem.map (·.1)):=rfl;rw[e0];have:=x5r w l;refine⟨by rw[w0r,w0q];omega,fun r hr=>?_⟩
  rcases w0z.mp hr with hr|hr
  ·rcases w0z.mp hr with hr|hr
   ·exact(x28 r hr).2
   ·obtain⟨cs,p,h1,_,h3,h4,_⟩:=ok (l,q) w0f w 0;have h1:wayT w l=tx cs:=h1;rw[w1g.mp hr,h1,show chs (tx cs)=cs from q07 cs];exact⟨h3,h4⟩
  ·exact h2 r hr
theorem y1y:∀{cs:List Nat},wds cs=[]->∀c∈cs,c=32
 |[],_,_,h=>nomatch h
 |d::r,h,c,hc=>by
  obtain⟨p,ps,e⟩:=q9o 32 r;unfold wds at h;rw[q40,e]at h
  by_cases hd:d=32
  ·rw[if_pos hd,<- e]at h;rcases w0d.mp hc with rfl|hc
   ·exact hd
   ·exact y1y (cs:=r) (by unfold wds;simpa [neB]using h) c hc
  ·rw[if_neg hd]at h;simp[neB]at h
theorem q68(h:okN x=true)(hc:c∈chs x):97<=c/\c<=122:=by
 have:=(q1j h).2.2.2 c hc
 simpa [isL]using this
theorem x32(h:okN x=true):chs x≠[]/\(chs x).length<=8:=by
 obtain⟨_,h1,h2,_⟩:=q1j h;have e:(chs x).length=x.length:=w1q;exact⟨fun z=>by rw[z]at e;simp at e;omega,by omega⟩
theorem x5t:∀(xs:List Str){p:List Nat},32∉p->(∀x∈xs,okN x=true)->cutC 32 (p++xs.flatMap fun x=>32::chs x)=p::xs.map chs
 |[],p,hp,_=>by rw[List.flatMap_nil,w1h,q67 hp];rfl
 |x::xs,p,hp,h=>by
  rw[w2v,w1f,q5t _ hp,x5t xs (fun hc=>by have:=q68 (h x w0f) hc;omega) fun y hy=>h y (w0c _ hy)]
  rfl
theorem y9p(h:∀x∈ins,okN x=true)(hl:ins.length<=5):LineOk K a kn (lineI ins) ⟨0, "in", ins,.non, "", g⟩:=fun w k=>by
 have mem:∀c∈105::110::(ins.flatMap fun x=>32::chs x),c=32\/97<=c:=fun c hc=>by
  rcases w0d.mp hc with rfl|hc
  ·omega
  ·rcases w0d.mp hc with rfl|hc
   ·omega
   ·obtain⟨x,hx,hc⟩:=List.mem_flatMap.mp hc;rcases w0d.mp hc with rfl|hc
    ·omega
    ·have:=q68 (h x hx) hc;omega
 have len:=q89 (g:=fun x=>(32::chs x).length) (b:=9) ins fun x hx=>by
  have:=(x32 (h x hx)).2;rw[w0q];omega
 have no:∀c,c≠32->c<97->c∉105::110::(ins.flatMap fun x=>32::chs x):=fun c h1 h2 hc=>by have:=mem c hc;omega
 have wd:wds (105::110::(ins.flatMap fun x=>32::chs x))=[105,110]::ins.map chs:=by
  unfold wds;rw[show(105::110::(ins.flatMap fun x=>32::chs x))=[105,110]++(ins.flatMap fun x=>32::chs x)from rfl,x5t ins (by decide) h]
  refine w2l.mpr fun y hy=>?_
  rcases w0d.mp hy with rfl|hy
  ·rfl
  ·obtain⟨x,hx,rfl⟩:=w0y.mp hy;exact decide_eq_true (x32 (h x hx)).1
 obtain⟨cs,e,i,l⟩:=z3v (w:=w) (cs:=105::110::(ins.flatMap fun x=>32::chs x)) ⟨no 61 (by omega) (by omega),no 10 (by omega) (by omega),wd⟩ (no 40 (by omega) (by omega)) (no 41 (by omega) (by omega))
 simp only[w0q,w4z]at l len;have l2:cs.length<=2200:=by omega
 refine⟨cs,_,e,by rw[i.2.2];simp,i.2.1,l2,fun n=>z30 (g:=g) n k (by omega) i,?_,fun z=>absurd rfl z⟩
 show Pt.mk 0 "in" ((ins.map chs).map tx) .non "" g=_;rw[w1a,w1u (f:=tx ∘ chs) (g:=id) fun x _=>q2e x,List.map_id]
theorem q6c(hn:∀x∈ns,okN x=true):∀f:Fm,61∉chs (txF ns f)/\10∉chs (txF ns f)
 |.is true=>by show 61∉chs (ynS true)/\10∉chs (ynS true);decide
 |.is false=>by show 61∉chs (ynS false)/\10∉chs (ynS false);decide
 |.at p=>by
  show 61∉chs (ns.getD p "")/\10∉chs (ns.getD p "");rcases w3z p ns.length with h|h
  ·rw[w0k,w0a h];have:=hn _ (w1l h);exact⟨fun hc=>by have:=q68 this hc;omega,fun hc=>by have:=q68 this hc;omega⟩
  ·rw[w0k,w3k h];decide
 |.not f=>by
  have:=q6c hn f;show 61∉chs (("not ":Str)++txF ns f)/\10∉chs (("not ":Str)++txF ns f);rw[q7m,w0z,w0z,show chs ("not ":Str)=[110,111,116,32]from rfl];simp[this]
 |.and f g=>by
  have h1:=q6c hn f;have h2:=q6c hn g;show 61∉chs (binT "and" _ _)/\10∉chs (binT "and" _ _);rw[q9r,show chs ("and":Str)=[97,110,100]from rfl];simp[h1,h2]
 |.or f g=>by
  have h1:=q6c hn f;have h2:=q6c hn g;show 61∉chs (binT "or" _ _)/\10∉chs (binT "or" _ _);rw[q9r,show chs ("or":Str)=[111,114]from rfl];simp[h1,h2]
 |.odd f g=>by
  have h1:=q6c hn f;have h2:=q6c hn g;show 61∉chs (binT "odd" _ _)/\10∉chs (binT "odd" _ _);rw[q9r,show chs ("odd":Str)=[111,100,100]from rfl];simp[h1,h2]
theorem y1z(hn:∀x∈kn,okN x=true)(hf:Fine kn.length f)(w:Int){ws:List (List Nat)}(hl:∀c∈l,c=32\/97<=c)(hw:wds l=ws)(hlen:l.length<=20):∃l' r,wayT w (tx (l++32::61::32::chs (txF kn f)))=tx (l'++61::r)/\61∉l'/\61∉r/\10∉l'++61::r/\wds l'=ws/\(l'++61::r).length<=2200/\wds (l'++61::r)≠[]/\∀k w ns v,FormOk kn ⟨k,w,ns,v,tx r,f⟩:=by
 obtain⟨ts,d,t1,t2,t3⟩:=q6b hn f hf.1;obtain⟨c1,c2⟩:=q6c hn f;have c3:=q1e (fun x hx=>(q1j (hn x hx)).2.2.1) f
 have c4:(chs (txF kn f)).length=(txF kn f).length:=w1q;have no:∀c,c≠32->c<97->c∉l:=fun c h1 h2 hc=>by have:=hl c hc;omega
 obtain⟨cs,e,⟨l',r,rfl,g1,g2,g3,g4,g5⟩,g6⟩:=z3w (w:=w) (l:=l) (r:=chs (txF kn f)) (no 61 (by omega) (by omega)) c1 (fun h=>(w0z.mp h).elim (no 10 (by omega) (by omega)) c2) (no 40 (by omega) (by omega)) (no 41 (by omega) (by omega)) hw (show toks (chs (txF kn f))=ts from(t3 []).1)
 have:=hf.2.2;have g7:(l'++61::r).length<=2200:=by omega
 refine⟨l',r,e,g1,g2,g3,g4,g7,fun z=>by have:=y1y z 61 (by simp);omega,fun k w ns v=>⟨r,ts.map tx,d,rfl,?_,t1 0 (by omega),?_,by have:=hf.2.1;omega⟩⟩
 ·rw[w0r,w0q]at g7;omega
 ·rw[<- g5];unfold toks;rw[<- y1j,w1a];rfl
theorem x5u{p:List Nat}(h:32∉p)(hp:p≠[]):wds (p++32::r)=p::wds r:=by
 unfold wds;rw[q5t _ h,w4h (p:=neB) (decide_eq_true hp)]
theorem x7k{p:List Nat}(h:32∉p)(hp:p≠[]):wds p=[p]:=by
 unfold wds;rw[q67 h,w4h (p:=neB) (decide_eq_true hp)];rfl
theorem y10(hn:∀x∈kn,okN x=true)(hf:Fine kn.length f)(hx:okN x=true)(b:Bool):LineOk K a kn (lineH x b (txF kn f)) ⟨0, "held", [x],wT (ynC b), "", f⟩:=fun w k=>by
 have h32:32∉chs x:=fun hc=>by have:=q68 hx hc;omega
 have yl:∀c∈ynC b,97<=c:=by cases b<;>decide
 have y32:32∉ynC b:=by cases b<;>decide
 have yn:ynC b≠[]/\(ynC b).length<=3:=by cases b<;>decide
 obtain⟨n1,n2⟩:=x32 hx
 obtain⟨l,r,e,g1,g2,g3,g4,g5,g6,g7⟩:=y1z hn hf w (l:=heldC++32::(chs x++32::ynC b)) (ws:=[heldC,chs x,ynC b]) (fun c hc=>by
  simp only[w0z,w0d]at hc;rcases hc with hc|rfl|hc|rfl|hc
  ·exact .inr ((by decide:∀c∈heldC,97<=c) c hc)
  ·exact .inl rfl
  ·exact .inr (q68 hx hc).1
  ·exact .inl rfl
  ·exact .inr (yl c hc)) (by rw[x5u (by decide) (by decide),x5u h32 n1,x7k y32 yn.1]) (by simp[heldC];omega)
 refine⟨_,_,?_,g6,g3,g5,fun n=>y4q (g:=f) n k (by omega) g1 g2 g4,?_,fun _=>g7 _ _ _ _⟩
 ·rw[<- e];congr 1;unfold lineH;rw[<- q2e (("held ":Str)++x++" "++ynS b++" = "++txF kn f)];congr 1;show chs _=_;simp only[q7m];rw[show chs (ynS b)=ynC b by cases b<;>rfl,show chs ("held ":Str)=heldC++[32]from rfl,show chs (" ":Str)=[32]from rfl,show chs (" = ":Str)=[32,61,32]from rfl];simp
 ·show Pt.mk 0 "held" [tx (chs x)] (wT (ynC b)) "" f=_;rw[show tx (chs x)=x from q2e x]
theorem y42(hn:∀x∈kn,okN x=true)(hf:Fine kn.length f)(hx:okN x=true):LineOk K a kn (lineO x (txF kn f)) ⟨0, "out", [x],.non, "", f⟩:=fun w k=>by
 have h32:32∉chs x:=fun hc=>by have:=q68 hx hc;omega
 obtain⟨n1,n2⟩:=x32 hx
 obtain⟨l,r,e,g1,g2,g3,g4,g5,g6,g7⟩:=y1z hn hf w (l:=outC++32::chs x) (ws:=[outC,chs x]) (fun c hc=>by
  simp only[w0z,w0d]at hc;rcases hc with hc|rfl|hc
  ·exact .inr ((by decide:∀c∈outC,97<=c) c hc)
  ·exact .inl rfl
  ·exact .inr (q68 hx hc).1) (by rw[x5u (by decide) (by decide),x7k h32 n1]) (by simp[outC];omega)
 refine⟨_,_,?_,g6,g3,g5,fun n=>y9d (g:=f) n k (by omega) g1 g2 g4,?_,fun _=>g7 _ _ _ _⟩
 ·rw[<- e];congr 1;unfold lineO;rw[<- q2e (("out ":Str)++x++" = "++txF kn f)];congr 1;show chs _=_;simp only[q7m];rw[show chs ("out ":Str)=outC++[32]from rfl,show chs (" = ":Str)=[32,61,32]from rfl];simp
 ·show Pt.mk 0 "out" [tx (chs x)] .non "" f=_;rw[show tx (chs x)=x from q2e x]
def qI(ins:List Str):Pt:=⟨0, "in", ins,.non, "", .is false⟩
def qH(hn:List Str)(bs:List Bool)(fs:List Fm)(k:Nat):Pt:=⟨0, "held", [hn.getD k ""],wT (ynC (bs.getD k false)), "", fs.getD k (.is false)⟩
def qO(on:List Str)(gs:List Fm)(k:Nat):Pt:=⟨0, "out", [on.getD k ""],.non, "", gs.getD k (.is false)⟩
def qL(ins hn on:List Str)(bs:List Bool)(fs gs:List Fm)(i j:Nat):List Pt:=qI ins::((List.range i).map (qH hn bs fs)++(List.range j).map (qO on gs))
theorem q9t{d:α}:∀{l:List α}{k:Nat},k<=l.length->(List.range k).map (fun i=>l.getD i d)=l.take k:=by
 intro l k h;apply List.ext_getElem
 ·simp;omega
 ·intro i h1 h2;have h1:i<k:=by simpa using h1
  have:i<l.length:=by omega
  simp[List.getD,this]
theorem x6c(ps qs:List Pt)(x:Str):namesOf (ps++qs) x=namesOf ps x++namesOf qs x:=by unfold namesOf;rw[w5d,w3u]
theorem x29{f:Nat->Pt}{g:Nat->Str}{v:Str}(hf:∀k,(f k).word=v/\(f k).names=[g k])(x:Str)(l:List Nat):namesOf (l.map f) x=if v=x then l.map g else[]:=by
 induction l with
 |nil=>simp[namesOf]
 |cons k l ih=>
  rw[w0g,q31,(hf k).1,(hf k).2,ih];split<;>rfl
theorem q8b{bs:List Bool}{fs:List Fm}{j:Nat}(hi:i<=hn.length)(hj:j<=on.length)(x:Str):namesOf (qL ins hn on bs fs gs i j) x=(if "in"=x then ins else[])++((if "held"=x then hn.take i else[])++(if "out"=x then on.take j else[])):=by
 unfold qL;rw[q31,x6c,x29 (f:=qH hn bs fs) (g:=fun k=>hn.getD k "") (v:="held") (fun k=>⟨rfl,rfl⟩) x,x29 (f:=qO on gs) (g:=fun k=>on.getD k "") (v:="out") (fun k=>⟨rfl,rfl⟩) x,q9t hi,q9t hj]
 rfl
theorem x8n{bs:List Bool}{fs:List Fm}{j:Nat}(hi:i<=hn.length)(hj:j<=on.length):namesOf (qL ins hn on bs fs gs i j) "in"=ins:=by rw[q8b hi hj,if_pos rfl,if_neg (by decide),if_neg (by decide),w1h,w1h]
theorem q9u{bs:List Bool}{fs:List Fm}{j:Nat}(hi:i<=hn.length)(hj:j<=on.length):namesOf (qL ins hn on bs fs gs i j) "held"=hn.take i:=by rw[q8b hi hj,if_neg (by decide),if_pos rfl,if_neg (by decide),w1h];rfl
theorem x5v{bs:List Bool}{fs:List Fm}{j:Nat}(hi:i<=hn.length)(hj:j<=on.length):namesOf (qL ins hn on bs fs gs i j) "out"=on.take j:=by rw[q8b hi hj,if_neg (by decide),if_neg (by decide),if_pos rfl];rfl
theorem x33{bs:List Bool}{fs:List Fm}{j:Nat}(hi:i<=hn.length)(hj:j<=on.length):taken (qL ins hn on bs fs gs i j)=ins++(hn.take i++on.take j):=by unfold taken;rw[x8n hi hj,q9u hi hj,x5v hi hj]
theorem x3a(ps:List Pt)(p:Pt):lastW (ps++[p])=p.word:=by unfold lastW;rw[List.getLast?_append];rfl
theorem x7l{bs:List Bool}{fs:List Fm}:lastW (qL ins hn on bs fs gs i 0)∈behind "held":=by
 cases i with
 |zero=>exact w0f
 |succ i=>
  unfold qL;rw[w3x,w0i,List.range_zero,w3y,w1h,<- w1f];show lastW (_++[_])∈_;rw[x3a];exact w0c _ w0f
theorem y43{bs:List Bool}{fs:List Fm}{j:Nat}:lastW (qL ins hn on bs fs gs i j)∈behind "out":=by
 cases j with
 |zero=>exact(by decide:∀x∈behind "held", x∈behind "out") _ x7l
 |succ j=>
  unfold qL;rw[w3x,w0i,<- w0l,<- w1f];show lastW (_++[_])∈_;rw[x3a];exact w0c _ (w0c _ w0f)
theorem x3b{l:List Str}{k:Nat}(h:k<l.length):l.take k++[l.getD k ""]=l.take (k+1):=by
 rw[w2i,w0a h,w0k,w0a h];rfl
theorem q8c{l:List Str}{k:Nat}(h:k<l.length):l.getD k ""∈l:=by
 rw[w0k,w0a h];exact w1l h
theorem stands{bs:List Bool}{fs:List Fm}(h3:ins.length<=3)(h4:hn.length<=4)(h6:on.length<=6)(nd:(ins++(hn++on)).Nodup)(ok:∀x∈ins++(hn++on),okN x=true/\x∉rowW)(b:List Pt)(q:Pt)(d:List Pt)(e:qL ins hn on bs fs gs hn.length on.length=b++q::d):Stand b q:=by
 cases b with
 |nil=>
  obtain⟨rfl,_⟩:=List.cons.inj e;exact⟨(by decide:("in":Str)∈rowW),(by decide:lastW []∈behind "in"),h3,fun x hx=>ok x (w0x _ hx),(w3h.mp nd).1,by decide⟩
 |cons p b=>
  obtain⟨rfl,e1⟩:=List.cons.inj e
  replace e:(List.range hn.length).map (qH hn bs fs)++(List.range on.length).map (qO on gs)=b++q::d:=e1
  have hb:b=((List.range hn.length).map (qH hn bs fs)++(List.range on.length).map (qO on gs)).take b.length:=by rw[e,List.take_left' rfl]
  have hq:((List.range hn.length).map (qH hn bs fs)++(List.range on.length).map (qO on gs))[b.length]?=some q:=by rw[e,w1d (w0b _),Nat.sub_self];rfl
  generalize b.length=i at hb hq;rcases w3z i hn.length with h|h
  ·rw[w1w (by simpa using h),w1v,w3w h]at hq;cases hq;rw[List.take_append_of_le_length (by simp;omega),<- w3q,List.take_range,w2h (by omega)]at hb;have e:qI ins::b=qL ins hn on bs fs gs i 0:=by rw[hb];unfold qL;simp
   rw[e];refine⟨(by decide:("held":Str)∈rowW),x7l,?_,fun x hx=>?_,?_,?_⟩
   ·show(namesOf _ "held"++[hn.getD i ""]).length<=4;rw[q9u (by omega) (by omega)];simp;omega
   ·rw[w1g.mp hx];exact ok _ (w0e _ (w0x _ (q8c h)))
   ·show(_++[hn.getD i ""]).Nodup;rw[x33 (by omega) (by omega),List.take_zero,w1h,w0l,x3b h];exact nd.sublist (.append (.refl _) ((w4c _ _).trans (List.sublist_append_left _ _)))
   ·rw[x33 (by omega) (by omega)];simp;omega
  ·obtain⟨j,rfl⟩:=Nat.exists_eq_add_of_le h;rw[w1d (by simp),w0j,List.length_range,w3f,w1v]at hq;rcases w3z j on.length with hj|hj
   ·rw[w3w hj]at hq;cases hq;rw[List.take_append,w1t (by simp),w0j,List.length_range,w3f,<- w3q,List.take_range,w2h (by omega)]at hb;have e:qI ins::b=qL ins hn on bs fs gs hn.length j:=by rw[hb];rfl
    rw[e];refine⟨(by decide:("out":Str)∈rowW),y43,?_,fun x hx=>?_,?_,?_⟩
    ·show(namesOf _ "out"++[on.getD j ""]).length<=6;rw[x5v (by omega) (by omega)];simp;omega
    ·rw[w1g.mp hx];exact ok _ (w0e _ (w0e _ (q8c hj)))
    ·show(_++[on.getD j ""]).Nodup;rw[x33 (by omega) (by omega),w0l,w0l,x3b hj,w2b];exact nd.sublist (.append (.refl _) (.append (.refl _) (w4c _ _)))
    ·rw[x33 (by omega) (by omega)];simp;omega
   ·rw[w3k (by simpa using hj)]at hq;cases hq
theorem y44{bs:List Bool}{fs:List Fm}(hb:hn.length=bs.length)(hf:bs.length<=fs.length)(ho:on.length=fs.length-bs.length):sheetW (qL ins hn on bs fs (fs.drop bs.length) hn.length on.length)=.tup [nmT ins hn on,encC ins.length bs fs]:=by
 have e1:formsW (qL ins hn on bs fs (fs.drop bs.length) hn.length on.length)=fs.map enc:=by
  unfold formsW qL
  rw[w4i (p:=inB) (a:=qI ins) (show ¬(!decide (("in":Str)="in"))=true by decide),w2l.mpr fun p hp=>by
   rcases w0z.mp hp with hp|hp<;>(obtain⟨k,_,rfl⟩:=w0y.mp hp;rfl)]
  rw[w0i,w1a,w1a];have key:∀(l:List Fm)(k:Nat),k<=l.length->(List.range k).map (fun k=>enc (l.getD k (.is false)))=(l.take k).map enc:=fun l k h=>by rw[<- q9t (d:=Fm.is false) h,w1a];rfl
  refine(congr (congrArg _ (key fs hn.length (by omega))) (key (fs.drop bs.length) on.length (by rw[w1i];omega))).trans ?_;rw[w1t (l:=fs.drop bs.length) (by rw[w1i];omega),<- w0i,hb,w2c]
 have e2:firstsW (qL ins hn on bs fs (fs.drop bs.length) hn.length on.length)=bs.map .bl:=by
  unfold firstsW qL;rw[w4i (p:=heldB) (a:=qI ins) (show ¬decide (("in":Str)="held")=true by decide),w5d,w2l.mpr (fun p hp=>by obtain⟨k,_,rfl⟩:=w0y.mp hp;rfl),List.filter_eq_nil_iff.mpr (fun p hp=>by obtain⟨k,_,rfl⟩:=w0y.mp hp;show ¬decide (("out":Str)="held")=true;decide),w1h,w1a]
  have:(List.range hn.length).map ((fun p:Pt=>W.bl (yesB p.first)) ∘ qH hn bs fs)=((List.range hn.length).map fun k=>bs.getD k false).map .bl:=by
   rw[w1a];refine w1u fun k _=>?_
   show W.bl (yesB (wT (ynC (bs.getD k false))))=.bl (bs.getD k false);cases bs.getD k false<;>rfl
  rw[this,q9t (by omega),hb,w2b]
 unfold sheetW namesT nmT encC;rw[e1,e2];unfold rowW;simp only[w0g,w3y];rw[x8n (w0b _) (w0b _),q9u (w0b _) (w0b _),x5v (w0b _) (w0b _),w2b,w2b,w0j,w3q,w4g]
theorem x3c:∀l:List (List Nat),(joinC [10] l).length<=(l.map List.length).sum+l.length
 |[]=>by simp[joinC]
 |[p]=>by simp[joinC]
 |p::q::r=>by
  have:=x3c (q::r);show(p++([10]++joinC [10] (q::r))).length<=_;simp only[w0r,w0g,w4e,w0q,w3e]at this |-
  omega
theorem y45{ls:List (List Nat)}(hne:ls≠[])(h:∀l∈ls,10∉l)(j:Int):∃t bl,atI [W.str "", .str "\n", .str "\n \n"] (j%3)=some (.str (tx t))/\t.length<=3/\cutC 10 (joinC [10] ls++t)=ls++bl/\∀b∈bl,wds b=[]/\b.length<=100000:=by
 have h1:=w1j j (show(3:Int)≠0 by decide);have h2:=w1b j (show(0:Int)<3 by decide)
 have key:∀t bl,(∀p:List Nat,10∉p->cutC 10 (p++t)=p::bl)->cutC 10 (joinC [10] ls++t)=ls++bl:=fun t bl e=>by
  obtain⟨p,e1,e2⟩:=x5j t hne h;rw[e2,e p (h p (List.mem_of_getLast? e1))];obtain⟨ys,rfl⟩:=List.getLast?_eq_some_iff.mp e1;simp
 generalize j%3=k at h1 h2;obtain rfl|rfl|rfl:k=0\/k=1\/k=2:=by omega
 ·exact⟨[],[],rfl,by decide,key _ _ fun p hp=>by rw[w1h,q67 hp],fun _ h=>nomatch h⟩
 ·exact⟨[10],[[]],rfl,by decide,key _ _ fun p hp=>by rw[q5t _ hp];rfl,by decide⟩
 ·exact⟨[10,32,10],[[32],[]],rfl,by decide,key _ _ fun p hp=>by rw[q5t _ hp];rfl,by decide⟩
def prL(ins hn on:List Str)(bs:List Bool)(fs:List Fm):List (Str×Pt):=(lineI ins,qI ins)::((List.range bs.length).map (fun k=>(ln1 (ins++hn) hn bs fs k,qH hn bs fs k))++(List.range (fs.drop bs.length).length).map fun k=>(ln2 (ins++hn) on (fs.drop bs.length) k,qO on (fs.drop bs.length) k))
theorem x5w{bs:List Bool}{fs:List Fm}(hb:hn.length=bs.length)(hf:bs.length<=fs.length)(ho:on.length=fs.length-bs.length)(h3:ins.length<=5)(ok:∀x∈ins++(hn++on),okN x=true/\x∉rowW)(fine:∀f∈fs,Fine (ins++hn).length f)(pr:Str×Pt)(hp:pr∈prL ins hn on bs fs):LineOk K a (ins++hn) pr.1 pr.2:=by
 have ho2:on.length=(fs.drop bs.length).length:=by rw[w1i];omega
 have kn:∀x∈ins++hn,okN x=true:=fun x hx=>(ok x (by rw[<- w0l];exact w0x _ hx)).1
 have gf:∀(l:List Fm)(k:Nat),k<l.length->(∀f∈l,f∈fs)->Fine (ins++hn).length (l.getD k (.is false)):=fun l k h hl=>by
  rw[w0k,w0a h];exact fine _ (hl _ (w1l h))
 rcases w0d.mp hp with rfl|hp
 ·exact y9p (fun x hx=>(ok x (w0x _ hx)).1) (by omega)
 ·rcases w0z.mp hp with hp|hp
  ·obtain⟨k,hk,rfl⟩:=w0y.mp hp;have hk:=w2n.mp hk;exact y10 kn (gf fs k (by omega) fun _ h=>h) (ok _ (w0e _ (w0x _ (q8c (by omega))))).1 _
  ·obtain⟨k,hk,rfl⟩:=w0y.mp hp;have hk:=w2n.mp hk;exact y42 kn (gf _ k hk fun _ h=>w3o h) (ok _ (w0e _ (w0e _ (q8c (by omega))))).1
theorem x5x{bs:List Bool}{fs:List Fm}:linesL ins hn on bs fs=(prL ins hn on bs fs).map (·.1):=by simp[linesL,prL,Function.comp_def]
theorem y11{bs:List Bool}{fs:List Fm}(hb:hn.length=bs.length)(hf:bs.length<=fs.length)(ho:on.length=fs.length-bs.length)(h3:ins.length<=3)(h4:hn.length<=4)(h6:on.length<=6)(nd:(ins++(hn++on)).Nodup)(ok:∀x∈ins++(hn++on),okN x=true/\x∉rowW)(fine:∀f∈fs,Fine (ins++hn).length f)(ws:List Int)(hw:ws.length=(linesL ins hn on bs fs).length)(j:Int):
  ∃cs t,joinW (.str "\n") [.lst ((flatR ws (linesL ins hn on bs fs)).map .str)]=some (.str (tx cs))/\atI [W.str "", .str "\n", .str "\n \n"] (j%3)=some (.str (tx t))/\(cs++t).length<=100000/\(∀n,run K a (n+5) q2j [.str (tx (cs++t))]=.ok (.fr .non))/\∀n,run K a (n+6) q2y [.str (tx (cs++t))]=.ok (.fr (.tup [nmT ins hn on,encC ins.length bs fs])):=by
 have ho2:on.length=(fs.drop bs.length).length:=by rw[w1i];omega
 have kn:∀x∈ins++hn,okN x=true:=fun x hx=>(ok x (by rw[<- w0l];exact w0x _ hx)).1
 have eQ:qL ins hn on bs fs (fs.drop bs.length) hn.length on.length=(prL ins hn on bs fs).map (·.2):=by
  unfold qL prL;rw[hb,ho2];simp[Function.comp_def]
 have lok:=x5w (K:=K) (a:=a) hb hf ho (by omega) ok fine;have plen:(prL ins hn on bs fs).length<=11:=by unfold prL;simp;omega
 rw[x5x]at hw |-
 rw[w0j]at hw;obtain⟨ps,r1,r2,r3⟩:=x7i (K:=K) (a:=a) (kn:=ins++hn) (stands (bs:=bs) (fs:=fs) (gs:=fs.drop bs.length) h3 h4 h6 nd ok) (prL ins hn on bs fs) ws [] 0 eQ hw lok;obtain⟨f1,f2⟩:=x7j (K:=K) (a:=a) (prL ins hn on bs fs) ws lok
 have fne:flatR ws ((prL ins hn on bs fs).map (·.1))≠[]:=by
  cases ws with
  |nil=>exact absurd hw (by unfold prL;simp)
  |cons w ws=>
   show looR w _++_≠[];unfold looR;simp
 generalize flatR ws ((prL ins hn on bs fs).map (·.1))=rs at r1 f1 f2 fne;obtain⟨t,bl,t1,t2,t3,t4⟩:=y45 (ls:=rs.map chs) (by simpa using fne) (fun l hl=>by obtain⟨r,hr,rfl⟩:=w0y.mp hl;exact(f2 r hr).1) j
 have sm:=q89 (g:=List.length) (b:=2200) (rs.map chs) fun l hl=>by obtain⟨r,hr,rfl⟩:=w0y.mp hl;exact(f2 r hr).2
 have jl:=x3c (rs.map chs);rw[w0j]at sm jl;have len:(joinC [10] (rs.map chs)++t).length<=100000:=by rw[w0r];omega
 have R:=r1.more t4;rw[<- t3]at R;have eP:ps.map kq=qL ins hn on bs fs (fs.drop bs.length) hn.length on.length:=by rw[r2,eQ]
 have nk:∀x,namesOf ps x=namesOf (qL ins hn on bs fs (fs.drop bs.length) hn.length on.length) x:=fun x=>by rw[<- q5w,eP]
 have pl:ps.length=(prL ins hn on bs fs).length:=by have:=congrArg List.length r2;simpa using this
 have sh:Sheet (ins++hn) ps:=⟨fun z=>by rw[z]at pl;unfold prL at pl;simp at pl,by omega,kn,by rw[<- w0l]at nd;exact(w3h.mp nd).1,by simp;omega,fun x=>by
  rw[nk,q8b (w0b _) (w0b _)];simp only[w0r];split<;>split<;>split<;>simp<;>omega,by rw[nk,nk,x8n (w0b _) (w0b _),q9u (w0b _) (w0b _),w2b],r3⟩
 refine⟨joinC [10] (rs.map chs),t,?_,t1,len,fun n=>x5p n len R sh,fun n=>?_⟩
 ·have:=x5n (z:=[10]) (l:=rs.map chs) (by rw[w0j];show _+_*2<=_;omega);rw[w1a,w1u (f:=(fun w=>W.str (tx w)) ∘ chs) (g:=.str) fun x _=>congrArg W.str (q2e x)]at this
  exact this
 ·rw[y4t n len R sh fun p hp hw=>?_,<- y41,eP,y44 hb hf ho]
  have:kq p∈qL ins hn on bs fs (fs.drop bs.length) hn.length on.length:=by rw[<- eP];exact List.mem_map_of_mem hp
  unfold qL at this;rcases w0d.mp this with e|e
  ·have e:=congrArg Pt.word e;rw[show(kq p).word=p.word from rfl,hw]at e;exact absurd e (show("held":Str)≠"in" by decide)
  ·rcases w0z.mp e with e|e
   ·obtain⟨k,_,e⟩:=w0y.mp e;exact⟨_,(congrArg Pt.first e).symm⟩
   ·obtain⟨k,_,e⟩:=w0y.mp e;have e:=congrArg Pt.word e;rw[show(kq p).word=p.word from rfl,hw]at e;exact absurd e (show("out":Str)≠"held" by decide)
def Pl(d:Nat)(w:W):Prop:=eqW w w=some true/\depW w<=d
theorem y12:∀{ws:List W},(∀w∈ws,Pl d w)->eqWs ws ws=some true/\depWs ws<=d
 |[],_=>⟨rfl,w1c _⟩
 |w::ws,h=>by
  obtain⟨h1,h2⟩:=h w w0f;obtain⟨h3,h4⟩:=y12 fun x hx=>h x (w0c w hx)
  refine⟨?_,Nat.max_le.mpr ⟨h2,h4⟩⟩;show(match eqW w w,eqWs ws ws with|some x,some y=>some (x&&y)|_,_=>none)=_;rw[h1,h3];rfl
theorem q7q(h:∀w∈ws,Pl d w):Pl (d+1) (.tup ws):=by
 obtain⟨h1,h2⟩:=y12 h;refine⟨by rw[eqW];exact h1,?_⟩;show depWs ws+1<=_;omega
theorem z36(d:Nat)(x:Str):Pl d (.str x):=⟨by simp[eqW],w1c _⟩
theorem y5r{w:W}(h:Pl d w)(hd:d<=150):ne2 w w=some (.bl false):=by
 unfold ne2;rw[if_pos (w0v h.2 hd),h.1];rfl
theorem z6h(ins hn on:List Str):Pl 2 (nmT ins hn on):=by
 have:∀l:List Str,Pl 1 (.tup (l.map .str)):=fun l=>q7q fun w hw=>by obtain⟨x,_,rfl⟩:=w0y.mp hw;exact z36 0 x
 refine q7q fun w hw=>?_
 simp only[w0d,w0o,or_false]at hw;rcases hw with rfl|rfl|rfl<;>exact this _
theorem y13(h:f.depth<=6):Pl 6 (enc f):=⟨q4z f,w0v (q30 f) h⟩
theorem pl_C{bs:List Bool}{fs:List Fm}(h:∀f∈fs,f.depth<=6):Pl 9 (encC m bs fs):=by
 refine q7q fun w hw=>?_
 simp only[w0d,w0o,or_false]at hw;rcases hw with rfl|rfl|rfl
 ·exact⟨by simp[eqW],w1c _⟩
 ·refine q7q fun w hw=>?_
  unfold pairW at hw;obtain⟨⟨x,y⟩,hp,rfl⟩:=w0y.mp hw;obtain⟨hx,hy⟩:=w3r hp;obtain⟨b,_,rfl⟩:=w0y.mp hx;obtain⟨f,hf,rfl⟩:=w0y.mp hy;refine q7q fun w hw=>?_
  simp only[w0d,w0o,or_false]at hw;rcases hw with rfl|rfl
  ·exact⟨by simp[eqW],w1c _⟩
  ·exact y13 (h f (List.mem_of_mem_take hf))
 ·have:Pl 7 (.tup ((fs.drop bs.length).map enc)):=q7q fun w hw=>by
   obtain⟨f,hf,rfl⟩:=w0y.mp hw;exact y13 (h f (w3o hf))
  exact⟨this.1,by have:=this.2;omega⟩
theorem z37(l:Str):looR 0 l=[l]:=rfl
theorem y14:∀ls:List Str,flatR (List.replicate ls.length 0) ls=ls
 |[]=>rfl
 |l::ls=>by
  show looR 0 l++flatR (List.replicate ls.length 0) ls=_;rw[z37,y14 ls];rfl
theorem y15{ls:List Str}{prs:List (Str×Pt)}(e:ls=prs.map (·.1))(h:∀pr∈prs,LineOk K a kn pr.1 pr.2):∀l∈ls,l.length<=2200:=fun l hl=>by
 rw[e]at hl;obtain⟨pr,hp,rfl⟩:=w0y.mp hl;obtain⟨cs,p,h1,_,_,h4,_⟩:=h pr hp 0 0;have h1:pr.1=tx cs:=h1;rw[h1];exact h4
theorem y46(M:Exs K mg a)(ns:List Int)(hl:ns.length<=63):run K a 151 q9l [.lst (ns.map .int)]=.ok (.fr (.bl true)):=by
 obtain⟨m,bs,fs,hm,h5,hc,hb,ho,hf,e⟩:=x6b (K:=K) (a:=a) 147 ns;obtain⟨xs,x1,x2,x3,x4⟩:=y1u (K:=K) (a:=a) 147 ns m bs fs h5 hb ho
 have ex:xs=xs.take m++((xs.drop m).take bs.length++xs.drop (m+bs.length)):=by
  rw[<- w4w,w2c,w2c]
 have l1:(xs.take m).length=m:=by rw[w3m];omega
 have l2:((xs.drop m).take bs.length).length=bs.length:=by rw[w3m,w1i];omega
 have l3:(xs.drop (m+bs.length)).length=fs.length-bs.length:=by rw[w1i];omega
 generalize xs.take m=ins at ex l1 x4;generalize (xs.drop m).take bs.length=hn at ex l2 x4;generalize xs.drop (m+bs.length)=on at ex l3 x4;subst ex;subst l1;have hx:∀x∈ins++(hn++on),x.length<=8:=fun x hx=>(q1j (x3 x hx).1).2.2.1
 have x4:run K a 150 q20 [.lst (ns.map .int),encC ins.length bs fs]=.ok (.fr (nmT ins hn on)):=x4;have fine:∀f∈fs,Fine (ins++hn).length f:=by rw[w0r,l2];exact hf
 have x5:=y1w (K:=K) (a:=a) 143 ins.length ins hn on bs fs l2 hb l3 (by omega) (by omega) (fun x h=>hx x (by rw[<- w0l];exact w0x _ h)) (fun x h=>hx x (w0e _ (w0e _ h))) fine
 rw[q7k];unfold x30;walk_at "den";rw[e];walk_at "den";rw[x4];walk_at "den";rw[x5];walk_at "den";rw[q4u 149 ns (k:=10) (by omega)];walk_at "den"
 obtain⟨ws,hw,key⟩:∃ws:List Int,ws.length=(linesL ins hn on bs fs).length/\(ns.getD 10 0%2=1/\run K a 150 q21 [.lst ((linesL ins hn on bs fs).map .str),.int (ns.getD 10 0)]=.ok (.own none ((flatR ws (linesL ins hn on bs fs)).map .str))\/¬ns.getD 10 0%2=1/\linesL ins hn on bs fs=flatR ws (linesL ins hn on bs fs)):=by
  by_cases h:ns.getD 10 0%2=1
  ·obtain⟨ws,h1,h2⟩:=y1x (K:=K) (a:=a) 148 (linesL ins hn on bs fs) (ns.getD 10 0) (y15 x5x (x5w (K:=K) (a:=a) l2 hb l3 (by omega) x3 fine)) (by unfold linesL;simp;omega);exact⟨ws,h1,.inl ⟨h,h2⟩⟩
  ·exact⟨_,by simp,.inr ⟨h,(y14 _).symm⟩⟩
 obtain⟨cs,t,g1,g2,g3,g4,g5⟩:=y11 (K:=K) (a:=a) l2 hb l3 hm (by omega) (by omega) x2 x3 fine ws hw (ns.getD 11 0)
 have turn:∀(w3:W)(z5 z6:S),q7j K a (run K a 150) [.fr (.lst (ns.map .int)),.fr (encC ins.length bs fs),.fr (nmT ins hn on),.fr w3,.fr (.str (tx (cs++t))),z5,z6]=.nx [.fr (.lst (ns.map .int)),.fr (encC ins.length bs fs),.fr (nmT ins hn on),.fr w3,.fr (.str (tx (cs++t))),z5,.fr (.tup [nmT ins hn on,encC ins.length bs fs])]:=fun w3 z5 z6=>by
  unfold q7j;walk_at "den";rw[g5 144];walk_at "den";rw[x1z M.t_tuple_tuple];walk_at "den";rw[y5r (z6h ins hn on) (by omega)];walk_at "den";rw[y5r (pl_C fun f h=>(fine f h).2.1) (by omega)]
  walk_at "den";rfl
 have loop:∀w3:W,∃z5,forD 5 (q7j K a (run K a 150)) (rangeW 0 2) [.fr (.lst (ns.map .int)),.fr (encC ins.length bs fs),.fr (nmT ins hn on),.fr w3,.fr (.str (tx (cs++t))),.no,.no]=.nx [.fr (.lst (ns.map .int)),.fr (encC ins.length bs fs),.fr (nmT ins hn on),.fr w3,.fr (.str (tx (cs++t))),z5,.fr (.tup [nmT ins hn on,encC ins.length bs fs])]:=fun w3=>by
  obtain⟨e',h1,z5,z6,rfl,h2⟩:=q25 (lo:=0) (hi:=2) (b:=q7j K a (run K a 150)) (i:=5) 2 (by omega) (fun k e=>∃z5 z6:S,e=[.fr (.lst (ns.map .int)),.fr (encC ins.length bs fs),.fr (nmT ins hn on),.fr w3,.fr (.str (tx (cs++t))),z5,z6]/\(0<k->z6=.fr (.tup [nmT ins hn on,encC ins.length bs fs]))) [.fr (.lst (ns.map .int)),.fr (encC ins.length bs fs),.fr (nmT ins hn on),.fr w3,.fr (.str (tx (cs++t))),.no,.no] ⟨_,_,rfl,fun h=>absurd h (by omega)⟩ (fun j e hj h=>by
   obtain⟨z5,z6,rfl,_⟩:=h;exact⟨_,by rw[w2z];exact turn w3 _ _,_,_,rfl,fun _=>rfl⟩)
  rw[h2 (by omega)]at h1;exact⟨_,h1⟩
 rcases key with⟨h,e3⟩|⟨h,e3⟩
 rw[if_pos h,q4u 149 ns (k:=10) (by omega)];walk_at "den";rw[e3]
 rotate_left
 rw[if_neg h];rw[<- e3]at g1
 all_goals
  walk_at "den";rw[g1];walk_at "den";rw[q4u 149 ns (k:=11) (by omega)];walk_at "den";rw[g2];walk_at "den";rw[if_pos (by rw[w0r]at g3;simp[tx,Str.length];omega),q2i,g4 145];walk_at "den";rw[if_pos (q3o (by omega) (by omega))];walk_at "den"
  first
   |(obtain⟨z5,q⟩:=loop (.lst ((linesL ins hn on bs fs).map .str));rw[q])
   |(obtain⟨z5,q⟩:=loop (.lst ((flatR ws (linesL ins hn on bs fs)).map .str));rw[q])
  unfold nmT encC;walk_at "den";rw[x1z M.t_tuple_tuple];walk_at "den";rw[x1z M.t_tuple_tuple];walk_at "den"
theorem walk{l:PySem.W.OpenLaw}{q:Program}{loose:List Str}{XP:(Str->Option Value)->Heap->Prop}{YP:World->Heap->Prop}{d:DefRec}{K:Params->PySem.W.Frag}(hn:l.most=some 63)(hdf:d.params.defaults=[])
  (hY:∀(w:World)(h:Heap),YP w h->(K w.params).In h)
  (F:∀(w:World)(mg:Str->Option Value)(fa:Addr)(h:Heap),(K w.params).In h->h.Ns mainGlobals mg->mg d.name=some (.ref fa) ->
   ∃fd:FuncData,(∀(s:Shared)(u:Value),BindsTo s fd ⟨[u],[]⟩ [("_law_script", u)])/\∀base:Heap,(K w.params).In base->base.Ns mainGlobals mg->FnOk l.prog w (K w.params) mg base (CX1 l.prog w) 151 fa fd ["_law_script"] (spLaw (K w.params)))(hNM:∀w:World,noMark (K w.params)=true):
  PySem.W.WalkO q loose XP YP l.row.toRowW d [] (fun f vs=>PySem.call f vs):=
 L2.x6i (n:=63) (k:=151) (x:="_law_script") (CX:=fun w=>CX1 l.prog w) (sp:=fun w=>spLaw (K w.params)) hn (by decide) hdf ⟨rfl,by decide,by decide,rfl⟩ hY F (fun _ _ a ns hl _ hS=>⟨a,ns,rfl,hS,hl,fun _=>rfl⟩) (fun _ _ _ _ _ z=>z0z z) hNM
end Q
open PySem PySem.W PyProof.Rows
set_option maxRecDepth 100000 in
set_option maxHeartbeats 0 in
theorem PySem.Challenge.cw_circuits_k73_sheets_read_holds : PySem.Challenge.rw_circuits_k73_sheets_read.Holds := by
 w_on; o_law; k_head; (case hw => w_witness2)
 k_fill
 refine Q.walk (l := PySem.Challenge.rw_circuits_k73_sheets_read) rfl rfl (fun w h Y => PySem.W.kIn_of Y) ?F (fun w => by kernel_rfl)
 case F =>
  intro w mg fa h KX G hmg;refine' Q.mk KX G hmg ?a0 ?l0 ?c0 ?k0 ?a1 ?l1 ?c1 ?k1 ?a2 ?l2 ?c2 ?k2 ?a3 ?l3 ?c3 ?k3 ?a4 ?l4 ?c4 ?k4 ?a5 ?l5 ?c5 ?k5 ?a6 ?l6 ?c6 ?k6 ?a7 ?l7 ?c7 ?k7 ?a8 ?l8 ?c8 ?k8 ?a9 ?l9 ?c9 ?k9 ?a10 ?l10 ?c10 ?k10 ?a11 ?l11 ?c11 ?k11 ?a12 ?l12 ?c12 ?k12 ?a13 ?l13 ?c13 ?k13 ?a14 ?l14 ?c14 ?k14 ?a15 ?l15 ?c15 ?k15 ?a16 ?l16 ?c16 ?k16 ?a17 ?l17 ?c17 ?k17 ?a18 ?l18 ?c18 ?k18 ?a19 ?l19 ?c19 ?k19 ?a20 ?l20 ?c20 ?k20 ?a21 ?l21 ?c21 ?k21 ?a22 ?l22 ?c22 ?k22 ?a23 ?l23 ?c23 ?k23 ?a24 ?l24 ?c24 ?k24 ?a25 ?l25 ?c25 ?k25 ?a26 ?l26 ?c26 ?k26 ?a27 ?l27 ?c27 ?k27 ?a28 ?l28 ?c28 ?k28 ?a29 ?l29 ?c29 ?k29 ?a30 ?l30 ?c30 ?k30 ?n_CircuitError ?n_NoName ?n_BadText ?n_BadSheet ?n_WORDS ?n_JOINING ?n_LONGEST_NAME ?n_MOST_BRACKETS ?n_LOOSEST_WORD ?n_ROW_WORDS ?n_FIRST_TRUTHS ?n_TIGHTNESS ?tab_TIGHTNESS ?n_MOST_NAMES ?tab_MOST_NAMES ?n_BEHIND ?tab_BEHIND ?z_all ?z_enumerate ?z_int ?z_isinstance ?z_len ?z_max ?z_range ?z_tuple ?z_zip ?g_WORDS ?g_JOINING ?g_LONGEST_NAME ?g_MOST_BRACKETS ?g_LOOSEST_WORD ?g_ROW_WORDS ?g_FIRST_TRUTHS ?t_NoneType_tuple ?t_bool_tuple ?t_int_tuple ?t_str_tuple ?t_tuple_tuple ?t_list_tuple 150 ?hL
  (case a0 => k_is)
  (case l0 => k_is)
  (case c0 => k_is)
  (case k0 => k_is)
  (case a1 => k_is)
  (case l1 => k_is)
  (case c1 => k_is)
  (case k1 => k_is)
  (case a2 => k_is)
  (case l2 => k_is)
  (case c2 => k_is)
  (case k2 => k_is)
  (case a3 => k_is)
  (case l3 => k_is)
  (case c3 => k_is)
  (case k3 => k_is)
  (case a4 => k_is)
  (case l4 => k_is)
  (case c4 => k_is)
  (case k4 => k_is)
  (case a5 => k_is)
  (case l5 => k_is)
  (case c5 => k_is)
  (case k5 => k_is)
  (case a6 => k_is)
  (case l6 => k_is)
  (case c6 => k_is)
  (case k6 => k_is)
  (case a7 => k_is)
  (case l7 => k_is)
  (case c7 => k_is)
  (case k7 => k_is)
  (case a8 => k_is)
  (case l8 => k_is)
  (case c8 => k_is)
  (case k8 => k_is)
  (case a9 => k_is)
  (case l9 => k_is)
  (case c9 => k_is)
  (case k9 => k_is)
  (case a10 => k_is)
  (case l10 => k_is)
  (case c10 => k_is)
  (case k10 => k_is)
  (case a11 => k_is)
  (case l11 => k_is)
  (case c11 => k_is)
  (case k11 => k_is)
  (case a12 => k_is)
  (case l12 => k_is)
  (case c12 => k_is)
  (case k12 => k_is)
  (case a13 => k_is)
  (case l13 => k_is)
  (case c13 => k_is)
  (case k13 => k_is)
  (case a14 => k_is)
  (case l14 => k_is)
  (case c14 => k_is)
  (case k14 => k_is)
  (case a15 => k_is)
  (case l15 => k_is)
  (case c15 => k_is)
  (case k15 => k_is)
  (case a16 => k_is)
  (case l16 => k_is)
  (case c16 => k_is)
  (case k16 => k_is)
  (case a17 => k_is)
  (case l17 => k_is)
  (case c17 => k_is)
  (case k17 => k_is)
  (case a18 => k_is)
  (case l18 => k_is)
  (case c18 => k_is)
  (case k18 => k_is)
  (case a19 => k_is)
  (case l19 => k_is)
  (case c19 => k_is)
  (case k19 => k_is)
  (case a20 => k_is)
  (case l20 => k_is)
  (case c20 => k_is)
  (case k20 => k_is)
  (case a21 => k_is)
  (case l21 => k_is)
  (case c21 => k_is)
  (case k21 => k_is)
  (case a22 => k_is)
  (case l22 => k_is)
  (case c22 => k_is)
  (case k22 => k_is)
  (case a23 => k_is)
  (case l23 => k_is)
  (case c23 => k_is)
  (case k23 => k_is)
  (case a24 => k_is)
  (case l24 => k_is)
  (case c24 => k_is)
  (case k24 => k_is)
  (case a25 => k_is)
  (case l25 => k_is)
  (case c25 => k_is)
  (case k25 => k_is)
  (case a26 => k_is)
  (case l26 => k_is)
  (case c26 => k_is)
  (case k26 => k_is)
  (case a27 => k_is)
  (case l27 => k_is)
  (case c27 => k_is)
  (case k27 => k_is)
  (case a28 => k_is)
  (case l28 => k_is)
  (case c28 => k_is)
  (case k28 => k_is)
  (case a29 => k_is)
  (case l29 => k_is)
  (case c29 => k_is)
  (case k29 => k_is)
  (case a30 => k_is)
  (case l30 => k_is)
  (case c30 => k_is)
  (case k30 => k_is)
  (case n_CircuitError => k_is)
  (case n_NoName => k_is)
  (case n_BadText => k_is)
  (case n_BadSheet => k_is)
  (case n_WORDS => k_is)
  (case n_JOINING => k_is)
  (case n_LONGEST_NAME => k_is)
  (case n_MOST_BRACKETS => k_is)
  (case n_LOOSEST_WORD => k_is)
  (case n_ROW_WORDS => k_is)
  (case n_FIRST_TRUTHS => k_is)
  (case n_TIGHTNESS => k_is)
  (case tab_TIGHTNESS => exact D.x6u (by kernel_rfl) (by decide) (by kernel_rfl) ⟨_, by k_is, rfl, rfl⟩)
  (case n_MOST_NAMES => k_is)
  (case tab_MOST_NAMES => exact D.x6u (by kernel_rfl) (by decide) (by kernel_rfl) ⟨_, by k_is, rfl, rfl⟩)
  (case n_BEHIND => k_is)
  (case tab_BEHIND => exact ⟨_, by k_is, by kernel_rfl, by kernel_rfl⟩)
  (case z_all => k_is)
  (case z_enumerate => k_is)
  (case z_int => k_is)
  (case z_isinstance => k_is)
  (case z_len => k_is)
  (case z_max => k_is)
  (case z_range => k_is)
  (case z_tuple => k_is)
  (case z_zip => k_is)
  (case g_WORDS => kernel_rfl)
  (case g_JOINING => kernel_rfl)
  (case g_LONGEST_NAME => kernel_rfl)
  (case g_MOST_BRACKETS => kernel_rfl)
  (case g_LOOSEST_WORD => kernel_rfl)
  (case g_ROW_WORDS => kernel_rfl)
  (case g_FIRST_TRUTHS => kernel_rfl)
  (case t_NoneType_tuple => kernel_rfl)
  (case t_bool_tuple => kernel_rfl)
  (case t_int_tuple => kernel_rfl)
  (case t_str_tuple => kernel_rfl)
  (case t_tuple_tuple => kernel_rfl)
  (case t_list_tuple => kernel_rfl)
  (case hL => exact fun a M ns hl => Q.y46 M ns hl)
