import PyProof.Rows.All
import Wide.All
import OpenK.AllK
import Wide.FinOn
import PyProof.TupleKey
import PyProof.EqAt
import PyProof.EqKinds
import Wide.Seal
import Lean
import PyProof.TupleCall
import KE.KTryMore
import KE.KRevIter
import PyProof.CollectIter
import PyProof.ConsumeWalk
import PyProof.TupleOfStr
import KE.KIsAll
import PyProof.ExcArgs
import PyProof.ExcAttrAll.ValueError
import PyProof.CompUse
import PyProof.NeKinds
import PyProof.EnumIter
import PyProof.EnumFor
import PyProof.EnumMake
import PyProof.EnumStmt
import PyProof.ListMulRoad
import PyProof.ZipIter
import PyProof.TupleIter
import PyProof.Rows.SortWalk
import PyProof.SetKind
import PyProof.Rows.SetFrom
import PyProof.FactsAll.set_1
import KE.KDictSum
import PyProof.FactsAll.set_2
import PyProof.FactsAll.tuple_2
import PyProof.ReprRoads
import PyProof.Rows.SeqMore
import PyProof.ReprLen
import PyProof.WalkInts
import PyProof.SeqI3
import PyProof.Rows.TupIter
import PyProof.ListRange
import PyProof.SumWalk
import PyProof.DictIter
import PyProof.DictWalks
import PyProof.DictRoadsH
import PyProof.DictTruth
import KE.KDictList
import PyProof.Rows.TupDisplay
import PyProof.Draws
import PyProof.StrBlockI
import PyProof.StrLawsIn
import PyProof.StrOps2
import PyProof.ReprStr
import PyProof.ListNew
import PyProof.Rows.SortRev
import KE.KRevSl
import KE.RegMulBits
import PySem.Challenge.RW_circuits_k56_whole_one_value
set_option Elab.async false
set_option linter.all false
set_option maxRecDepth 100000
set_option maxHeartbeats 1000000
local macro_rules | `(tactic| omega) => `(tactic| first | with_reducible assumption | decide | with_reducible exact Nat.le_refl _ | with_reducible exact Nat.zero_le _ | lia)
set_option genSizeOf false
set_option genInjectivity false
local macro_rules | `(tactic| walk_at "1") => `(tactic| (first | exact Or.inl rfl | exact Or.inr (Or.inl rfl) | exact Or.inr (Or.inr rfl)))
local macro_rules | `(tactic| walk_at "2") => `(tactic| (first | exact .inl rfl | exact .inr rfl | assumption))
local macro_rules | `(tactic| walk_at "3") => `(tactic| (first | exact Or.inl rfl | exact Or.inr rfl))
open PySem.W (codeHdIn findIn keepIn kla_obj methodObj mg_none_of mg_of mroIn pyHash_slot specialIn tabObj)
def w0a:=@List.length_map
def w0b:=@List.getElem?_eq_some_iff
def w0c:=@List.getElem?_eq_getElem
def w0d:=@Option.map_eq_some_iff
def w0e:=@List.size_toArray
def w0f:=@List.getElem?_set_ne
def w0g:=@List.getElem?_set_self
def w0h:=@List.mem_cons
def w0i:=@List.getElem?_map
def w0j:=@Nat.le_refl
def w0k:=@List.mem_map
def w0l:=@List.mem_append_right
def w0m:=@List.mem_of_getElem?
def w0n:=@List.map_append
def w0o:=@List.mem_range
def w0p:=@List.append_assoc
def w0q:=@List.getElem?_cons_succ
def w0r:=@Bool.false_ne_true
def w0s:=@List.all_eq_true
def w0t:=@List.mem_cons_of_mem
def w0u:=@List.mem_singleton
def w0v:=@List.getElem_mem
def w0w:=@Nat.lt_of_lt_of_le
def w0x:=@Nat.ne_of_lt
def w0y:=@Bool.and_eq_true
def w0z:=@List.length_cons
def w1a:=@List.lookup_cons
def w1b:=@List.map_cons
def w1c:=@List.getElem?_append_left
def w1d:=@Nat.le_trans
def w1e:=@List.getElem?_append_right
def w1f:=@List.mem_cons_self
def w1g:=@List.map_map
def w1h:=@List.replicate_succ
def w1i:=@List.map_congr_left
def w1j:=@List.append_nil
def w1k:=@Nat.zero_le
def w1l:=@Option.bind_eq_some_iff
def w1m:=@List.mem_append_left
def w1n:=@Nat.pow_le_pow_right
def w1o:=@List.length_append
def w1p:=@List.mem_append
def w1q:=@List.getElem?_cons_zero
def w1r:=@List.nodup_cons
def w1s:=@Array.getElem?_append_left
def w1t:=@Bool.eq_false_iff
def w1u:=@List.flatten_cons
def w1v:=@Int.toNat_natCast
def w1w:=@List.length_replicate
def w1x:=@List.foldl_cons
def w1y:=@List.find?_cons
def w1z:=@List.all_cons
def w2a:=@List.length_range
def w2b:=@Array.getElem?_eq_some_iff
def w2c:=@List.getElem?_eq_none
def w2d:=@List.mem_iff_getElem
def w2e:=@List.length_set
def w2f:=@Int.emod_nonneg
def w2g:=@Nat.lt_irrefl
def w2h:=@List.append_cancel_left
def w2i:=@List.take_of_length_le
def w2j:=@Int.emod_lt_of_pos
def w2k:=@List.of_mem_zip
def w2l:=@Nat.lt_succ_of_lt
def w2m:=@List.mem_or_eq_of_mem_set
def w2n:=@List.drop_length
def w2o:=@List.not_mem_nil
def w2p:=@List.getElem_of_mem
def w2q:=@List.mem_map_of_mem
def w2r:=@List.forIn_cons
def w2s:=@Bool.false_eq_true
def w2t:=@List.mem_filter
def w2u:=@List.mem_filterMap
def w2v:=@List.getElem?_replicate
def w2w:=@Bool.eq_iff_iff
def w2x:=@List.filter_cons_of_pos
def w2y:=@List.set_cons_zero
def w2z:=@List.set_cons_succ
def w3a:=@List.zip_cons_cons
def w3b:=@List.take_succ_eq_append_getElem
def w3c:=@List.reverse_cons
def w3d:=@Option.isSome_map
def w3e:=@Nat.zero_add
def w3f:=@List.filter_cons
def w3g:=@List.take_append_of_le_length
def w3h:=@List.any_cons
def w3i:=@List.filterMap_cons
def w3j:=@Bool.or_eq_true
def w3k:=@List.nil_append
def w3l:=@Array.toList_append
def w3m:=@List.length_zip
def w3n:=@List.length_nil
def w3o:=@List.idxOf_cons
def w3p:=@List.getElem?_zip_eq_some
def w3q:=@List.drop_eq_getElem_cons
def w3r:=@List.ext_getElem?
def w3s:=@Option.isSome_iff_exists
def w3t:=@List.nodup_append
def w3u:=@List.eq_of_mem_replicate
def w3v:=@List.filter_cons_of_neg
def w3w:=@List.length_take
def w3x:=@Nat.ne_of_gt
def w3y:=@List.all_map
def w3z:=@Int.zero_add
def w4a:=@List.map_set
def w4b:=@Nat.not_lt
def w4c:=@Array.length_toList
def w4d:=@List.replicate_zero
def w4e:=@List.filter_eq_self
def w4f:=@List.getElem?_range
def w4g:=@List.takeWhile_cons
def w4h:=@List.length_pos_iff
def w4i:=@Array.forIn_toList
def w4j:=@Nat.add_assoc
def w4k:=@List.map_inj_right
def w4l:=@List.getElem_range
def w4m:=@List.lookup_append
def w4n:=@Nat.le_of_lt
def w4o:=@Nat.le_succ
abbrev Fg:=PySem.W.Frag
noncomputable section
namespace PySem.W.Fast
theorem tw9204177706728679937:True:=trivial
theorem tw533930495089171426:True:=trivial
theorem tw13521019443963941803:True:=trivial
theorem tw417653894681717116:True:=trivial
theorem tw5348398997703553399:True:=trivial
theorem tw14154852770095263334:True:=trivial
theorem tw14290042917484447628:True:=trivial
theorem tw4097071631100633308:True:=trivial
theorem tw14734049741298749048:True:=trivial
theorem tw6469974832234223008:True:=trivial
theorem tw4903942959068807569:True:=trivial
theorem tw6536437283831039251:True:=trivial
theorem tw3359246631543599057:True:=trivial
theorem tw11122782717384979044:True:=trivial
theorem tw17250543927051862858:True:=trivial
theorem tw13292449088123997346:True:=trivial
theorem tw6439776419721586325:True:=trivial
theorem tw7690457221126174997:True:=trivial
theorem tw221208860872587287:True:=trivial
theorem tw8125850891897013701:True:=trivial
theorem tw8340357453751965969:True:=trivial
theorem tw12017931198507447941:True:=trivial
theorem tw18430303364247789559:True:=trivial
theorem tw17335323327327895556:True:=trivial
theorem tw15170577668135383529:True:=trivial
theorem tw10026269169701006967:True:=trivial
theorem tw17232169203234137393:True:=trivial
theorem tw14283580322668809526:True:=trivial
theorem tw6514329791786383763:True:=trivial
theorem tw958929333335200665:True:=trivial
theorem tw5785271466675527257:True:=trivial
theorem tw6313698235395119537:True:=trivial
theorem tw6354929083536662962:True:=trivial
theorem tw10424558299089728786:True:=trivial
theorem tw14627025261771081133:True:=trivial
theorem tw6510487816820836794:True:=trivial
theorem tw2275087462068621274:True:=trivial
theorem tw2178394415325045563:True:=trivial
theorem tw5807089843054544785:True:=trivial
theorem tw12492040385375698494:True:=trivial
theorem tw14564575054301885580:True:=trivial
theorem tw11020918326828147479:True:=trivial
theorem tw5314726050445209174:True:=trivial
theorem tw11439600510614253895:True:=trivial
theorem tw6583908688809725661:True:=trivial
theorem tw8787132622602053201:True:=trivial
theorem tw11600715166323355032:True:=trivial
theorem tw3174334088379546085:True:=trivial
theorem tw16331688170122028659:True:=trivial
theorem tw12184435825099209161:True:=trivial
theorem tw6595850361509910183:True:=trivial
theorem tw15235279382984652404:True:=trivial
theorem tw14346873480216265416:True:=trivial
theorem tw13272691877268178300:True:=trivial
theorem tw12813311002936652807:True:=trivial
theorem tw14494095795237084036:True:=trivial
theorem tw6569955035634410952:True:=trivial
theorem tw17421910177851023316:True:=trivial
theorem tw12699545718176114100:True:=trivial
theorem tw14864018350167463708:True:=trivial
end PySem.W.Fast
namespace L2
open PySem PySem.Spec PyProof.Rows
variable{a b:Addr}{A:Around}{op:CmpOp}{c e tg:Expr}{fd:FuncData}{base h h':Heap}{pins:List (Addr×Obj)}{ch fp:List Addr}{es:List Expr}{N ps:List Str}{us:List Value}{i t':Nat}{p pos:Pos}{P prog:Program}{K:Fg}{s:Shared}{x:Str}{mg:Str->Option Value}{u:Value}{E:Value->Shared->Prop}{f:Value->Value->Sem Value}{w:World}
set_option genInjectivity true in
inductive Kx where
 |non|bl (b:Bool)|int (i:Int)|str (x:Str)|tup (ks:List Kx)
inductive Sh where
 |ob|bl|int|str|tup (ss:List Sh)|many (s:Sh)
noncomputable instance:DecidableEq Kx:=fun _ _=>Classical.propDecidable _
mutual
def Kx.depth:Kx->Nat
 |.tup ks=>Kx.depths ks+1
 |_=>0
def Kx.depths:List Kx->Nat
 |[]=>0
 |k::ks=>max k.depth (Kx.depths ks)
end
mutual
def Conf:Kx->Sh->Prop
 |.non,.ob=>True
 |.bl _,.ob=>True
 |.bl _,.bl=>True
 |.int _,.int=>True
 |.str _,.str=>True
 |.tup ks,.tup ss=>Confs ks ss
 |.tup ks,.many s=>ConfM ks s
 |_,_=>False
def Confs:List Kx->List Sh->Prop
 |[],[]=>True
 |k::ks,s::ss=>Conf k s/\Confs ks ss
 |_,_=>False
def ConfM:List Kx->Sh->Prop
 |[],_=>True
 |k::ks,s=>Conf k s/\ConfM ks s
end
mutual
def KIs(h:Heap):Kx->Value->Prop
 |.non,v=>v=.none
 |.bl b,v=>v=.bool b
 |.int i,v=>∃t,v=.int i t
 |.str x,v=>∃t,v=.str x t
 |.tup ks,v=>∃a o items n,v=.ref a/\h.get? a=some o/\o.cls=.type "tuple" /\ o.data=.seq items n/\KAre h ks items.toList
def KAre(h:Heap):List Kx->List Value->Prop
 |[],vs=>vs=[]
 |k::ks,vs=>∃v r,vs=v::r/\KIs h k v/\KAre h ks r
end
mutual
theorem x4c{h:Heap}:∀(k k':Kx){v:Value},KIs h k v->KIs h k' v->k=k'
 |.non,k',v,x,y=>by
  cases(show v=.none from x);cases k' with
  |non=>rfl
  |bl c=>cases(show Value.none=.bool c from y)
  |int i=>obtain⟨t,e⟩:=y;cases e
  |str i=>obtain⟨t,e⟩:=y;cases e
  |tup ks=>obtain⟨_,_,_,_,e,_⟩:=y;cases e
 |.bl b,k',v,x,y=>by
  cases(show v=.bool b from x);cases k' with
  |non=>cases(show Value.bool b=.none from y)
  |bl c=>cases(show Value.bool b=.bool c from y);rfl
  |int i=>obtain⟨t,e⟩:=y;cases e
  |str i=>obtain⟨t,e⟩:=y;cases e
  |tup ks=>obtain⟨_,_,_,_,e,_⟩:=y;cases e
 |.int b,k',v,x,y=>by
  obtain⟨t,rfl⟩:=x;cases k' with
  |non=>cases y
  |bl c=>cases y
  |int i=>obtain⟨t,e⟩:=y;cases e;rfl
  |str i=>obtain⟨t,e⟩:=y;cases e
  |tup ks=>obtain⟨_,_,_,_,e,_⟩:=y;cases e
 |.str b,k',v,x,y=>by
  obtain⟨t,rfl⟩:=x;cases k' with
  |non=>cases y
  |bl c=>cases y
  |int i=>obtain⟨t,e⟩:=y;cases e
  |str i=>obtain⟨t,e⟩:=y;cases e;rfl
  |tup ks=>obtain⟨_,_,_,_,e,_⟩:=y;cases e
 |.tup ks,k',v,x,y=>by
  obtain⟨a,o,it,n,rfl,h1,h2,h3,h4⟩:=x;cases k' with
  |non=>cases y
  |bl c=>cases y
  |int i=>obtain⟨t,e⟩:=y;cases e
  |str i=>obtain⟨t,e⟩:=y;cases e
  |tup ks'=>
   obtain⟨a',o',it',n',e,g1,g2,g3,g4⟩:=y;cases e;rw[h1]at g1;cases g1;rw[h3]at g3;injection g3 with e1 _
   subst e1;rw[q8a ks ks' h4 g4]
theorem q8a{h:Heap}:∀(ks ks':List Kx){vs:List Value},KAre h ks vs->KAre h ks' vs->ks=ks'
 |[],ks',vs,x,y=>by
  cases(show vs=[]from x);cases ks' with
  |nil=>rfl
  |cons k ks'=>obtain⟨v,r,e,_⟩:=y;cases e
 |k::ks,ks',vs,x,y=>by
  obtain⟨v,r,rfl,h1,h2⟩:=x;cases ks' with
  |nil=>cases(show v::r=[]from y)
  |cons k' ks'=>
   obtain⟨v',r',e,g1,g2⟩:=y;cases e;rw[x4c k k' h1 g1,q8a ks ks' h2 g2]
end
mutual
theorem x0n{h h':Heap}(hk:∀a o,h.get? a=some o->o.cls=.type "tuple"->(∃it n,o.data=.seq it n)->h'.get? a=some o):∀(k:Kx){v:Value},KIs h k v->KIs h' k v
 |.non,v,x=>x
 |.bl b,v,x=>x
 |.int b,v,x=>x
 |.str b,v,x=>x
 |.tup ks,v,x=>by
  obtain⟨a,o,it,n,rfl,h1,h2,h3,h4⟩:=x;exact⟨a,o,it,n,rfl,hk a o h1 h2 ⟨it,n,h3⟩,h2,h3,q8w hk ks h4⟩
theorem q8w{h h':Heap}(hk:∀a o,h.get? a=some o->o.cls=.type "tuple"->(∃it n,o.data=.seq it n)->h'.get? a=some o):∀(ks:List Kx){vs:List Value},KAre h ks vs->KAre h' ks vs
 |[],vs,x=>x
 |k::ks,vs,x=>by
  obtain⟨v,r,rfl,h1,h2⟩:=x;exact⟨v,r,rfl,x0n hk k h1,q8w hk ks h2⟩
end
theorem KAre.length:∀(ks:List Kx){vs:List Value},KAre h ks vs->vs.length=ks.length
 |[],vs,x=>by cases(show vs=[]from x);rfl
 |k::ks,vs,x=>by
  obtain⟨v,r,rfl,h1,h2⟩:=x;rw[w0z,w0z,KAre.length ks h2]
mutual
def kHash(w:World):Kx->Int
 |.non=>PySem.W.hashW w.params .none
 |.bl b=>reduceHash (if b=true then 1 else 0)
 |.int i=>hashInt i
 |.str x=>hashStr w x
 |.tup ks=>reduceHash (Builtin.Tuple.tupleHashOf (kHashes w ks))
def kHashes(w:World):List Kx->List Int
 |[]=>[]
 |k::ks=>kHash w k::kHashes w ks
end
mutual
def kDraws:Kx->Nat
 |.tup ks=>kDrawss ks+1
 |_=>1
def kDrawss:List Kx->Nat
 |[]=>0
 |k::ks=>kDraws k+kDrawss ks
end
mutual
theorem x4d:∀(k:Kx)(v:Value)(A:Around)(s:Shared)(Q:Int->Shared->Prop),KIs s.heap k v->A.units+k.depth<cLine->Q (kHash w k) {s with toks:=s.toks+kDraws k}->wpAny (model prog w) A (pyHash v) Q E s
 |.non,v,A,s,Q,x,hu,h=>by
  cases(show v=.none from x);exact pyHash_slot (T:="NoneType") rfl F.slot_NoneType_hash F.entry_NoneType_hash (F.args_NoneType_hash_1 _) (beq_builtin_none _) (.inr (by omega)) (wpAny_bind (wpAny_pure (wpAny_bind (wpAny_mkInt (wpAny_pure ⟨_,_,rfl,h⟩)))))
 |.bl b,v,A,s,Q,x,hu,h=>by
  cases(show v=.bool b from x);refine pyHash_slot (T:="bool") rfl F.slot_bool_hash entry_int_hash (args_int_hash _) (beq_builtin_none _) (.inr (by omega)) ?_;cases b
  ·exact(show wpAny _ _ (do ret (<- mkInt 0)) _ _ s from wpAny_bind (wpAny_mkInt (wpAny_pure ⟨_,_,rfl,h⟩)))
  ·exact(show wpAny _ _ (do ret (<- mkInt 1)) _ _ s from wpAny_bind (wpAny_mkInt (wpAny_pure ⟨_,_,rfl,h⟩)))
 |.int i,v,A,s,Q,x,hu,h=>by
  obtain⟨t,rfl⟩:=x;exact wpAny_pyHash_int h
 |.str i,v,A,s,Q,x,hu,h=>by
  obtain⟨t,rfl⟩:=x;exact wpAny_pyHash_str h
 |.tup ks,v,A,s,Q,x,hu,h=>by
  obtain⟨a,o,it,n,rfl,h1,h2,h3,h4⟩:=x;refine pyHash_slot (T:="tuple") ⟨_,h1,h2⟩ F.slot_tuple_hash F.entry_tuple_hash (F.args_tuple_hash_1 _) (beq_builtin_none _) (.inr (by omega)) ?_;show wpAny _ _ (Builtin.Tuple.tupleItemsOf (.ref a) >>= _) _ _ s;refine wpAny_bind (wpAny_tupleItemsOf h1 h3 ?_);refine wpAny_bind ?_;rw[<- w4i];refine x0o ks it.toList A.in1 s #[] _ h4 (by simp only[Kx.depth,Around.in1_units]at hu |-;omega) fun b hb=>?_
  show wpAny _ _ (retInt (Builtin.Tuple.tupleHashOf b.toList)) _ _ _;rw[hb];exact wpAny_bind (wpAny_mkInt (wpAny_pure ⟨_,_,rfl,by simpa [kHash,kDraws,w4j]using h⟩))
theorem x0o:∀(ks:List Kx)(vs:List Value)(A:Around)(s:Shared)(b:Array Int)(Q:Array Int->Shared->Prop),KAre s.heap ks vs->A.units+Kx.depths ks<cLine ->
  (∀b',b'.toList=b.toList++kHashes w ks->Q b' {s with toks:=s.toks+kDrawss ks}) ->
  wpAny (model prog w) A (forIn vs b fun x r=>do let h <- pyHash x;pure PUnit.unit;pure (ForInStep.yield (r.push h))) Q E s
 |[],vs,A,s,b,Q,x,hu,h=>by
  cases(show vs=[]from x);exact wpAny_pure (h b (by simp[kHashes]))
 |k::ks,vs,A,s,b,Q,x,hu,h=>by
  obtain⟨v,r,rfl,h1,h2⟩:=x;simp only[Kx.depths]at hu;rw[w2r];refine wpAny_bind (wpAny_bind (x4d k v A s _ h1 (by omega) ?_));refine wpAny_bind (wpAny_pure (wpAny_pure ?_))
  exact x0o ks r A _ _ Q h2 (by omega) fun b' hb=>by
   have:=h b' (by simp[hb,kHashes])
   simpa [kDrawss,w4j]using this
end
theorem x4e(a b:Bool):decide (Kx.bl a=Kx.bl b)=(a==b):=by
 by_cases e:a=b
 ·subst e;simp
 ·rw[decide_eq_false (fun z=>e (by injection z))];exact(beq_eq_false_iff_ne.mpr e).symm
theorem x9u(a b:Int):decide (Kx.int a=Kx.int b)=(a==b):=by
 by_cases e:a=b
 ·subst e;simp
 ·rw[decide_eq_false (fun z=>e (by injection z))];exact(beq_eq_false_iff_ne.mpr e).symm
theorem x9v(a b:Str):decide (Kx.str a=Kx.str b)=(a==b):=by
 by_cases e:a=b
 ·subst e;simp
 ·rw[decide_eq_false (fun z=>e (by injection z))];exact(beq_eq_false_iff_ne.mpr e).symm
def sameAt(ks ks':List Kx)(j:Nat):Bool:=decide (ks[j]?=ks'[j]?)
theorem x9w:∀ks ks':List Kx,((List.range (min ks.length ks'.length)).all (sameAt ks ks')&&ks.length==ks'.length)=decide (Kx.tup ks=Kx.tup ks'):=by
 intro ks ks'
 by_cases e:ks=ks'
 ·subst e;rw[decide_eq_true rfl];simp[sameAt]
 ·rw[decide_eq_false (fun z=>e (by injection z))]
  rw[Bool.and_eq_false_iff]
  by_cases hl:ks.length=ks'.length
  ·left
   rw[w1t];intro ha;refine e (w3r fun j=>?_)
   by_cases hj:j<ks.length
   ·have:=w0s.mp ha j (w0o.mpr (by omega));exact of_decide_eq_true this
   ·rw[w2c (by omega),w2c (by omega)]
  ·right
   simpa using hl
theorem q6h:∀(ks:List Kx){vs:List Value},KAre h ks vs->∀(j:Nat)(v:Value),vs[j]?=some v->∃k,ks[j]?=some k/\KIs h k v
 |[],vs,x,j,v,e=>by cases(show vs=[]from x);simp at e
 |k::ks,vs,x,j,v,e=>by
  obtain⟨u,r,rfl,h1,h2⟩:=x;cases j with
  |zero=>cases e;exact⟨k,rfl,h1⟩
  |succ j=>exact q6h ks h2 j v (by simpa using e)
theorem q6x:∀(ks:List Kx)(j:Nat)(k:Kx),ks[j]?=some k->k.depth<=Kx.depths ks
 |[],j,k,e=>by simp at e
 |x::ks,j,k,e=>by
  simp only[Kx.depths];cases j with
  |zero=>cases e;omega
  |succ j=>have:=q6x ks j k (by simpa using e);omega
theorem q6y:∀(ks:List Kx)(ss:List Sh),Confs ks ss->∀(j:Nat)(k:Kx),ks[j]?=some k->∃s,ss[j]?=some s/\Conf k s
 |[],ss,_,j,k,e=>by simp at e
 |x::ks,[],c,j,k,e=>c.elim
 |x::ks,s::ss,c,j,k,e=>by
  cases j with
  |zero=>cases e;exact⟨s,rfl,c.1⟩
  |succ j=>exact q6y ks ss c.2 j k (by simpa using e)
theorem q6z:∀(ks:List Kx)(s:Sh),ConfM ks s->∀(j:Nat)(k:Kx),ks[j]?=some k->Conf k s
 |[],s,_,j,k,e=>by simp at e
 |x::ks,s,c,j,k,e=>by
  cases j with
  |zero=>cases e;exact c.1
  |succ j=>exact q6z ks s c.2 j k (by simpa using e)
theorem z2f(s:Shared):∀(n:Nat)(k k':Kx)(sh:Sh)(v v':Value)(A:Around),k.depth<=n->Conf k sh->Conf k' sh->KIs s.heap k v->KIs s.heap k' v'->A.units+n<cLine->SeqAt.EqAt A s v v' (decide (k=k')):=by
 intro n
 induction n with
 |zero=>
  intro k k' sh v v' A hd c c' x y hu;cases k with
  |non=>
   cases sh with
   |ob=>
    cases k' with
    |non=>cases(show v=.none from x);cases(show v'=.none from y);rw[decide_eq_true rfl];exact .same _
    |bl b=>cases(show v=.none from x);cases(show v'=.bool b from y);rw[decide_eq_false (fun z=>nomatch z)];exact .none_bool b
    |_=>exact c'.elim
   |_=>exact c.elim
  |bl a=>
   cases sh with
   |ob=>
    cases k' with
    |non=>cases(show v=.bool a from x);cases(show v'=.none from y);rw[decide_eq_false (fun z=>nomatch z)];exact .bool_none a
    |bl b=>cases(show v=.bool a from x);cases(show v'=.bool b from y);rw[x4e];exact .bool_bool a b
    |_=>exact c'.elim
   |bl=>
    cases k' with
    |bl b=>cases(show v=.bool a from x);cases(show v'=.bool b from y);rw[x4e];exact .bool_bool a b
    |_=>exact c'.elim
   |_=>exact c.elim
  |int a=>
   cases sh with
   |int=>
    cases k' with
    |int b=>obtain⟨t,rfl⟩:=x;obtain⟨u,rfl⟩:=y;rw[x9u];exact .int_int a t b u
    |_=>exact c'.elim
   |_=>exact c.elim
  |str a=>
   cases sh with
   |str=>
    cases k' with
    |str b=>obtain⟨t,rfl⟩:=x;obtain⟨u,rfl⟩:=y;rw[x9v];exact .str_str a t b u
    |_=>exact c'.elim
   |_=>exact c.elim
  |tup ks=>simp only[Kx.depth]at hd;omega
 |succ n ih=>
  intro k k' sh v v' A hd c c' x y hu;cases k with
  |non=>exact ih .non k' sh v v' A (w1k _) c c' x y (by omega)
  |bl a=>exact ih (.bl a) k' sh v v' A (w1k _) c c' x y (by omega)
  |int a=>exact ih (.int a) k' sh v v' A (w1k _) c c' x y (by omega)
  |str a=>exact ih (.str a) k' sh v v' A (w1k _) c c' x y (by omega)
  |tup ks=>
   obtain⟨a,o,it,m,rfl,h1,h2,h3,h4⟩:=x
   have tail:∀ks',k'=.tup ks'->(∀(j:Nat)(u u':Kx),ks[j]?=some u->ks'[j]?=some u'->∃s,Conf u s/\Conf u' s)->SeqAt.EqAt A s (.ref a) v' (decide (Kx.tup ks=k')):=by
    rintro ks' rfl hc;obtain⟨b,o',it',m',rfl,g1,g2,g3,g4⟩:=y
    by_cases hab:a=b
    ·subst hab;rw[h1]at g1;cases g1;rw[h3]at g3;injection g3 with e1 _
     subst e1;rw[q8a ks ks' h4 g4,decide_eq_true rfl];exact .same _
    ·have l1:=KAre.length ks h4;have l2:=KAre.length ks' g4;rw[<- x9w]
     have:=SeqAt.RcAt.tuples (A:=A) (s:=s) (e:=sameAt ks ks') (show s.heap.IsTuple a it from⟨o,h1,h2,m,h3⟩) (show s.heap.IsTuple b it' from⟨o',g1,g2,m',g3⟩) (by omega) (fun j j1 j2=>by
      obtain⟨u,u1,u2⟩:=q6h ks h4 j it[j] (by simp[j1]);obtain⟨u',u1',u2'⟩:=q6h ks' g4 j it'[j] (by simp[j2]);obtain⟨sh',c1,c2⟩:=hc j u u' u1 u1';have hdj:=q6x ks j u u1;simp only[Kx.depth]at hd;have z:=ih u u' sh' _ _ A.in1 (by omega) c1 c2 u2 u2' (by rw[Around.in1_units];omega)
      have e:sameAt ks ks' j=decide (u=u'):=by
       unfold sameAt;rw[u1,u1']
       by_cases q:u=u'
       ·rw[q];simp
       ·rw[decide_eq_false q,decide_eq_false (fun z=>q (Option.some.inj z))]
      rw[e];exact z)
     rw[show it.size=ks.length by simpa using l1,show it'.size=ks'.length by simpa using l2]at this;exact .of_refs hab this
   cases sh with
   |tup ss=>
    cases k' with
    |tup ks'=>
     refine tail ks' rfl fun j u u' e1 e2=>?_
     obtain⟨s1,q1,q2⟩:=q6y ks ss c j u e1;obtain⟨s2,q3,q4⟩:=q6y ks' ss c' j u' e2;rw[q1]at q3;cases q3;exact⟨s1,q2,q4⟩
    |_=>exact c'.elim
   |many s1=>
    cases k' with
    |tup ks'=>exact tail ks' rfl fun j u u' e1 e2=>⟨s1,q6z ks s1 c j u e1,q6z ks' s1 c' j u' e2⟩
    |_=>exact c'.elim
   |_=>exact c.elim
theorem x9x:∀(n:Nat)(k:Kx)(v:Value)(s:Shared)(Q:Bool->Shared->Prop),k.depth<=n->KIs s.heap k v->Q true s->wpAny (model prog w) A (eqIsQuiet n v) Q E s:=by
 intro n
 induction n with
 |zero=>
  intro k v s Q hd x h;cases k with
  |non=>cases(show v=.none from x);rw[eqIsQuiet_byValue _ rfl];exact wpAny_pure h
  |bl b=>cases(show v=.bool b from x);rw[eqIsQuiet_byValue _ rfl];exact wpAny_pure h
  |int i=>obtain⟨t,rfl⟩:=x;rw[eqIsQuiet_byValue _ rfl];exact wpAny_pure h
  |str i=>obtain⟨t,rfl⟩:=x;rw[eqIsQuiet_byValue _ rfl];exact wpAny_pure h
  |tup ks=>simp only[Kx.depth]at hd;omega
 |succ n ih=>
  intro k v s Q hd x h;cases k with
  |non=>cases(show v=.none from x);rw[eqIsQuiet_byValue _ rfl];exact wpAny_pure h
  |bl b=>cases(show v=.bool b from x);rw[eqIsQuiet_byValue _ rfl];exact wpAny_pure h
  |int i=>obtain⟨t,rfl⟩:=x;rw[eqIsQuiet_byValue _ rfl];exact wpAny_pure h
  |str i=>obtain⟨t,rfl⟩:=x;rw[eqIsQuiet_byValue _ rfl];exact wpAny_pure h
  |tup ks=>
   obtain⟨a,o,it,m,rfl,h1,h2,h3,h4⟩:=x;have hT:s.TypeIs (.ref a) "tuple":=⟨o,h1,h2⟩;unfold eqIsQuiet;refine wpAny_bind (wpAny_specialOf hT F.slot_tuple_eq.lookup ?_);show wpAny _ _ (isInstance (.ref a) (.type "tuple") >>= _) _ _ s;refine wpAny_bind (wpAny_isInstance hT isSubtype_tuple_tuple ?_);simp only[Bool.not_true,w2s,if_false];refine wpAny_bind (wpAny_seqItems h1 h3 ?_);refine wpAny_bind ?_;show wpAny _ _ (forIn it _ _) _ _ s;rw[<- w4i];refine wpAny_forIn_list _ (fun rest r s'=>r.1=none/\s'=s/\∀v∈rest,∃k:Kx,k.depth<=n/\KIs s.heap k v) _ ?_ ?_ _ _ ⟨rfl,rfl,fun v hv=>?_⟩
   ·rintro v rest r s' ⟨hr,rfl,hall⟩;obtain⟨k,k1,k2⟩:=hall v w1f;refine wpAny_bind (ih k v _ _ k1 k2 ?_);simp only[Bool.not_true,w2s,if_false];exact wpAny_pure ⟨rfl,rfl,fun u hu'=>hall u (w0t _ hu')⟩
   ·rintro⟨r1,r2⟩ s' ⟨hr,rfl,_⟩;simp only at hr;subst hr;exact wpAny_pure h
   ·obtain⟨j,hj,e⟩:=w2d.mp hv;obtain⟨k,k1,k2⟩:=q6h ks h4 j v (by rw[w0c hj,e]);have:=q6x ks j k k1;simp only[Kx.depth]at hd;exact⟨k,by omega,k2⟩
def treeKind(prog:Program)(w:World)(sh:Sh):HeapKind prog w Kx where
 is:=fun h k a=>KIs h k (.ref a)/\Conf k sh/\k.depth<=7
 hash:=kHash w
 draws:=kDraws
 room:=fun A=>A.units+8<cLine
 inj:=fun hx hy=>x4c _ _ hx.1 hy.1
 keeps:=fun {h h' k a d o es ep} x ho hd hs=>⟨x0n (fun b ob e1 e2 e3=>by
  have hne:b≠d:=by
   rintro rfl;rw[ho]at e1;cases e1;obtain⟨it,n,e⟩:=e3;rw[hd]at e;cases e
  exact(hs.2 b hne).trans e1) _ x.1,x.2⟩
 pyHash:=fun {A E s k a Q} hu hk h=>x4d k _ A s Q hk.1 (by have:=hk.2.2;omega) h
 eqBool:=fun {A E s x y a b Q} hu hx hy h=>z2f s 7 x y sh _ _ A hx.2.2 hx.2.1 hy.2.1 hx.1 hy.1 (by omega) prog w E Q h
 quiet:=fun {A E s k a Q} hk h=>x9x 8 k _ s Q (by have:=hk.2.2;omega) hk.1 h
set_option Elab.async false
set_option linter.all false
set_option maxRecDepth 100000
noncomputable abbrev Key:=Sum Int Str
def keyIs:Key->Value->Bool
 |.inl k,v=>Value.isInt k v
 |.inr x,v=>Value.isStrOf x v
def keyH(w:World):Key->Int
 |.inl k=>hashInt k
 |.inr x=>hashStr w x
theorem q1n:∀{k:Key}{v:Value},keyIs k v=true->(∃i t,k=Sum.inl i/\v=Value.int i t)\/(∃x t,k=Sum.inr x/\v=Value.str x t)
 |.inl i,v,h=>by
  obtain⟨t,e⟩:=Value.isInt_shape (k:=i) (v:=v) h;exact .inl ⟨i,t,rfl,e⟩
 |.inr x,v,h=>by
  obtain⟨t,e⟩:=Value.isStrOf_shape (x:=x) (v:=v) h;exact .inr ⟨x,t,rfl,e⟩
theorem x6h(i:Int)(t:Tok):keyIs (.inl i) (.int i t)=true:=by simp[keyIs,Value.isInt]
theorem x6i(x:Str)(t:Tok):keyIs (.inr x) (.str x t)=true:=by simp[keyIs,Value.isStrOf]
theorem y78(a b:Int):decide ((Sum.inl a:Key)=Sum.inl b)=(a==b):=by
 by_cases e:a=b
 ·subst e;simp
 ·have h:¬(Sum.inl a:Key)=Sum.inl b:=fun q=>e (Sum.inl.inj q)
  rw[decide_eq_false h];exact(beq_eq_false_iff_ne.mpr e).symm
theorem y79(a b:Str):decide ((Sum.inr a:Key)=Sum.inr b)=decide (a=b):=by
 by_cases e:a=b
 ·subst e;simp
 ·have h:¬(Sum.inr a:Key)=Sum.inr b:=fun q=>e (Sum.inr.inj q)
  rw[decide_eq_false h,decide_eq_false e]
theorem y8a(a:Int)(b:Str):decide ((Sum.inl a:Key)=Sum.inr b)=false:=decide_eq_false (fun q=>nomatch q)
theorem y8b(a:Str)(b:Int):decide ((Sum.inr a:Key)=Sum.inl b)=false:=decide_eq_false (fun q=>nomatch q)
def mixKind(prog:Program)(w:World):PySem.KeyKind prog w Key where
 is:=keyIs
 hash:=keyH w
 inj:=fun v a b ha hb=>by
  rcases q1n ha with⟨i,t,rfl,rfl⟩|⟨x,t,rfl,rfl⟩
  ·rcases q1n hb with⟨j,u,rfl,e⟩|⟨y,u,rfl,e⟩
   ·injection e with e1 _;rw[e1]
   ·exact nomatch e
  ·rcases q1n hb with⟨j,u,rfl,e⟩|⟨y,u,rfl,e⟩
   ·exact nomatch e
   ·injection e with e1 _;rw[e1]
 byValue:=fun k v h=>by
  rcases q1n h with⟨i,t,rfl,rfl⟩|⟨x,t,rfl,rfl⟩<;>rfl
 pyHash:=fun hv h=>by
  rcases q1n hv with⟨i,t,rfl,rfl⟩|⟨x,t,rfl,rfl⟩
  ·exact wpAny_pyHash_int h
  ·exact wpAny_pyHash_str h
 eqBool:=fun hu hv h=>by
  rcases q1n hu with⟨i,t,rfl,rfl⟩|⟨x,t,rfl,rfl⟩
  ·rcases q1n hv with⟨j,u,rfl,rfl⟩|⟨y,u,rfl,rfl⟩
   ·rw[y78]at h;exact wpAny_eqBool_int h
   ·rw[y8a]at h;exact SeqAt.EqAt.int_str i t y u _ _ _ _ h
  ·rcases q1n hv with⟨j,u,rfl,rfl⟩|⟨y,u,rfl,rfl⟩
   ·rw[y8b]at h;exact SeqAt.EqAt.str_int x t j u _ _ _ _ h
   ·rw[y79]at h;exact wpAny_eqBool_str h
 «strs»:=fun k x t v h=>by
  rcases q1n h with⟨i,u,rfl,e⟩|⟨y,u,rfl,e⟩
  ·exact nomatch e
  ·injection e with e1 _
   subst e1;cases v<;>rfl
theorem x3w(prog:Program)(w:World)(i:Int)(t:Tok):(mixKind prog w).is (.inl i) (.int i t)=true:=x6h i t
theorem x3x(prog:Program)(w:World)(x:Str)(t:Tok):(mixKind prog w).is (.inr x) (.str x t)=true:=x6i x t
set_option genInjectivity true in
inductive V where
 |non|bl (b:Bool)|int (i:Int)|str (x:Str)|byt (b:Array UInt8)|flt (b:UInt64)|ref (a:Addr)|ty (n:String)
 deriving DecidableEq
variable{xs:List V}{v:V}
def RelV:V->Value->Prop
 |.non,u=>u=Value.none
 |.bl b,u=>u=Value.bool b
 |.int i,u=>∃t,u=Value.int i t
 |.str x,u=>∃t,u=Value.str x t
 |.byt b,u=>∃t,u=Value.bytes b t
 |.flt b,u=>∃t,u=Value.float b t
 |.ref a,u=>u=Value.ref a
 |.ty n,u=>u=Value.type n
abbrev Vals:List V->List Value->Prop:=Paired RelV
theorem Vals.length(r:Vals xs us):xs.length=us.length:=Paired.length r
theorem Vals.get:∀{xs:List V}{us:List Value}{i:Nat}{x:V},Vals xs us->xs[i]?=some x->∃u,us[i]?=some u/\RelV x u
 |_,_,_,_,.nil,e=>by simp at e
 |_,_,0,_,.cons r _,e=>by simp at e;subst e;exact⟨_,rfl,r⟩
 |_,_,i+1,x,.cons _ t,e=>by
  obtain⟨u,h1,h2⟩:=Vals.get (i:=i) (x:=x) t (by simpa using e);exact⟨u,by simpa using h1,h2⟩
theorem Vals.set{x:V}(r:RelV x u):∀{xs:List V}{us:List Value}(i:Nat),Vals xs us->Vals (xs.set i x) (us.set i u)
 |_,_,_,.nil=>.nil
 |_,_,0,.cons _ t=>.cons r t
 |_,_,i+1,.cons q t=>.cons q (Vals.set r i t)
theorem Vals.append:∀{xs ys:List V}{us ws:List Value},Vals xs us->Vals ys ws->Vals (xs++ys) (us++ws)
 |_,_,_,_,.nil,s=>s
 |_,_,_,_,.cons r t,s=>.cons r (Vals.append t s)
def RelO:Option V->Option Value->Prop
 |some v,some u=>RelV v u
 |none,none=>True
 |_,_=>False
def KV{κ:Type}:List (κ×V)->List (κ×Value)->Prop:=Paired fun(p:κ×V) (q:κ×Value)=>p.1=q.1/\RelV p.2 q.2
def kV:Key->V
 |.inl i=>.int i
 |.inr x=>.str x
inductive HO where
 /-- a list -/
 |lst (xs:List V)
 /-- a tuple (never changes) -/
 |tup (xs:List V)
 /-- a dict whose keys are ints and texts;one whose keys are tuples of ints and texts (the empty one is both) -/
 |dK (kvs:List (Key×V))|dT (sh:Sh) (kvs:List (Kx×V)) (kas:List Addr)
 /-- a set of ints: its members,its size -/
 |set (S:Int->Bool) (n:Nat)
 /-- an instance of the class at C,its dict at dx,its attributes -/
 |ins (C dx:Addr) (fs:List (Str×V))
 /-- the dict of the instance at x -/
 |own (x:Addr)
 /-- the dict of an exception -/
 |xd (fs:List (Str×V))
 /-- a bound method,f of x -/
 |met (f x:Addr)
 /-- a range object lo,lo+1,.. below hi -/
 |rng (lo hi:Int)
 /-- a thing that is known to the object (the script;a dict while a loop walks it): read,never written while it is so -/
 |frz (o:Obj) (u:HO)
 /-- a code object's table -/
 |tbl (ps:Array Value)
 /-- any other thing,by what is true of its one object (a def of one's own: SetO a S n:=HO.ext fun h=>..) -/
 |ext (φ:Heap->Prop)
noncomputable abbrev Hp:=Addr->Option HO
variable{H H':Hp}
def TupLike:HO->Prop
 |.tup _=>True
 |.frz _ (.tup _)=>True
 |.frz _ (.own _)=>True
 |_=>False
mutual
def KRep(H:Hp):Kx->V->Prop
 |.non,v=>v=.non
 |.bl b,v=>v=.bl b
 |.int i,v=>v=.int i
 |.str x,v=>v=.str x
 |.tup ks,v=>∃a xs,v=.ref a/\(H a=some (.tup xs)\/∃o,H a=some (.frz o (.tup xs)))/\KReps H ks xs
def KReps(H:Hp):List Kx->List V->Prop
 |[],vs=>vs=[]
 |k::ks,vs=>∃v r,vs=v::r/\KRep H k v/\KReps H ks r
end
mutual
theorem KRep.keeps{H H':Hp}(ht:∀b u,TupLike u->H b=some u->H' b=some u):∀(k:Kx){v:V},KRep H k v->KRep H' k v
 |.non,_,x=>x
 |.bl _,_,x=>x
 |.int _,_,x=>x
 |.str _,_,x=>x
 |.tup ks,_,x=>by
  obtain⟨a,xs,e,q,r⟩:=x;refine⟨a,xs,e,?_,KReps.keeps ht ks r⟩;rcases q with q|⟨o,q⟩
  ·exact .inl (ht _ _ True.intro q)
  ·exact .inr ⟨o,ht _ _ True.intro q⟩
theorem KReps.keeps{H H':Hp}(ht:∀b u,TupLike u->H b=some u->H' b=some u):∀(ks:List Kx){vs:List V},KReps H ks vs->KReps H' ks vs
 |[],_,x=>x
 |k::ks,_,x=>by
  obtain⟨v,r,e,h1,h2⟩:=x;exact⟨v,r,e,KRep.keeps ht k h1,KReps.keeps ht ks h2⟩
end
def upd(H:Hp)(a:Addr)(o:HO):Hp:=fun b=>if b=a then some o else H b
theorem q0f{o:HO}:upd H a o a=some o:=by unfold upd;rw[if_pos rfl]
theorem q0b{o:HO}(h:b≠a):upd H a o b=H b:=by unfold upd;rw[if_neg h]
theorem y4b{o u:HO}:upd (upd H a o) a u=upd H a u:=by
 funext b;unfold upd;split<;>rfl
theorem q0o{o u:HO}(h:H a=some o)(h':H b=some u)(d:o≠u):a≠b:=by
 intro e;subst e;rw[h]at h';exact d (Option.some.inj h')
theorem q0i{o:HO}(h:H a=some o)(h':H b=none):a≠b:=by
 intro e;subst e;rw[h]at h';cases h'
section
variable(P:Program)(w:World)
def BareT(h:Heap)(a:Addr):Prop:=∃o,h.get? a=some o/\o.dict=none
def ObjOk(H:Hp)(h:Heap)(a:Addr):HO->Prop
 |.lst xs=>xs.length<=sizeLine/\∃(its:List Value)(n:Nat),Vals xs its/\h.get? a=some {cls:=.type "list", data:=.seq its.toArray n}
 |.tup xs=>xs.length<=sizeLine/\∃its:List Value,Vals xs its/\IsTup h a its.toArray/\BareT h a
 |.dK kvs=>kvs.length<=sizeLine/\(a==sysModules)=false/\∃vs,KV kvs vs/\h.DictOf (mixKind P w) a vs
 |.dT sh kvs kas=>kvs.length<=sizeLine/\(a==sysModules)=false/\∃xs:List (Kx×Addr×Value),
   Paired (fun(p:Kx×V) (q:Kx×Addr×Value)=>p.1=q.1/\(KRep H p.1 (.ref q.2.1)/\Conf p.1 sh/\p.1.depth<=7)/\RelV p.2 q.2.2) kvs xs/\xs.map (·.2.1)=kas /\
   ∃o es ep,h.get? a=some o/\o.ExactDict/\o.data=.dict es ep/\es.toList=xs.map (entryOfKey (treeKind P w sh))/\(xs.map (·.1)).Nodup
 |.set S n=>h.SetOf (intKind P w) a S n
 |.ins C dx fs=>H dx=some (.own a)/\fs.length<=1000/\dx≠a/\h.get? a=some (PySem.W.instObj C dx) /\
   ∃mA,h.Ns1 dx mA/\(∀f,RelO (fs.lookup f) (mA f))/\PySem.Within mA (fs.map (·.1))
 |.own _=>∃o,h.get? a=some o
 |.xd fs=>∃mA,h.Ns1 a mA/\∀f,RelO (fs.lookup f) (mA f)
 |.rng lo hi=>∃t u v,h.get? a=some {cls:=.type "range", data:=.fields #[.int lo t,.int hi u,.int 1 v]}
 |.frz o u=>h.get? a=some o/\ObjOk H h a u
 |.tbl ps=>(∃(q:Str)(qs:Array Value),ps[0]?=some (.bool true)/\ps[1]?=some (.str q 0)/\h.get? a=some {cls:=.none,data:=.fields qs}/\TriplesOk qs.toList/\∀(pos:Pos)(cv:Value),codeAmong pos qs.toList=some cv ->
   ∃(c:Addr)(oc:Obj)(vs:Array Value)(t:Tok),cv=.ref c/\H c=some (.frz oc (.own 0))/\oc.data=.fields vs/\vs[1]?=some (.str q t)) \/
   ∃(q:Str)(c:Addr)(oc ob:Obj)(vs:Array Value)(t:Tok),ps[0]?=some (.bool false)/\ps[1]?=some (.str q 0)/\ps[2]?=some (.ref c)/\H c=some (.frz oc (.own 0))/\oc.data=.fields vs/\vs[1]?=some (.str q t)/\h.get? a=some ob
 |.met f x=>h.get? a=some (methodObj (.ref f) (.ref x))
 |.ext φ=>φ h/\(∃o,h.get? a=some o)/\∀h1 h2:Heap,φ h1->(∀o,h1.get? a=some o->h2.get? a=some o)->φ h2
def HOk(H:Hp)(h:Heap):Prop:=∀a o,H a=some o->ObjOk P w H h a o
end
section
variable{o:HO}
theorem ObjOk.lt(x:ObjOk P w H h a o):a<h.objs.size:=by
 cases o with
 |lst xs=>obtain⟨_,_,_,_,e⟩:=x;exact Heap.lt_size e
 |tup xs=>obtain⟨_,_,_,p,_⟩:=x;exact p.lt
 |dK kvs=>obtain⟨_,_,_,_,o,_,_,e,_⟩:=x;exact Heap.lt_size e
 |dT sh kvs kas=>obtain⟨_,_,_,_,_,o,_,_,e,_⟩:=x;exact Heap.lt_size e
 |set S n=>obtain⟨o,_,_,_,e,_⟩:=x;exact Heap.lt_size e
 |ins C dx fs=>obtain⟨_,_,_,e,_⟩:=x;exact Heap.lt_size e
 |own y=>obtain⟨_,e⟩:=x;exact Heap.lt_size e
 |xd fs=>obtain⟨_,⟨_,_,_,e,_⟩,_⟩:=x;exact Heap.lt_size e
 |rng lo hi=>obtain⟨_,_,_,e⟩:=x;exact Heap.lt_size e
 |frz ob u=>obtain⟨e,_⟩:=x;exact Heap.lt_size e
 |tbl ps=>rcases x with⟨_,_,_,_,e,_⟩|⟨_,_,_,_,_,_,_,_,_,_,_,_,e⟩<;>exact Heap.lt_size e
 |met f y=>exact Heap.lt_size (show h.get? a=some _ from x)
 |ext φ=>obtain⟨_,⟨_,e⟩,_⟩:=x;exact Heap.lt_size e
theorem Paired.mapP{α β:Type}{F G:α->β->Prop}:∀{l₁:List α}{l₂:List β},Paired F l₁ l₂->(∀a b,F a b->G a b)->Paired G l₁ l₂
 |_,_,.nil,_=>.nil
 |_,_,.cons r t,f=>.cons (f _ _ r) (Paired.mapP t f)
theorem ObjOk.stay(x:ObjOk P w H h a o)(k:∀b u,(b=a\/H b=some (.own a))->h.get? b=some u->h'.get? b=some u)
  (ho:∀b,H b=some (.own a)->H' b=some (.own a))(ht:∀b u,TupLike u->H b=some u->H' b=some u):ObjOk P w H' h' a o:=by
 induction o with
 |lst xs=>obtain⟨z,its,n,r,e⟩:=x;exact⟨z,its,n,r,k _ _ (.inl rfl) e⟩
 |tup xs=>obtain⟨z,its,r,⟨ob,e,c⟩,⟨o2,e2,c2⟩⟩:=x;exact⟨z,its,r,⟨ob,k _ _ (.inl rfl) e,c⟩,⟨o2,k _ _ (.inl rfl) e2,c2⟩⟩
 |dK kvs=>obtain⟨z,y,vs,r,ob,es,ep,e,c⟩:=x;exact⟨z,y,vs,r,ob,es,ep,k _ _ (.inl rfl) e,c⟩
 |dT sh kvs kas=>
  obtain⟨z,y,xs,r,ka,ob,es,ep,e,c⟩:=x;exact⟨z,y,xs,Paired.mapP r fun p q z=>⟨z.1,⟨KRep.keeps ht _ z.2.1.1,z.2.1.2⟩,z.2.2⟩,ka,ob,es,ep,k _ _ (.inl rfl) e,c⟩
 |set S n=>obtain⟨ob,es,ep,t,e,c⟩:=x;exact⟨ob,es,ep,t,k _ _ (.inl rfl) e,c⟩
 |ins C dx fs=>
  obtain⟨d,z,ne,e,mA,⟨od,es,ep,e2,c⟩,r⟩:=x;exact⟨ho _ d,z,ne,k _ _ (.inl rfl) e,mA,⟨od,es,ep,k _ _ (.inr d) e2,c⟩,r⟩
 |own y=>obtain⟨ob,e⟩:=x;exact⟨ob,k _ _ (.inl rfl) e⟩
 |xd fs=>obtain⟨mA,⟨od,es,ep,e,c⟩,r⟩:=x;exact⟨mA,⟨od,es,ep,k _ _ (.inl rfl) e,c⟩,r⟩
 |rng lo hi=>obtain⟨t,u,v,e⟩:=x;exact⟨t,u,v,k _ _ (.inl rfl) e⟩
 |frz ob u ih=>obtain⟨e,q⟩:=x;exact⟨k _ _ (.inl rfl) e,ih q⟩
 |tbl ps=>
  rcases x with⟨q,qs,p0,p1,e,tr,cd⟩|⟨q,c,oc,ob,vs,t,p0,p1,p2,h3,h4,h5,e⟩
  ·refine .inl ⟨q,qs,p0,p1,k _ _ (.inl rfl) e,tr,fun pos cv z=>?_⟩
   obtain⟨c,oc,vs,t,h1,h3,h4,h5⟩:=cd pos cv z;exact⟨c,oc,vs,t,h1,ht _ _ True.intro h3,h4,h5⟩
  ·exact .inr ⟨q,c,oc,ob,vs,t,p0,p1,p2,ht _ _ True.intro h3,h4,h5,k _ _ (.inl rfl) e⟩
 |met f y=>
  have e:h.get? a=some (methodObj (.ref f) (.ref y)):=x;show h'.get? a=some (methodObj (.ref f) (.ref y));exact k a _ (.inl rfl) e
 |ext φ=>obtain⟨p,⟨o,e⟩,st⟩:=x;exact⟨st _ _ p fun o q=>k _ _ (.inl rfl) q,⟨o,k _ _ (.inl rfl) e⟩,st⟩
theorem HOk.lt(x:HOk P w H h)(e:H a=some o):a<h.objs.size:=(x a o e).lt
theorem HOk.fresh(x:HOk P w H h)(e:h.objs.size<=a):H a=none:=by
 cases q:H a with
 |none=>rfl
 |some u=>exact absurd (w0w (x.lt q) e) (w2g _)
theorem HOk.kept(x:HOk P w H h)(k:∀b u,h.get? b=some u->h'.get? b=some u):HOk P w H h':=fun a o e=>
 (x a o e).stay (fun b u _ q=>k b u q) (fun _ q=>q) fun _ _ _ q=>q
theorem HOk.laid(x:HOk P w H h)(k:∀b u,h.get? b=some u->h'.get? b=some u)(hp:h.objs.size<=a)(new:ObjOk P w (upd H a o) h' a o):HOk P w (upd H a o) h':=fun b u e=>by
 have hn:=x.fresh hp
 by_cases hb:b=a
 ·subst hb;rw[q0f]at e;cases e;exact new
 ·rw[q0b hb]at e;exact(x b u e).stay (fun c v _ q=>k c v q) (fun c q=>by rw[q0b (q0i q hn)];exact q) fun c xs _ q=>by rw[q0b (q0i q hn)];exact q
end
def Rd(H:Hp)(a:Addr)(u:HO):Prop:=H a=some u\/∃o,H a=some (.frz o u)
theorem Rd.ok{u:HO}(r:Rd H a u)(x:HOk P w H h):ObjOk P w H h a u:=by
 rcases r with r|⟨o,r⟩
 ·exact x a u r
 ·obtain⟨_,q⟩:=x a _ r;exact q
def Mut:Option HO->Prop
 |some (.lst _)=>True
 |some (.dK _)=>True
 |some (.dT _ _ _)=>True
 |some (.set _ _)=>True
 |some (.ins _ _ _)=>True
 |some (.ext _)=>True
 |_=>False
section
variable{x e:Addr}{o':HO}
theorem HOk.write(ok:HOk P w H h)(mu:Mut (H x))(he:e=x\/H e=some (.own x))(k:∀b u,b≠e->h.get? b=some u->h'.get? b=some u)(heo:∃u,h'.get? e=some u)
  (new:ObjOk P w (upd H x o') h' x o'):HOk P w (upd H x o') h':=fun b u q=>by
 have nown:∀c y,H c=some (.own y)->c≠x:=fun c y r z=>by subst z;rw[r]at mu;exact mu
 have ntup:∀c u,TupLike u->H c=some u->c≠x:=fun c u t r z=>by
  subst z;rw[r]at mu;cases u<;>first|exact mu|exact t
 by_cases hb:b=x
 ·subst hb;rw[q0f]at q;cases q;exact new
 ·rw[q0b hb]at q
  by_cases hbe:b=e
  ·have q':H b=some (.own x):=by
    rcases he with z|z
    ·exact absurd (hbe.trans z) hb
    ·rw[hbe];exact z
   rw[q]at q';cases q';obtain⟨v,hv⟩:=heo;exact⟨v,by rw[hbe];exact hv⟩
  ·refine(ok b u q).stay (fun c v hc r=>k c v ?_ r) (fun c r=>by rw[q0b (nown c b r)];exact r) fun c xs t r=>by rw[q0b (ntup c xs t r)];exact r
   rcases hc with rfl|hc
   ·exact hbe
   ·rintro rfl;rcases he with z|z
    ·exact nown c b hc z
    ·rw[hc]at z;cases z;exact hb rfl
end
structure Un(fs ex:List Addr)(H H':Hp)(h h':Heap):Prop where
 keep:∀b o,h.get? b=some o->H b=none->b∉fs->b∉ex->h'.get? b=some o
 slot:∀b o,h.get? b=some o->H b=none->b∈fs->b∉ex->∃sl,h'.get? b=some {o with slots:=sl}
 free:∀b o,h.get? b=some o->H b=none->b∉ex->H' b=none
 there:∀b o,h.get? b=some o->b∉ex->∃o',h'.get? b=some o'
 tups:∀b xs,H b=some (.tup xs)->H' b=some (.tup xs)
 frzs:∀b o u,H b=some (.frz o u)->H' b=some (.frz o u)
 tbls:∀b ps,H b=some (.tbl ps)->∃more,H' b=some (.tbl (ps++more))
section
variable{fs fs' ex ex':List Addr}{H1 H2:Hp}{h1 h2:Heap}{x e:Addr}{o:HO}
theorem Un.any(u:Un fs ex H H1 h h1){ob:Obj}(q:h.get? b=some ob)(n:H b=none)(hx:b∉ex):∃sl,h1.get? b=some {ob with slots:=sl}:=by
 by_cases hb:b∈fs
 ·exact u.slot b ob q n hb hx
 ·exact⟨ob.slots,u.keep b ob q n hb hx⟩
theorem Un.kept(k:∀b u,h.get? b=some u->h'.get? b=some u):Un fs ex H H h h':=
 ⟨fun b ob q _ _ _=>k b ob q,fun b ob q _ _ _=>⟨ob.slots,k b ob q⟩,fun _ _ _ n _=>n,fun b ob q _=>⟨ob,k b ob q⟩,fun _ _ q=>q,fun _ _ _ q=>q,fun _ ps q=>⟨#[],by rw[q];simp⟩⟩
theorem Un.refl:Un fs ex H H h h:=Un.kept fun _ _ q=>q
theorem Un.laid(k:∀b u,h.get? b=some u->h'.get? b=some u)(hp:h.objs.size<=a)(hn:H a=none):Un fs ex H (upd H a o) h h' where
 keep:=fun b u q _ _ _=>k b u q
 slot:=fun b u q _ _ _=>⟨u.slots,k b u q⟩
 free:=fun b u q n _=>by rw[q0b (w0x (w0w (Heap.lt_size q) hp))];exact n
 there:=fun b u q _=>⟨u,k b u q⟩
 tups:=fun b xs q=>by rw[q0b (q0i q hn)];exact q
 frzs:=fun b u xs q=>by rw[q0b (q0i q hn)];exact q
 tbls:=fun b ps q=>⟨#[],by rw[q0b (q0i q hn),q];simp⟩
theorem Un.write(mu:Mut (H x))(he:e=x\/H e=some (.own x))(k:∀b u,b≠e->h.get? b=some u->h'.get? b=some u)(heo:∃u,h'.get? e=some u):Un fs ex H (upd H x o) h h':=by
 have hx:∀b,H b=none->b≠x:=fun b n z=>by subst z;rw[n]at mu;exact mu
 have hb:∀b,H b=none->b≠e:=fun b n z=>by
  subst z;rcases he with r|r
  ·exact hx b n r
  ·rw[n]at r;cases r
 have hm:∀b u,H b=some u->¬Mut (some u)->b≠x:=fun b u q nm z=>by subst z;rw[q]at mu;exact nm mu
 refine⟨fun b u q n _ _=>k b u (hb b n) q,fun b u q n _ _=>⟨u.slots,k b u (hb b n) q⟩,fun b u q n _=>by rw[q0b (hx b n)];exact n,fun b u q _=>?_,
  fun b xs q=>by rw[q0b (hm b _ q fun z=>z)];exact q,fun b u xs q=>by rw[q0b (hm b _ q fun z=>z)];exact q,fun b ps q=>⟨#[],by rw[q0b (hm b _ q fun z=>z),q];simp⟩⟩
 by_cases hbe:b=e
 ·subst hbe;exact heo
 ·exact⟨u,k b u hbe q⟩
end
def trk(h:Heap)(H:Hp):List Addr:=(List.range h.objs.size).filter fun a=>(H a).isSome
def hidT(h:Heap)(H:Hp):Heap:=PySem.W.hideAll h (trk h H)
theorem x0p(h:Heap)(H:Hp):(hidT h H).objs.size=h.objs.size:=PySem.W.hideAll_size _ _
theorem x1z{o:Obj}(e:h.get? b=some o)(n:H b=none):(hidT h H).get? b=some o:=
 PySem.W.hideAll_get _ e fun hm=>by
  have q:(H b).isSome=true:=(w2t.mp hm).2;rw[n]at q;simp at q
theorem x4f{o:Obj}(e:(hidT h H).get? b=some o):h.get? b=some o/\H b=none:=by
 have e':h.get? b=some o:=PySem.W.of_hideAll (trk h H) e;refine⟨e',?_⟩;cases q:H b with
 |none=>rfl
 |some x=>
  have hm:b∈trk h H:=w2t.mpr ⟨w0o.mpr (Heap.lt_size e'),by simp[q]⟩;have z:(hidT h H).get? b=none:=PySem.W.hideAll_none (trk h H) hm;rw[z]at e;cases e
def allNews(g h:Heap)(L:Addr):List (Addr×Obj):=(List.range h.objs.size).filterMap fun a=>if a=L\/(g.get? a).isSome=true then none else(h.get? a).map fun o=>(a,o)
def rest(g h:Heap)(L d:Addr):List (Addr×Obj):=(allNews g h L).filter fun p=>decide (p.1≠d)
structure Mod(K:Fg)(mg:Str->Option Value)(base:Heap):Prop where
 kin:K.In base
 glob:base.Ns mainGlobals mg
 blt:∃mb,base.Ns builtinsNs mb/\∀x:Str,x≠"__name__"->mb x=bootBuiltins x
 nolimit:base.NoLimit
structure Cx where
 prog:Program
 w:World
 K:Fg
 mg:Str->Option Value
 base:Heap
 A:Around
 N:List Str
 s₀:Shared
 H₀:Hp
 env:Env
 outer:List Env
 stack:List Env
 ex:List Addr
 fn:Str->Bool
 calm:Bool
 pn:List (Addr×Obj)
 xe:Value->Shared->Prop
variable{X:Cx}
def frs(l:List Env):List Addr:=l.filterMap (·.frame)
noncomputable abbrev Cx.fs(X:Cx):List Addr:=frs X.outer
def Vis(sc:Scope)(x:Str):Prop:=sc.names.lookup x=some .local\/sc.names.lookup x=some .cell\/sc.names.lookup x=some .free
def Loc(sc:Scope)(x:Str):Prop:=sc.names.lookup x=some .local\/sc.names.lookup x=some .cell
def Look(env:Env)(h:Heap)(m:Str->Option Value)(x:Str)(u:Value):Prop:=
 (env.kindOf x=some .local/\m x=some u)\/((env.kindOf x=some .cell\/env.kindOf x=some .free)/\∃c,env.cells.lookup x=some c/\h.IsCell c (some u))
noncomputable abbrev markO(P:Addr)(q:Str):Obj:={cls:=.str q 0,data:=.fields #[.ref P]}
def TabOk(K:Fg)(H:Hp):Prop:=∀(a:Addr)(q:Str)(P:Addr),(a,markO P q)∈K->∃ps:Array Value,H P=some (.tbl ps)/\ps[0]?=some (.bool true)/\ps[1]?=some (.str q 0)
def noMark(K:Fg):Bool:=K.all fun p=>match p.2.cls with
 |.str _ _=>false
 |_=>true
theorem TabOk.vac(h:noMark K=true):TabOk K H:=fun a q P m=>by
 have:=w0s.mp h _ m;cases this
theorem TabOk.un{fs ex:List Addr}{h':Heap}(t:TabOk K H)(u:Un fs ex H H' h h'):TabOk K H':=fun a q P m=>by
 obtain⟨ps,e,p0,p1⟩:=t a q P m;obtain⟨more,e'⟩:=u.tbls P ps e;refine⟨_,e',?_,?_⟩
 ·rw[w1s (by obtain⟨z,_⟩:=w2b.mp p0;exact z)];exact p0
 ·rw[w1s (by obtain⟨z,_⟩:=w2b.mp p1;exact z)];exact p1
theorem TabOk.laid{D:Addr}{o:HO}(t:TabOk K H)(hn:H D=none):TabOk K (upd H D o):=fun a q P m=>by
 obtain⟨ps,e,p⟩:=t a q P m;exact⟨ps,by rw[q0b (q0i e hn)];exact e,p⟩
structure Cx.Ok(X:Cx):Prop where
 mod:Mod X.K X.mg X.base
 kind:X.env.scope.kind=.function
 glob:X.env.globals=mainGlobals
 blt:X.env.builtins=builtinsNs
 above:X.s₀.heap.objs.size<=X.env.locals
 inj:∀x y c,X.env.cells.lookup x=some c->X.env.cells.lookup y=some c->x=y
 has:∀x,(X.env.kindOf x=some .cell\/X.env.kindOf x=some .free)->∃c,X.env.cells.lookup x=some c
 cab:∀x c,X.fn x=true->X.env.cells.lookup x=some c->X.s₀.heap.objs.size<=c
 hd:X.calm=true->X.A.handled=none
 frames:X.A.frames=some X.stack
 stk:X.stack=X.outer\/(X.stack=X.env::X.outer/\X.env.frame=some X.env.locals)
 exf:∀b∈X.ex,b≠X.env.locals/\∀x c,X.env.cells.lookup x=some c->c≠b
 bs:∀b o,X.base.get? b=some o->X.s₀.heap.get? b=some o/\X.H₀ b=none
 bsz:X.base.objs.size<=X.s₀.heap.objs.size
 noex:∀b o,X.base.get? b=some o->b∉X.ex
 exfs:∀b∈X.ex,b∉X.fs
 funs:X.s₀.heap.FunFrames X.base X.outer
 frf:∀b∈X.fs,X.H₀ b=none
 tab:TabOk X.K X.H₀
structure Inv(X:Cx)(pins:List (Addr×Obj))(σ:List (Option V))(H:Hp)(s:Shared):Prop where
 ok:X.Ok
 os:s.os=X.s₀.os
 bare:AllBare s.gens
 base:Un X.fs X.ex X.H₀ H X.s₀.heap s.heap
 loc:∃m,s.heap.Ns X.env.locals m/\∀(i:Nat)(x:Str)(v:V),X.N[i]?=some x->σ[i]?=some (some v)->Vis X.env.scope x->∃u,RelV v u/\Look X.env s.heap m x u
 cell:∀x c,X.env.cells.lookup x=some c->∃v,s.heap.IsCell c v
 free:H X.env.locals=none
 freeC:∀x c,X.env.cells.lookup x=some c->H c=none
 pin:∀p∈X.pn++pins,s.heap.get? p.1=some p.2/\H p.1=none/\p.1≠X.env.locals/\p.1∉X.fs/\∀v,p.2.data≠.cell v
 hok:HOk X.prog X.w H s.heap
 len:σ.length=X.N.length
section
variable{σ:List (Option V)}
theorem Cx.Ok.nofr(ok:X.Ok){o:Obj}(e:X.base.get? b=some o):b∉X.fs:=fun hb=>by
 have:=(ok.funs.mem hb).1
 rw[e]at this;cases this
theorem Inv.bs(I:Inv X pins σ H s):∀b o,X.base.get? b=some o->s.heap.get? b=some o/\H b=none:=fun b o e=>
 ⟨I.base.keep b o (I.ok.bs b o e).1 (I.ok.bs b o e).2 (I.ok.nofr e) (I.ok.noex b o e),I.base.free b o (I.ok.bs b o e).1 (I.ok.bs b o e).2 (I.ok.noex b o e)⟩
theorem Inv.bk(I:Inv X pins σ H s):∀b o,X.base.get? b=some o->s.heap.get? b=some o:=fun b o e=>(I.bs b o e).1
theorem Inv.mod(I:Inv X pins σ H s):Mod X.K X.mg X.base:=I.ok.mod
theorem Inv.kIn(I:Inv X pins σ H s):X.K.In s.heap:=I.ok.mod.kin.keeps I.bk
theorem Inv.fr(I:Inv X pins σ H s):∃m,Fr X.base X.env.locals s.heap m:=
 let ⟨m,hn,_⟩:=I.loc
 ⟨m,hn,I.bk,w1d I.ok.bsz I.ok.above⟩
theorem Inv.lt(I:Inv X pins σ H s):X.env.locals<s.heap.objs.size:=let ⟨_,hn,_⟩:=I.loc;hn.lt
theorem Inv.sz(I:Inv X pins σ H s):X.s₀.heap.objs.size<=s.heap.objs.size:=w1d I.ok.above (w4n I.lt)
theorem Inv.nofs(I:Inv X pins σ H s)(h:s.heap.objs.size<=a):a∉X.fs:=fun hb=>by
 obtain⟨_,o,ho,_⟩:=I.ok.funs.mem hb
 exact absurd (w0w (Heap.lt_size ho) (w1d I.sz h)) (w2g _)
theorem Inv.cne(I:Inv X pins σ H s):∀x c,X.env.cells.lookup x=some c->c≠X.env.locals:=fun x c e z=>by
 obtain⟨v,o,ho,hd⟩:=I.cell x c e;obtain⟨m,⟨o',es,ep,ho',hd',_⟩,_⟩:=I.loc;rw[z,ho']at ho;cases ho;rw[hd']at hd;cases hd
theorem Inv.funs(I:Inv X pins σ H s):s.heap.FunFrames X.base X.outer:=by
 have all:∀(l:List Env),(∀b∈frs l,b∈X.fs)->X.s₀.heap.FunFrames X.base l->s.heap.FunFrames X.base l:=by
  intro l
  induction l with
  |nil=>intro _ _;trivial
  |cons env r ih=>
   intro hs hl;obtain⟨hk,⟨L,o,hf,hn,ho,hd⟩,hr⟩:=hl;have hL:L∈X.fs:=hs L (by unfold frs;rw[w3i,hf];exact w1f);obtain⟨sl,e⟩:=I.base.slot L o ho (I.ok.frf L hL) hL fun z=>I.ok.exfs L z hL
   exact⟨hk,⟨L,_,hf,hn,e,hd⟩,ih (fun b hb=>hs b (by unfold frs;rw[w3i,hf];exact w0t _ hb)) hr⟩
 exact all X.outer (fun _ hb=>hb) I.ok.funs
theorem Inv.stack(I:Inv X pins σ H s):s.heap.FunFrames X.base X.stack:=by
 rcases I.ok.stk with e|⟨e,hf⟩
 ·rw[e];exact I.funs
 ·rw[e];obtain⟨m,hn,_⟩:=I.loc;refine .cons (by rw[I.ok.kind];decide) hf hn ?_ I.funs
  exact Heap.get?_none_of_le (w1d I.ok.bsz I.ok.above)
theorem Inv.stkSub(I:Inv X pins σ H s):∀b∈frs X.stack,b∈X.env.locals::X.fs:=fun b hb=>by
 rcases I.ok.stk with e|⟨e,hf⟩
 ·rw[e]at hb;exact w0t _ hb
 ·rw[e]at hb;unfold frs at hb;rw[w3i,hf]at hb;exact hb
theorem Inv.stkFree(I:Inv X pins σ H s):∀b∈frs X.stack,H b=none:=fun b hb=>by
 rcases w0h.mp (I.stkSub b hb)with e|hb
 ·rw[e];exact I.free
 ·obtain⟨_,o,ho,_⟩:=I.ok.funs.mem hb
  exact I.base.free b o ho (I.ok.frf b hb) fun z=>I.ok.exfs b z hb
theorem Inv.step{g':Array GenState}{d':Drawn}{ch:List Addr}(I:Inv X pins σ H s)
  (hch:∀b∈ch,(b∈X.ex\/X.s₀.heap.objs.size<=b)/\b≠X.env.locals/\(∀x c,X.env.cells.lookup x=some c->c≠b)/\∀p∈X.pn++pins,p.1≠b)
  (keep:∀b o,b≠X.env.locals->b∉X.fs->b∉ch->s.heap.get? b=some o->H b=none->h'.get? b=some o)
  (slot:∀b o,b≠X.env.locals->b∈X.fs->b∉ch->s.heap.get? b=some o->H b=none->∃sl,h'.get? b=some {o with slots:=sl})(free:∀b o,b∉ch->s.heap.get? b=some o->H b=none->H' b=none)
  (there:∀b o,b∉ch->s.heap.get? b=some o->∃o',h'.get? b=some o')
  (tups:∀b xs,H b=some (.tup xs)->H' b=some (.tup xs))(frzs:∀b o u,H b=some (.frz o u)->H' b=some (.frz o u))(tbls:∀b ps,H b=some (.tbl ps)->∃more,H' b=some (.tbl (ps++more)))
  (ns:∀m,s.heap.Ns X.env.locals m->h'.Ns X.env.locals m)(hok:HOk X.prog X.w H' h')(hg:AllBare g'):
  Inv X pins σ H' {s with heap:=h',gens:=g',drawn:=d',toks:=t'}:=by
 have neL:∀b o,X.s₀.heap.get? b=some o->b≠X.env.locals:=fun b o e=>w0x (w0w (Heap.lt_size e) I.ok.above)
 have neC:∀b o,X.s₀.heap.get? b=some o->b∉X.ex->b∉ch:=fun b o e hx hb=>by
  rcases(hch b hb).1 with z|z
  ·exact hx z
  ·exact absurd (w0w (Heap.lt_size e) z) (w2g _)
 have cellK:∀x c,X.env.cells.lookup x=some c->∀v,s.heap.IsCell c v->h'.IsCell c v:=fun x c e v ⟨o,ho,hd⟩=>by
  have nch:c∉ch:=fun z=>(hch c z).2.2.1 x c e rfl
  by_cases hc:c∈X.fs
  ·obtain⟨sl,q⟩:=slot c o (I.cne x c e) hc nch ho (I.freeC x c e);exact⟨_,q,hd⟩
  ·exact⟨o,keep c o (I.cne x c e) hc nch ho (I.freeC x c e),hd⟩
 refine⟨I.ok,I.os,hg,⟨fun b o e n hb hx=>?_,fun b o e n hb hx=>?_,fun b o e n hx=>?_,fun b o e hx=>?_,fun b xs e=>tups b xs (I.base.tups b xs e),fun b o xs e=>frzs b o xs (I.base.frzs b o xs e),fun b ps e=>?_⟩,?_,fun x c e=>?_,?_,fun x c e=>?_,fun p hp=>?_,hok,I.len⟩
 ·exact keep b o (neL b o e) hb (neC b o e hx) (I.base.keep b o e n hb hx) (I.base.free b o e n hx)
 ·obtain⟨sl,e1⟩:=I.base.slot b o e n hb hx;obtain⟨sl',e2⟩:=slot b _ (neL b o e) hb (neC b o e hx) e1 (I.base.free b o e n hx);exact⟨sl',e2⟩
 ·obtain⟨o',e1⟩:=I.base.there b o e hx;exact free b o' (neC b o e hx) e1 (I.base.free b o e n hx)
 ·obtain⟨o',e1⟩:=I.base.there b o e hx;exact there b o' (neC b o e hx) e1
 ·obtain⟨m1,e1⟩:=I.base.tbls b ps e;obtain⟨m2,e2⟩:=tbls b _ e1;exact⟨m1++m2,by rw[e2,Array.append_assoc]⟩
 ·obtain⟨m,hn,hl⟩:=I.loc;refine⟨m,ns m hn,fun i x v e1 e2 e3=>?_⟩
  obtain⟨u,r,l⟩:=hl i x v e1 e2 e3;refine⟨u,r,?_⟩;rcases l with l|⟨k,c,e,z⟩
  ·exact .inl l
  ·exact .inr ⟨k,c,e,cellK x c e _ z⟩
 ·obtain⟨v,z⟩:=I.cell x c e;exact⟨v,cellK x c e v z⟩
 ·obtain⟨m,⟨o,_,_,ho,_⟩,_⟩:=I.loc;exact free _ o (fun z=>(hch _ z).2.1 rfl) ho I.free
 ·obtain⟨v,o,ho,hd⟩:=I.cell x c e;exact free c o (fun z=>(hch c z).2.2.1 x c e rfl) ho (I.freeC x c e)
 ·obtain⟨e,n,ne,nf,d⟩:=I.pin p hp;have nch:p.1∉ch:=fun z=>(hch p.1 z).2.2.2 p hp rfl
  exact⟨keep p.1 p.2 ne nf nch e n,free p.1 p.2 nch e n,ne,nf,d⟩
theorem Inv.un(I:Inv X pins σ H s)(u:Un X.fs [] H H' s.heap h')(hok:HOk X.prog X.w H' h'):Inv X pins σ H' {s with heap:=h',toks:=t'}:=by
 obtain⟨m,⟨o,es,ep,ho,r⟩,_⟩:=id I.loc;obtain⟨sl,hL⟩:=u.any ho I.free (by simp)
 exact I.step (g':=s.gens) (d':=s.drawn) (ch:=[]) (fun _ z=>nomatch z) (fun b o _ hb _ e n=>u.keep b o e n hb (by simp)) (fun b o _ hb _ e n=>u.slot b o e n hb (by simp)) (fun b o _ e n=>u.free b o e n (by simp)) (fun b o _ e=>u.there b o e (by simp)) u.tups u.frzs u.tbls (fun m' hm=>by
  obtain⟨o',es',ep',ho',r'⟩:=hm;rw[ho]at ho';cases ho';exact⟨_,es',ep',hL,r'⟩) hok I.bare
theorem Inv.call{g':Array GenState}{d':Drawn}(I:Inv X pins σ H s)(u:Un (frs X.stack) ch H H' s.heap h')(hok:HOk X.prog X.w H' h')(hg:AllBare g')
  (hch:∀b∈ch,(b∈X.ex\/X.s₀.heap.objs.size<=b)/\b≠X.env.locals/\(∀x c,X.env.cells.lookup x=some c->c≠b)/\∀p∈X.pn++pins,p.1≠b):
  Inv X pins σ H' {s with heap:=h',gens:=g',drawn:=d',toks:=t'}:=by
 obtain⟨m,⟨o,es,ep,ho,r⟩,_⟩:=id I.loc;obtain⟨sl,hL⟩:=u.any ho I.free fun z=>(hch _ z).2.1 rfl
 exact I.step (ch:=ch) hch (fun b o hL hb hc e n=>u.keep b o e n (fun z=>(w0h.mp (I.stkSub b z)).elim hL hb) hc) (fun b o _ _ hc e n=>u.any e n hc) (fun b o hc e n=>u.free b o e n hc) (fun b o hc e=>u.there b o e hc) u.tups u.frzs u.tbls (fun m' hm=>by
  obtain⟨o',es',ep',ho',r'⟩:=hm;rw[ho]at ho';cases ho';exact⟨_,es',ep',hL,r'⟩) hok hg
theorem Inv.turned{t':Nat}{it:Addr}(I:Inv X pins σ H s)(k:∀b o,b≠it->s.heap.get? b=some o->h'.get? b=some o)(hn:H it=none)(hL:it≠X.env.locals)
  (h1:it∈X.ex\/X.s₀.heap.objs.size<=it)(h2:∀x c,X.env.cells.lookup x=some c->c≠it)(h3:∀p∈X.pn++pins,p.1≠it):Inv X pins σ H {s with heap:=h',toks:=t'}:=by
 have nit:∀b u,H b=some u->b≠it:=fun b u e z=>by rw[z,hn]at e;cases e
 refine I.step (g':=s.gens) (d':=s.drawn) (ch:=[it]) (fun b hb=>?_) (fun b o _ _ hc e _=>k b o (fun z=>hc (by simp[z])) e) (fun b o _ _ hc e _=>⟨o.slots,k b o (fun z=>hc (by simp[z])) e⟩) (fun _ _ _ _ n=>n)
  (fun b o hc e=>⟨o,k b o (fun z=>hc (by simp[z])) e⟩) (fun _ _ e=>e) (fun _ _ _ e=>e) (fun b ps e=>⟨#[],by rw[e];simp⟩) (fun m hm=>?_) (fun b u e=>?_) I.bare
 ·have e:b=it:=by simpa using hb
  subst e;exact⟨h1,hL,h2,h3⟩
 ·obtain⟨o,es,ep,ho,r⟩:=hm;exact⟨o,es,ep,k _ o (Ne.symm hL) ho,r⟩
 ·refine(I.hok b u e).stay (fun c v hc q=>k c v ?_ q) (fun _ q=>q) fun _ _ _ q=>q
  rcases hc with z|z
  ·rw[z];exact nit b u e
  ·exact nit c _ z
theorem Inv.tok(I:Inv X pins σ H s)(t:Nat):Inv X pins σ H {s with toks:=t}:=I.un (h':=s.heap) (t':=t) Un.refl I.hok
theorem Inv.kept{t':Nat}(I:Inv X pins σ H s)(k:∀b u,s.heap.get? b=some u->h'.get? b=some u):Inv X pins σ H {s with heap:=h',toks:=t'}:=I.un (Un.kept k) (I.hok.kept k)
theorem Inv.laid{a:Addr}{o:HO}{t':Nat}(I:Inv X pins σ H s)(k:∀b u,s.heap.get? b=some u->h'.get? b=some u)(hp:s.heap.objs.size<=a)(new:ObjOk X.prog X.w (upd H a o) h' a o):
  Inv X pins σ (upd H a o) {s with heap:=h',toks:=t'}:=I.un (Un.laid k hp (I.hok.fresh hp)) (I.hok.laid k hp new)
theorem Inv.write{x e:Addr}{o:HO}(I:Inv X pins σ H s)(mu:Mut (H x))(he:e=x\/H e=some (.own x))(k:∀b u,b≠e->s.heap.get? b=some u->h'.get? b=some u)(heo:∃u,h'.get? e=some u)
  (new:ObjOk X.prog X.w (upd H x o) h' x o):Inv X pins σ (upd H x o) {s with heap:=h',toks:=t'}:=I.un (Un.write mu he k heo) (I.hok.write mu he k heo new)
theorem Inv.weak{σ':List (Option V)}(I:Inv X pins σ H s)(hl:σ'.length=σ.length)(w:∀(i:Nat) v,σ'[i]?=some (some v)->σ[i]?=some (some v)):Inv X pins σ' H s:=
 ⟨I.ok,I.os,I.bare,I.base,let ⟨m,hn,hl'⟩:=I.loc;⟨m,hn,fun i x v e1 e2 e3=>hl' i x v e1 (w i v e2) e3⟩,I.cell,I.free,I.freeC,I.pin,I.hok,hl.trans I.len⟩
theorem Inv.pins_of{pins':List (Addr×Obj)}(I:Inv X pins σ H s)(h:∀p∈pins',s.heap.get? p.1=some p.2/\H p.1=none/\p.1≠X.env.locals/\p.1∉X.fs/\∀v,p.2.data≠.cell v):Inv X pins' σ H s:=
 ⟨I.ok,I.os,I.bare,I.base,I.loc,I.cell,I.free,I.freeC,fun p hp=>(w1p.mp hp).elim (fun z=>I.pin p (w1m _ z)) (h p),I.hok,I.len⟩
theorem x10(hN:N.Nodup){j:Nat}(a:N[i]?=some x)(b:N[j]?=some x):i=j:=by
 obtain⟨h1,e1⟩:=w0b.mp a;obtain⟨h2,e2⟩:=w0b.mp b;exact(List.getElem_inj hN).mp (e1.trans e2.symm)
theorem x6j{M:Model}{Q:Unit->Shared->Prop}(I:Inv X pins σ H s)(hN:X.N.Nodup)(hi:X.N[i]?=some x)(hx:Loc X.env.scope x)(r:RelV v u)
  (h:∀s',Inv X pins (σ.set i (some v)) H s'->(∃a,Heap.SameBut a s.heap s'.heap/\(a=X.env.locals\/X.env.cells.lookup x=some a))->Q () s')(hf:X.fn x=true\/X.env.scope.names.lookup x=some .local:=by walk_at "2"):wpAny M A (storeName X.env x u) Q E s:=by
 obtain⟨m,hn,hl⟩:=id I.loc;have hcls:(X.env.scope.kind==.class||(X.env.scope.kind==.module&&X.env.locals != X.env.globals))=false:=by rw[I.ok.kind];rfl
 have hiσ:i<σ.length:=by rw[I.len];exact(w0b.mp hi).1
 have cne:=I.cne
 have tracked:∀{a:Addr}{h':Heap},(∃o,s.heap.get? a=some o/\H a=none)->Heap.SameBut a s.heap h'->HOk X.prog X.w H h':=fun {a h'} ha hs b ob e=>by
  obtain⟨_,_,hfree⟩:=ha;refine(I.hok b ob e).stay (fun c w' hc q=>(hs.2 c ?_).trans q) (fun _ q=>q) fun _ _ _ q=>q
  rintro rfl;rcases hc with rfl|hc
  ·rw[hfree]at e;cases e
  ·rw[hfree]at hc;cases hc
 rcases hx with hk|hk
 ·refine wpAny_storeName_local hk hn (fun h' hn' hs=>?_) hcls
  obtain⟨oL,_,_,hoL,_⟩:=id hn;refine h _ ⟨I.ok,I.os,I.bare,⟨fun b o e n hb hx=>?_,fun b o e n hb hx=>?_,I.base.free,fun b o e hx=>?_,I.base.tups,I.base.frzs,I.base.tbls⟩,⟨_,hn',fun j y v' e1 e2 e3=>?_⟩,fun y c e=>?_,I.free,I.freeC,fun p hp=>?_,tracked ⟨oL,hoL,I.free⟩ hs,by simpa using I.len⟩ ⟨_,hs,.inl rfl⟩
  ·exact(hs.2 b (w0x (w0w (Heap.lt_size e) I.ok.above))).trans (I.base.keep b o e n hb hx)
  ·obtain⟨sl,e1⟩:=I.base.slot b o e n hb hx;exact⟨sl,(hs.2 b (w0x (w0w (Heap.lt_size e) I.ok.above))).trans e1⟩
  ·obtain⟨o',e1⟩:=I.base.there b o e hx;exact⟨o',(hs.2 b (w0x (w0w (Heap.lt_size e) I.ok.above))).trans e1⟩
  ·by_cases hj:j=i
   ·subst hj;rw[hi]at e1;cases e1;rw[w0g hiσ]at e2;cases e2;exact⟨u,r,.inl ⟨hk,by simp⟩⟩
   ·rw[w0f (Ne.symm hj)]at e2;obtain⟨u',r',q⟩:=hl j y v' e1 e2 e3;refine⟨u',r',?_⟩;rcases q with⟨k,e⟩|⟨k,c,e,z⟩
    ·refine .inl ⟨k,?_⟩;have:y≠x:=fun e=>hj (x10 hN e1 (e ▸ hi))
     simp[this,e]
    ·exact .inr ⟨k,c,e,z.sameBut hs (cne y c e)⟩
  ·obtain⟨w',z⟩:=I.cell y c e;exact⟨w',z.sameBut hs (cne y c e)⟩
  ·obtain⟨e,n,ne,nf,d⟩:=I.pin p hp;exact⟨(hs.2 p.1 ne).trans e,n,ne,nf,d⟩
 ·have hfn:X.fn x=true:=by
   rcases hf with z|z
   ·exact z
   ·rw[z]at hk;cases hk
  obtain⟨c,hc⟩:=I.ok.has x (.inl hk);obtain⟨w',z⟩:=I.cell x c hc;refine wpAny_storeName_cell I.ok.kind hk hc z (fun h' hc' hs=>?_)
  obtain⟨oc,hoc,hocd⟩:=id z;refine h {s with heap:=h'} ⟨I.ok,I.os,I.bare,⟨fun b o e n hb hx=>?_,fun b o e n hb hx=>?_,I.base.free,fun b o e hx=>?_,I.base.tups,I.base.frzs,I.base.tbls⟩,⟨m,hn.sameBut hs (Ne.symm (cne x c hc)),fun j y v' e1 e2 e3=>?_⟩,fun y c' e=>?_,I.free,I.freeC,fun p hp=>?_,tracked ⟨oc,hoc,I.freeC x c hc⟩ hs,by simpa using I.len⟩ ⟨c,hs,.inr hc⟩
  ·exact(hs.2 b (w0x (w0w (Heap.lt_size e) (I.ok.cab x c hfn hc)))).trans (I.base.keep b o e n hb hx)
  ·obtain⟨sl,e1⟩:=I.base.slot b o e n hb hx;exact⟨sl,(hs.2 b (w0x (w0w (Heap.lt_size e) (I.ok.cab x c hfn hc)))).trans e1⟩
  ·obtain⟨o',e1⟩:=I.base.there b o e hx;exact⟨o',(hs.2 b (w0x (w0w (Heap.lt_size e) (I.ok.cab x c hfn hc)))).trans e1⟩
  ·by_cases hj:j=i
   ·subst hj;rw[hi]at e1;cases e1;rw[w0g hiσ]at e2;cases e2;exact⟨u,r,.inr ⟨.inl hk,c,hc,hc'⟩⟩
   ·rw[w0f (Ne.symm hj)]at e2;obtain⟨u',r',q⟩:=hl j y v' e1 e2 e3;refine⟨u',r',?_⟩;rcases q with q|⟨k,c',e,z'⟩
    ·exact .inl q
    ·refine .inr ⟨k,c',e,z'.sameBut hs ?_⟩;rintro rfl;exact hj (x10 hN e1 (I.ok.inj _ _ _ e hc ▸ hi))
  ·by_cases hcc:c'=c
   ·subst hcc;exact⟨_,hc'⟩
   ·obtain⟨w2,z2⟩:=I.cell y c' e;exact⟨w2,z2.sameBut hs hcc⟩
  ·obtain⟨e,n,ne,nf,d⟩:=I.pin p hp;refine⟨(hs.2 p.1 ?_).trans e,n,ne,nf,d⟩;intro q;rw[q,hoc]at e;have q':oc=p.2:=Option.some.inj e;exact d w' (by rw[<- q'];exact hocd)
theorem x11{M:Model}{Q:Unit->Shared->Prop}(I:Inv X pins σ H s)(hN:X.N.Nodup)(hi:X.N[i]?=some x)(hx:Loc X.env.scope x)(r:RelV v u)
  (h:∀s',Inv X pins (σ.set i (some v)) H s'->Q () s')(hf:X.fn x=true\/X.env.scope.names.lookup x=some .local:=by walk_at "2"):wpAny M A (storeName X.env x u) Q E s:=
 x6j I hN hi hx r (fun s' I' _=>h s' I') hf
theorem Inv.call'{s':Shared}{ch:List Addr}(I:Inv X pins σ H s)(ho:s'.os=s.os)(u:Un (frs X.stack) ch H H' s.heap s'.heap)(hok:HOk X.prog X.w H' s'.heap)(hg:AllBare s'.gens)
  (hch:∀b∈ch,(b∈X.ex\/X.s₀.heap.objs.size<=b)/\b≠X.env.locals/\(∀x c,X.env.cells.lookup x=some c->c≠b)/\∀p∈X.pn++pins,p.1≠b):Inv X pins σ H' s':=by
 obtain⟨h',g',d',t',o'⟩:=s';have e:o'=s.os:=ho;subst e;exact I.call (g':=g') (t':=t') (d':=d') u hok hg hch
end
abbrev XK:=Value->Option Addr->Hp->Prop
noncomputable abbrev St:=List (Option V)
variable{σ:St}
abbrev VK:=V->Hp->Prop
abbrev TE:=St->Hp->VK->Prop
variable{ta te:TE}
abbrev TT:=St->Hp->(Bool->Hp->Prop)->Prop
abbrev TA:=St->Hp->(List V->Hp->Prop)->Prop
structure Ends where
 nx:St->Hp->Prop
 rt:VK
 bk:St->Hp->Prop:=fun _ _=>False
 ct:St->Hp->Prop:=fun _ _=>False
abbrev TS:=Ends->St->Hp->Prop
variable{tb:TS}
def EP(X:Cx)(pins:List (Addr×Obj))(σ:St)(Q:VK)(u:Value)(s':Shared):Prop:=∃v H',Inv X pins σ H' s'/\RelV v u/\Q v H'
def TP(X:Cx)(pins:List (Addr×Obj))(σ:St)(Q:Bool->Hp->Prop)(b:Bool)(s':Shared):Prop:=∃H',Inv X pins σ H' s'/\Q b H'
def AP(X:Cx)(pins:List (Addr×Obj))(σ:St)(Q:List V->Hp->Prop)(us:List Value)(s':Shared):Prop:=∃vs H',Inv X pins σ H' s'/\Vals vs us/\Q vs H'
def SP(X:Cx)(pins:List (Addr×Obj))(D:Ends)(f:Flow)(s':Shared):Prop:=
 match f with
 |.next=>∃σ' H',Inv X pins σ' H' s'/\D.nx σ' H'
 |.brk=>∃σ' H',Inv X pins σ' H' s'/\D.bk σ' H'
 |.cont=>∃σ' H',Inv X pins σ' H' s'/\D.ct σ' H'
 |.ret u=>∃v σ' H',Inv X pins σ' H' s'/\RelV v u/\D.rt v H'
def PE(X:Cx)(e:Expr)(t:TE):Prop:=
 ∀(pins:List (Addr×Obj))(s:Shared)(σ:St)(H:Hp)(Q:VK),Inv X pins σ H s->t σ H Q->wpAny (model X.prog X.w) X.A (eval e X.env) (EP X pins σ Q) X.xe s
def PT(X:Cx)(e:Expr)(t:TT):Prop:=
 ∀(pins:List (Addr×Obj))(s:Shared)(σ:St)(H:Hp)(Q:Bool->Hp->Prop),Inv X pins σ H s->t σ H Q->wpAny (model X.prog X.w) X.A (isTrue e X.env (eval e X.env)) (TP X pins σ Q) X.xe s
def PW(X:Cx)(e:Expr)(t:TT):Prop:=
 ∀(whole:Sem Value)(pins:List (Addr×Obj))(s:Shared)(σ:St)(H:Hp)(Q:Bool->Hp->Prop),Inv X pins σ H s->t σ H Q->wpAny (model X.prog X.w) X.A (isTrue e X.env whole) (TP X pins σ Q) X.xe s
theorem PW.pt{t:TT}(h:PW X e t):PT X e t:=h _
def PA(X:Cx)(es:List Expr)(t:TA):Prop:=
 ∀(pos:Pos)(pins:List (Addr×Obj))(s:Shared)(σ:St)(H:Hp)(Q:List V->Hp->Prop),Inv X pins σ H s->t σ H Q->wpAny (model X.prog X.w) X.A (spliced (backTo pos (starEach es X.env))) (AP X pins σ Q) X.xe s
def PS(X:Cx)(st:Stmt)(t:TS):Prop:=
 ∀(pins:List (Addr×Obj))(s:Shared)(σ:St)(H:Hp)(D:Ends),Inv X pins σ H s->t D σ H->wpAny (model X.prog X.w) X.A (exec st X.env) (SP X pins D) X.xe s
def PSs(X:Cx)(st:List Stmt)(t:TS):Prop:=
 ∀(pins:List (Addr×Obj))(s:Shared)(σ:St)(H:Hp)(D:Ends),Inv X pins σ H s->t D σ H->wpAny (model X.prog X.w) X.A (execs st X.env) (SP X pins D) X.xe s
theorem thn{α:Type}{t:Sem α}{Q Q':α->Shared->Prop}{M:Model}(h:wpAny M A t Q E s)(hQ:∀a s,Q a s->Q' a s):wpAny M A t Q' E s:=wpAny_mono h hQ fun _ _ x=>x
section
def tVar(i:Nat):TE:=fun σ H Q=>∃v,σ[i]?=some (some v)/\Q v H
def tC(v:V):TE:=fun _ H Q=>Q v H
theorem y8c(hN:X.N[i]?=some x)(hv:Vis X.env.scope x)(hd:(x==("__debug__":Str))=false:=by decide)(hcd:(x==("__classdict__":Str))=false:=by decide):PE X (.Name x pos) (tVar i):=by
 intro pins s σ H Q I h;obtain⟨v,e,h⟩:=h;obtain⟨m,hn,hl⟩:=I.loc;obtain⟨u,r,l⟩:=hl i x v hN e hv;have fin:EP X pins σ Q u s:=⟨v,H,I,r,h⟩;rcases l with⟨hk,hm⟩|⟨hk,c,hc,hcell⟩
 ·exact wpAny_Name (wpAny_loadName_local I.ok.kind hk hn hm fin) hd
 ·rcases hk with hk|hk
  ·exact wpAny_Name (wpAny_loadName_cell I.ok.kind hk hc hcell fin) hd
  ·exact wpAny_Name (wpAny_loadName_free I.ok.kind hk hc hcell fin hcd) hd
theorem q8x{i j pos}:PE X (.Constant (.int i) j pos) (tC (.int i)):=fun _ _ _ H _ I h=>wpAny_Constant_int ⟨.int i,H,I.tok _,⟨_,rfl⟩,h⟩
theorem z2g{b j pos}:PE X (.Constant (.bool b) j pos) (tC (.bl b)):=fun _ _ _ H _ I h=>Constant_bool ⟨.bl b,H,I,rfl,h⟩
theorem y8d{j pos}:PE X (.Constant .none j pos) (tC .non):=fun _ _ _ H _ I h=>Constant_none ⟨.non,H,I,rfl,h⟩
def Gl(X:Cx)(x:Str):Prop:=X.env.kindOf x=some .globalImplicit
theorem x4g{Q:Value->Shared->Prop}(I:Inv X pins σ H s)(hg:Gl X x)(hm:X.mg x=some u)(h:Q u s)
  (hd:(x==("__debug__":Str))=false:=by decide):wpAny (model X.prog X.w) X.A (eval (.Name x pos) X.env) Q E s:=
 Calls.Name_function_global I.ok.kind hg (Calls.loadGlobal_global (by rw[I.ok.glob];exact I.mod.glob.keeps I.bk) hm h) hd
theorem q43{Q:Value->Shared->Prop}(I:Inv X pins σ H s)(hg:Gl X x)(hm:X.mg x=none)(hv:bootBuiltins x=some u)(h:Q u s)
  (hn:x≠"__name__":=by decide)(hd:(x==("__debug__":Str))=false:=by decide):wpAny (model X.prog X.w) X.A (eval (.Name x pos) X.env) Q E s:=by
 obtain⟨mb,h1,h2⟩:=I.mod.blt;exact Calls.Name_function_global I.ok.kind hg (Calls.loadGlobal_builtin (by rw[I.ok.glob];exact I.mod.glob.keeps I.bk) hm (by rw[I.ok.blt];exact h1.keeps I.bk) ((h2 x hn).trans hv) h) hd
variable{a b:Expr}{tb:TE}
def PC(X:Cx)(op:CmpOp)(a b:Expr)(t:TE):Prop:=
 ∀(pins:List (Addr×Obj))(s:Shared)(σ:St)(H:Hp)(Q:VK),Inv X pins σ H s->t σ H Q ->
  wpAny (model X.prog X.w) X.A (eval a X.env) (fun v s₁=>wpAny (model X.prog X.w) X.A (eval b X.env) (fun u s₂=>wpAny (model X.prog X.w) X.A (compareOp op v u) (EP X pins σ Q) X.xe s₂) X.xe s₁) X.xe s
theorem nobehind(b:Expr)(h:op≠.In)(h2:op≠.NotIn):behindInMarks op b=false:=by
 have e1:(op==CmpOp.In)=false:=by cases op<;>first|rfl|exact absurd rfl h
 have e2:(op==CmpOp.NotIn)=false:=by cases op<;>first|rfl|exact absurd rfl h2
 cases b<;>simp[behindInMarks,e1,e2]
def tB(t:TE):TT:=fun σ H Q=>t σ H fun x H1=>∃c,x=.bl c/\Q c H1
theorem x6k{t:TE}(h:PC X op a b t)(h1:behindInMarks op b=false:=by first|exact nobehind _ (by decide) (by decide)|rfl):PT X (.Compare a [op] [b] pos) (tB t):=by
 intro pins s σ H Q I hw;refine wpAny_isTrue_Compare1 (thn (h pins s σ H _ I hw) fun v s1 h1=>thn h1 fun u s2 h2=>thn h2 fun c s3 ⟨x,H1,I1,r1,q1⟩=>?_) h1
 obtain⟨d,rfl,q⟩:=q1;cases r1;exact wpAny_truthy_bool ⟨H1,I1,q⟩
variable{tA tB':TT}{rest:List Expr}
def tAnd(t u:TT):TT:=fun σ H Q=>t σ H fun c H1=>if c=true then u σ H1 Q else Q false H1
def tOr(t u:TT):TT:=fun σ H Q=>t σ H fun c H1=>if c=true then Q true H1 else u σ H1 Q
def tNot(t:TT):TT:=fun σ H Q=>t σ H fun c H1=>Q (!c) H1
theorem y4c(ha:PT X a tA):PW X (.BoolOp .And [a] pos) tA:=by
 intro wh pins s σ H Q I h;refine isTrue_and (thn (ha pins s σ H Q I h) fun c s1 e=>?_)
 cases c with
 |true=>exact isTrue_and_nil e
 |false=>exact e
theorem y8e(ha:PT X a tA):PW X (.BoolOp .Or [a] pos) tA:=by
 intro wh pins s σ H Q I h;refine isTrue_or (thn (ha pins s σ H Q I h) fun c s1 e=>?_)
 cases c with
 |false=>exact isTrue_or_nil e
 |true=>exact e
theorem y8f(ha:PT X a tA)(hb:PW X (.BoolOp .And (b::rest) pos) tB'):PW X (.BoolOp .And (a::b::rest) pos) (tAnd tA tB'):=by
 intro wh pins s σ H Q I h;refine isTrue_and (thn (ha pins s σ H _ I h) fun c s1 ⟨H1,I1,q1⟩=>?_)
 cases c with
 |true=>exact hb wh pins s1 σ H1 Q I1 q1
 |false=>exact⟨H1,I1,q1⟩
theorem z2h(ha:PT X a tA)(hb:PW X (.BoolOp .Or (b::rest) pos) tB'):PW X (.BoolOp .Or (a::b::rest) pos) (tOr tA tB'):=by
 intro wh pins s σ H Q I h;refine isTrue_or (thn (ha pins s σ H _ I h) fun c s1 ⟨H1,I1,q1⟩=>?_)
 cases c with
 |true=>exact⟨H1,I1,q1⟩
 |false=>exact hb wh pins s1 σ H1 Q I1 q1
theorem y8g(ha:PT X a tA):PT X (.UnaryOp .Not a pos) (tNot tA):=by
 intro pins s σ H Q I h;exact isTrue_not (ha pins s σ H (fun c H1=>Q (!c) H1) I h)
def tAndV(ta tb:TE):TE:=fun σ H Q=>ta σ H fun x H1=>∃c,x=.bl c/\if c=true then tb σ H1 Q else Q (.bl false) H1
def tOrV(ta tb:TE):TE:=fun σ H Q=>ta σ H fun x H1=>∃c,x=.bl c/\if c=true then Q (.bl true) H1 else tb σ H1 Q
def tNotV(ta:TE):TE:=fun σ H Q=>ta σ H fun x H1=>∃c,x=.bl c/\Q (.bl (!c)) H1
theorem y8h{op}{t:TE}(h:PE X a t):PE X (.BoolOp op [a] pos) t:=fun pins s σ H Q I hw=>BoolOp_one (h pins s σ H Q I hw)
theorem y8i(ha:PE X a ta)(hb:PE X (.BoolOp .And (b::rest) pos) tb):PE X (.BoolOp .And (a::b::rest) pos) (tAndV ta tb):=by
 intro pins s σ H Q I h;refine BoolOp_and (thn (ha pins s σ H _ I h) fun v s1 ⟨x,H1,I1,r1,q1⟩=>?_)
 obtain⟨c,rfl,q1⟩:=q1;cases r1;refine wpAny_truthy_bool ?_;cases c with
 |true=>exact hb pins s1 σ H1 Q I1 q1
 |false=>exact⟨.bl false,H1,I1,rfl,q1⟩
theorem z2i(ha:PE X a ta)(hb:PE X (.BoolOp .Or (b::rest) pos) tb):PE X (.BoolOp .Or (a::b::rest) pos) (tOrV ta tb):=by
 intro pins s σ H Q I h;refine BoolOp_or (thn (ha pins s σ H _ I h) fun v s1 ⟨x,H1,I1,r1,q1⟩=>?_)
 obtain⟨c,rfl,q1⟩:=q1;cases r1;refine wpAny_truthy_bool ?_;cases c with
 |false=>exact hb pins s1 σ H1 Q I1 q1
 |true=>exact⟨.bl true,H1,I1,rfl,q1⟩
theorem y8j(ha:PE X a ta):PE X (.UnaryOp .Not a pos) (tNotV ta):=by
 intro pins s σ H Q I h;refine UnaryOp_ (thn (ha pins s σ H _ I h) fun v s1 ⟨x,H1,I1,r1,q1⟩=>?_)
 obtain⟨c,rfl,q1⟩:=q1;cases r1;exact not_of (wpAny_truthy_bool ⟨.bl (!c),H1,I1,rfl,q1⟩)
end
def SqL(K:Fg)(H:Hp)(a:Addr)(xs:List V):Prop:=
 Rd H a (.lst xs) \/
  ∃(o:Obj)(its:Array Value)(n:Nat),K.lookup a=some o/\o.cls=.type "list" /\ o.dict=none/\o.data=.seq its n/\its.size<=sizeLine/\Vals xs its.toList
def SqT(K:Fg)(H:Hp)(a:Addr)(xs:List V):Prop:=
 Rd H a (.tup xs) \/
  ∃(o:Obj)(its:Array Value)(n:Nat),K.lookup a=some o/\o.cls=.type "tuple" /\ o.dict=none/\o.data=.seq its n/\its.size<=sizeLine/\Vals xs its.toList
def absV:Value->Option V
 |.none=>some .non
 |.bool b=>some (.bl b)
 |.int i _=>some (.int i)
 |.str x _=>some (.str x)
 |.bytes b _=>some (.byt b)
 |.float b _=>some (.flt b)
 |.ref a=>some (.ref a)
 |.type n=>some (.ty n)
 |_=>none
theorem RelV.abs{x:V}(r:RelV x u):absV u=some x:=by
 cases x with
 |non=>cases r;rfl
 |bl _=>cases r;rfl
 |int _=>obtain⟨t,rfl⟩:=r;rfl
 |str _=>obtain⟨t,rfl⟩:=r;rfl
 |byt _=>obtain⟨t,rfl⟩:=r;rfl
 |flt _=>obtain⟨t,rfl⟩:=r;rfl
 |ref _=>cases r;rfl
 |ty _=>cases r;rfl
theorem RelV.inj{x y:V}(r:RelV x u)(q:RelV y u):x=y:=Option.some.inj (r.abs.symm.trans q.abs)
theorem Vals.inj:∀{xs ys:List V}{us:List Value},Vals xs us->Vals ys us->xs=ys
 |_,_,_,.nil,.nil=>rfl
 |_,_,_,.cons r t,.cons r' t'=>by rw[r.inj r',Vals.inj t t']
section
variable{ys:List V}
theorem SqL.of(h:H a=some (.lst xs)):SqL K H a xs:=.inl (.inl h)
theorem SqT.of(h:H a=some (.tup xs)):SqT K H a xs:=.inl (.inl h)
theorem Inv.list(I:Inv X pins σ H s)(h:SqL X.K H a xs):∃its:List Value,Vals xs its/\PlainL s.heap a its.toArray/\xs.length<=sizeLine:=by
 rcases h with h|⟨o,its,n,hk,hc,hd,hs,hz,r⟩
 ·obtain⟨z,its,n,r,e⟩:=h.ok I.hok;exact⟨its,r,⟨_,n,e,rfl,rfl,rfl⟩,z⟩
 ·refine⟨its.toList,r,⟨o,n,I.kIn a o hk,hc,hd,by simpa using hs⟩,?_⟩;have e:=r.length;simp only[w4c]at e;omega
theorem Inv.tuple(I:Inv X pins σ H s)(h:SqT X.K H a xs):∃its:List Value,Vals xs its/\IsTup s.heap a its.toArray/\xs.length<=sizeLine:=by
 rcases h with h|⟨o,its,n,hk,hc,_,hs,hz,r⟩
 ·obtain⟨z,its,r,p,_⟩:=h.ok I.hok;exact⟨its,r,p,z⟩
 ·refine⟨its.toList,r,⟨o,I.kIn a o hk,hc,n,by simpa using hs⟩,?_⟩;have e:=r.length;simp only[w4c]at e;omega
theorem Inv.list_inj(I:Inv X pins σ H s)(h:SqL X.K H a xs)(h':SqL X.K H a ys):xs=ys:=by
 obtain⟨its,r,⟨o,n,e,_,_,d⟩,_⟩:=I.list h;obtain⟨its',r',⟨o',n',e',_,_,d'⟩,_⟩:=I.list h';rw[e]at e';cases e';rw[d]at d';injection d' with d1 _
 have:its=its':=by simpa using congrArg Array.toList d1
 subst this;exact r.inj r'
theorem Inv.tuple_inj(I:Inv X pins σ H s)(h:SqT X.K H a xs)(h':SqT X.K H a ys):xs=ys:=by
 obtain⟨its,r,⟨o,e,_,n,d⟩,_⟩:=I.tuple h;obtain⟨its',r',⟨o',e',_,n',d'⟩,_⟩:=I.tuple h';rw[e]at e';cases e';rw[d]at d';injection d' with d1 _
 have:its=its':=by simpa using congrArg Array.toList d1
 subst this;exact r.inj r'
end
section
variable{st:Stmt}{rest:List Stmt}{t u:TS}
def tNext:TS:=fun D σ H=>D.nx σ H
def tSeq(t u:TS):TS:=fun D σ H=>t {D with nx:=u D} σ H
theorem y4d:PSs X [] tNext:=fun _ _ σ H _ I h=>wpAny_execs_nil ⟨σ,H,I,h⟩
theorem x9y(h1:PS X st t)(h2:PSs X rest u):PSs X (st::rest) (tSeq t u):=by
 intro pins s σ H D I h;refine wpAny_execs_cons (thn (h1 pins s σ H {D with nx:=u D} I h) fun f s1 q=>?_)
 cases f with
 |next=>
  obtain⟨σ',H',I',q⟩:=q;exact h2 pins s1 σ' H' D I' q
 |ret v=>exact q
 |brk=>exact q
 |cont=>exact q
theorem y4e(h1:PS X st t):PSs X [st] t:=by
 intro pins s σ H D I h;refine wpAny_execs_cons (thn (h1 pins s σ H D I h) fun f s1 q=>?_)
 cases f with
 |next=>exact wpAny_execs_nil q
 |ret v=>exact q
 |brk=>exact q
 |cont=>exact q
theorem Inv.quiet(I:Inv X pins σ H s):interactive X.env=false:=by simp[interactive,I.ok.kind]
def tDrop(te:TE):TS:=fun D σ H=>te σ H fun _ H1=>D.nx σ H1
theorem q7p(he:PE X e te)(hs:swapsWith e none pos.line X.env=pure false:=by rfl):PS X (.Expr e pos) (tDrop te):=by
 intro pins s σ H D I h;exact wpAny_Expr_any (thn (he pins s σ H _ I h) fun v s1 ⟨x,H1,I1,r1,q1⟩=>⟨σ,H1,I1,q1⟩) I.quiet hs
def tRet(te:TE):TS:=fun D σ H=>te σ H D.rt
theorem q60(he:PE X e te):PS X (.Return (some e) pos) (tRet te):=by
 intro pins s σ H D I h;exact wpAny_Return_some (thn (he pins s σ H _ I h) fun v s1 ⟨x,H1,I1,r1,q1⟩=>⟨x,σ,H1,I1,r1,q1⟩)
def tIfS(c:TT)(t u:TS):TS:=fun D σ H=>c σ H fun b H1=>if b=true then t D σ H1 else u D σ H1
theorem z2j{a b:List Stmt}{tc:TT}(hc:PT X c tc)(ha:PSs X a t)(hb:PSs X b u):PS X (.If c a b pos) (tIfS tc t u):=by
 intro pins s σ H D I h;refine wpAny_If (thn (hc pins s σ H _ I h) fun d s1 ⟨H1,I1,q1⟩=>?_)
 cases d with
 |true=>exact ha pins s1 σ H1 D I1 q1
 |false=>exact hb pins s1 σ H1 D I1 q1
end
abbrev TG:=V->St->Hp->(St->Hp->Prop)->Prop
abbrev TGs:=List V->St->Hp->(St->Hp->Prop)->Prop
def PG(X:Cx)(target:Expr)(t:TG):Prop:=
 ∀(pins:List (Addr×Obj))(s:Shared)(σ:St)(H:Hp)(v:V)(u:Value)(Q:St->Hp->Prop),Inv X pins σ H s->RelV v u->t v σ H Q ->
  wpAny (model X.prog X.w) X.A (assign target X.env u) (fun _ s'=>∃σ' H',Inv X pins σ' H' s'/\Q σ' H') X.xe s
def PGs(X:Cx)(ts:List Expr)(t:TGs):Prop:=
 ∀(pins:List (Addr×Obj))(s:Shared)(σ:St)(H:Hp)(vs:List V)(us:List Value)(Q:St->Hp->Prop),Inv X pins σ H s->Vals vs us->t vs σ H Q ->
  wpAny (model X.prog X.w) X.A (assignInOrder ((assignEach ts X.env).map (·.2)) us) (fun _ s'=>∃σ' H',Inv X pins σ' H' s'/\Q σ' H') X.xe s
abbrev TSet:=V->V->V->Hp->(Hp->Prop)->Prop
def PSet(X:Cx)(t:TSet):Prop:=
 ∀(pins:List (Addr×Obj))(s:Shared)(σ:St)(H:Hp)(o i v:V)(ov iv u:Value)(Q:Hp->Prop),Inv X pins σ H s->RelV o ov->RelV i iv->RelV v u->t o i v H Q ->
  wpAny (model X.prog X.w) X.A (setItem ov iv u) (fun _ s'=>∃H',Inv X pins σ H' s'/\Q H') X.xe s
def gName(i:Nat):TG:=fun v σ H Q=>Q (σ.set i (some v)) H
theorem y4f(hN:X.N.Nodup)(hi:X.N[i]?=some x)(hx:Loc X.env.scope x)(hf:X.fn x=true\/X.env.scope.names.lookup x=some .local:=by walk_at "2"):PG X (.Name x pos) (gName i):=by
 intro pins s σ H v u Q I r h;exact wpAny_assign_Name (x11 I hN hi hx r (fun s' I'=>⟨_,H,I',h⟩) hf)
def gNil:TGs:=fun vs σ H Q=>vs=[]/\Q σ H
def gCons(t:TG)(u:TGs):TGs:=fun vs σ H Q=>∃v r,vs=v::r/\t v σ H fun σ' H'=>u r σ' H' Q
theorem q9r:PGs X [] gNil:=by
 intro pins s σ H vs us Q I r h;obtain⟨e,h⟩:=h;subst e;cases r;exact assignInOrder_nil ⟨σ,H,I,h⟩
theorem q4l{t:TG}{u:TGs}(h1:PG X e t)(h2:PGs X es u)
  (hs:(assignEach (e::es) X.env).map (·.2)=assign e X.env::(assignEach es X.env).map (·.2):=by rfl):PGs X (e::es) (gCons t u):=by
 intro pins s σ H vs us Q I r h;obtain⟨v,vr,e1,h⟩:=h;subst e1;cases r with
 |cons r rr=>
  rw[hs];refine assignInOrder_cons (thn (h1 pins s σ H _ _ _ I r h) fun _ s1 ⟨σ1,H1,I1,q1⟩=>?_)
  exact h2 pins s1 σ1 H1 _ _ Q I1 rr q1
def gTup(K:Fg)(n:Nat)(t:TGs):TG:=fun v σ H Q=>∃a xs,v=.ref a/\SqT K H a xs/\xs.length=n/\t xs σ H Q
theorem x12{k:Nat}{t:TGs}{n:Nat}(hc:X.calm=true)(h:PGs X es t)
  (hn:(assignEach es X.env).length=n:=by rfl)(hst:(assignEach es X.env).findIdx? (·.1)=none:=by rfl):PG X (.Tuple es k pos) (gTup X.K n t):=by
 intro pins s σ H v u Q I r hw;obtain⟨a,xs,e1,hq,hl,hw⟩:=hw;subst e1;cases r;obtain⟨its,rv,ht,hz⟩:=I.tuple hq;refine assign_Tuple_tuple (I.ok.hd hc) ht (by simp[hn,<- hl,rv.length]) hst fun h' hx=>?_
 have I1:Inv X pins σ H {s with heap:=h'}:=I.kept (t':=s.toks) fun b o e=>hx b o (w0x (Heap.lt_size e)) e
 exact h pins _ σ H xs _ Q I1 (by simpa using rv) hw
def gSub(to ti:TE)(t:TSet):TG:=fun v σ H Q=>to σ H fun o H1=>ti σ H1 fun i H2=>t o i v H2 fun H3=>Q σ H3
theorem x6l{o i:Expr}{to ti:TE}{t:TSet}(ho:PE X o to)(hi:PE X i ti)(hs:PSet X t)
  (ha:∀v,assign (.Subscript o i pos) X.env v=(do
   let ov <- holding [v] (eval o X.env)
   let iv <- holding [v,ov] (eval i X.env)
   standAt pos
   holding [v,ov,iv] (setItem ov iv v)
   release [v,ov,iv] []):=by intro _;rfl):PG X (.Subscript o i pos) (gSub to ti t):=by
 intro pins s σ H v u Q I r h;rw[ha];refine wpAny_bind (wpAny_holding (thn (ho pins s σ H _ I h) fun ov s1 ⟨x,H1,I1,r1,q1⟩=>?_))
 refine wpAny_bind (wpAny_holding (thn (hi pins s1 σ H1 _ I1 q1) fun iv s2 ⟨y,H2,I2,r2,q2⟩=>?_))
 refine wpAny_bind (wpAny_standAt (wpAny_bind (wpAny_holding (thn (hs pins s2 σ H2 x y v ov iv u _ I2 r1 r2 r q2) fun _ s3 ⟨H3,I3,q3⟩=>?_))))
 exact wpAny_release ⟨σ,H3,I3,q3⟩
def tAsg(te:TE)(g:TG):TS:=fun D σ H=>te σ H fun x H1=>g x σ H1 D.nx
theorem x13{g:TG}(he:PE X e te)(hg:PG X tg g)(hs:swapsWithSole [tg] e pos.line X.env=pure false:=by rfl)(hw:swappedStores [tg] e X.env=pure none:=by rfl)
  (h1:(assignEach [tg] X.env).map (·.2)=[assign tg X.env]:=by rfl):PS X (.Assign [tg] e pos) (tAsg te g):=by
 intro pins s σ H D I h;refine wpAny_Assign_stores (thn (he pins s σ H _ I h) fun v s1 ⟨x,H1,I1,r1,q1⟩=>?_) hs hw
 rw[h1];exact thn (hg pins s1 σ H1 x v _ I1 r1 q1) fun _ s2 q=>q
theorem y8k{pos':Pos}(hN:X.N.Nodup)(hi:X.N[i]?=some x)(hx:Loc X.env.scope x)(he:PE X e te)(hs:swapsWith e (some (.Name x pos')) pos.line X.env=pure false:=by rfl)(hf:X.fn x=true\/X.env.scope.names.lookup x=some .local:=by walk_at "2"):
  PS X (.Assign [.Name x pos'] e pos) (tAsg te (gName i)):=by
 intro pins s σ H D I h;refine wpAny_Assign_Name (thn (he pins s σ H _ I h) fun v s1 ⟨y,H1,I1,r1,q1⟩=>?_) hs
 exact x11 I1 hN hi hx r1 (fun s2 I2=>⟨_,H1,I2,q1⟩) hf
def tWhile(c:TT)(tb:TS):TS:=fun D σ H=>∃W:Nat->St->Hp->Prop,(∃m,W m σ H)/\∀m σ H,W m σ H ->
 c σ H fun b H1=>if b=true then ∃N:St->Hp->Prop,(∀σ' H',N σ' H'->∃m',m'<m/\W m' σ' H')/\tb {D with nx:=N,ct:=N,bk:=D.nx} σ H1 else D.nx σ H1
theorem x9z{body:List Stmt}{tc:TT}(hp:PassesOwn (model X.prog X.w) X.A X.env X.xe)(hc:PT X c tc)(hb:PSs X body tb):PS X (.While c body [] pos) (tWhile tc tb):=by
 intro pins s σ H D I h;obtain⟨W,⟨m0,w0⟩,turn⟩:=h;refine wpAny_While (codeAny_whileLoop (fun n s'=>∃σ' H',Inv X pins σ' H' s'/\W n σ' H') ?_ m0 ⟨σ,H,I,w0⟩)
 rintro n s1 ⟨σ1,H1,I1,w1⟩;refine wpAny_passesOwn hp (thn (hc pins s1 σ1 H1 _ I1 (turn n σ1 H1 w1)) fun b s2 ⟨H2,I2,q2⟩=>?_)
 cases b with
 |true=>
  obtain⟨N,hN,q2⟩:=q2;rw[if_pos rfl];refine wpAny_passesOwn hp (thn (hb pins s2 σ1 H2 _ I2 q2) fun f s3 q3=>?_)
  cases f with
  |next=>
   obtain⟨σ3,H3,I3,n3⟩:=q3;obtain⟨m',hm,w3⟩:=hN σ3 H3 n3;exact⟨m',hm,σ3,H3,I3,w3⟩
  |cont=>
   obtain⟨σ3,H3,I3,n3⟩:=q3;obtain⟨m',hm,w3⟩:=hN σ3 H3 n3;exact⟨m',hm,σ3,H3,I3,w3⟩
  |brk=>exact q3
  |ret v=>exact q3
 |false=>
  rw[if_neg w0r];exact wpAny_execs_nil ⟨σ1,H2,I2,q2⟩
structure It where
 go:Nat->Hp->Prop
 yld:Nat->Hp->V->Hp->Prop
 stop:Nat->Hp->Prop
def FpOk(X:Cx)(pins:List (Addr×Obj))(H:Hp)(b:Addr):Prop:=
 H b=none/\b≠X.env.locals/\b∉X.fs/\(b∈X.ex\/X.s₀.heap.objs.size<=b)/\(∀x c,X.env.cells.lookup x=some c->c≠b)/\∀p∈X.pn++pins,p.1≠b
theorem Inv.fpOk(I:Inv X pins σ H s)(hb:s.heap.objs.size<=b)(hn:H' b=none):FpOk X pins H' b:=by
 refine⟨hn,w3x (w0w I.lt hb),I.nofs hb,.inr (w1d I.sz hb),fun x c e z=>?_,fun p hp z=>?_⟩
 ·obtain⟨v,q⟩:=I.cell x c e;exact absurd (w0w q.lt (by rw[z];exact hb)) (w2g _)
 ·exact absurd (w0w (Heap.lt_size (I.pin p hp).1) (by rw[z];exact hb)) (w2g _)
structure Turn(P:Program)(w:World)(K:Fg)(tg:Expr)(J:It)(fp:List Addr)(it:Addr)(tn:Nat->Heap->Prop):Prop where
 mem:it∈fp
 obj:∀i h,tn i h->∀b∈fp,∃o,h.get? b=some o/\∀v,o.data≠.cell v
 keep:∀i h h',tn i h->(∀b∈fp,∀o,h.get? b=some o->h'.get? b=some o)->tn i h'
 item:∀(X:Cx),X.prog=P->X.w=w->X.K=K->X.calm=true->∀(i:Nat)(pins:List (Addr×Obj))(s:Shared)(σ:St)(H:Hp)(E:Value->Shared->Prop),Inv X pins σ H s->(∀b∈fp,FpOk X pins H b)->tn i s.heap->J.go i H ->
  wpAny (model P w) X.A (pyNext (.ref it)) (fun r s1=>∃u,r=some u /\
   wpAny (model P w) X.A (letOwnedTupleGo tg (.ref it) u) (fun _ s2=>∃x H',Inv X pins σ H' s2/\RelV x u/\J.yld i H x H'/\tn (i+1) s2.heap/\∀b∈fp,H' b=none) E s1) E s
 done:∀(X:Cx),X.prog=P->X.w=w->X.K=K->X.calm=true->∀(i:Nat)(pins:List (Addr×Obj))(s:Shared)(σ:St)(H:Hp)(E:Value->Shared->Prop),Inv X pins σ H s->(∀b∈fp,FpOk X pins H b)->tn i s.heap->J.stop i H ->
  wpAny (model P w) X.A (pyNext (.ref it)) (fun r s1=>r=none/\Inv X pins σ H s1) E s
 self:∀(A:Around)(i:Nat)(s:Shared)(Q:Value->Shared->Prop)(E:Value->Shared->Prop),tn i s.heap->Q (.ref it) s->wpAny (model P w) A (pyIter (.ref it)) Q E s
abbrev TI:=St->Hp->(It->Hp->Prop)->Prop
def PIE(X:Cx)(pins:List (Addr×Obj))(σ:St)(tg:Expr)(R:It->Hp->Prop)(itv:Value)(s2:Shared):Prop:=
 ∃(it:Addr)(fp:List Addr)(tn:Nat->Heap->Prop)(J:It)(H':Hp),itv=.ref it/\Inv X pins σ H' s2/\Turn X.prog X.w X.K tg J fp it tn/\tn 0 s2.heap/\(∀b∈fp,FpOk X pins H' b)/\R J H'
def PI(X:Cx)(tg iter:Expr)(wi:TI):Prop:=
 ∀(pins:List (Addr×Obj))(s:Shared)(σ:St)(H:Hp)(R:It->Hp->Prop),Inv X pins σ H s->wi σ H R ->
  wpAny (model X.prog X.w) X.A (eval iter X.env) (fun v s1=>wpAny (model X.prog X.w) X.A (pyIter v) (PIE X pins σ tg R) X.xe s1) X.xe s
theorem x5i{M : Model}{E : Value -> Shared -> Prop}{s : Shared}{it : Addr}{o : Obj}{n : String}{vs : Array Value}{Q : Unit -> Shared -> Prop}(ho : s.heap.get? it = some o)(hc : o.cls = .type n)(hd : o.data = .fields vs)
    (hn : ["enumerate", "zip", "dict_itemiterator", "dict_reverseitemiterator", "odict_iterator", "itertools.zip_longest", "itertools.pairwise"].contains n = false)(hQ : Q () s) : wpAny M A (letOwnedTupleGo tg (.ref it) u) Q E s := by
  unfold letOwnedTupleGo
  cases tg <;> first
    | exact wpAny_pure hQ
    | (cases u <;> first
        | exact wpAny_pure hQ
        | (refine wpAny_bind (wpAny_load ho ?_)
           rw [hc, hd];show wpAny M A (if (["enumerate", "zip", "dict_itemiterator", "dict_reverseitemiterator", "odict_iterator", "itertools.zip_longest", "itertools.pairwise"].contains n && vs[0]? == some (rawInt _)) = true then _ else _) Q E s;rw [if_neg (by intro h; rw [hn, Bool.false_and] at h; cases h)];exact wpAny_pure hQ))
def Itl(K:Fg)(a:Addr):It:=
 ⟨fun i H=>∃xs x,SqL K H a xs/\xs[i]?=some x,fun i H x H'=>H'=H/\∀xs,SqL K H a xs->xs[i]?=some x,fun i H=>∃xs,SqL K H a xs/\xs.length<=i⟩
def Itt(K:Fg)(a:Addr):It:=
 ⟨fun i H=>∃xs x,SqT K H a xs/\xs[i]?=some x,fun i H x H'=>H'=H/\∀xs,SqT K H a xs->xs[i]?=some x,fun i H=>∃xs,SqT K H a xs/\xs.length<=i⟩
def Itr(lo:Int)(n:Nat):It:=⟨fun i _=>i<n,fun i H x H'=>H'=H/\x=.int (lo+i),fun i _=>n<=i⟩
theorem x6m(a it:Addr):Turn P w K tg (Itl K a) [it] it (fun i h=>h.IsListIter it a i) where
 mem:=by simp
 obj:=fun i h st b hb=>by
  have e:b=it:=by simpa using hb
  subst e;obtain⟨o,e,c,d⟩:=st;exact⟨o,e,fun v z=>by rw[d]at z;cases z⟩
 keep:=fun i h h' st k=>st.at fun o e=>k it (by simp) o e
 item:=by
  intro X hP hw hK hc i pins s σ H E I hf st hg;subst hP hw hK;obtain⟨xs,x,hq,hx⟩:=hg;obtain⟨its,rv,p,hz⟩:=I.list hq;obtain⟨u,hu,ru⟩:=rv.get hx;obtain⟨f0,f1,f2,f3,f4,f5⟩:=hf it (by simp);refine wpAny_pyNext_list_item st p.isList (x:=u) (by simpa using hu) fun h' st' sb=>?_
  have I1:Inv X pins σ H {s with heap:=h'}:=I.turned (t':=s.toks) (fun b o hb e=>(sb.2 b hb).trans e) f0 f1 f3 f4 f5
  obtain⟨o,e,c,d⟩:=id st';exact⟨u,rfl,x5i (s:={s with heap:=h'}) e c d (by decide) ⟨x,H,I1,ru,⟨rfl,fun ys hy=>by rw[I.list_inj hy hq];exact hx⟩,st',fun b hb=>(hf b hb).1⟩⟩
 done:=by
  intro X hP hw hK hc i pins s σ H E I hf st hg;subst hP hw hK;obtain⟨xs,hq,hx⟩:=hg;obtain⟨its,rv,p,hz⟩:=I.list hq;obtain⟨f0,f1,f2,f3,f4,f5⟩:=hf it (by simp);have hl:=rv.length;exact wpAny_pyNext_list_end (I.ok.hd hc) st p.isList (by simp;omega) fun h' eb=>⟨rfl,I.turned (t':=s.toks) (fun b o hb e=>eb b o hb e) f0 f1 f3 f4 f5⟩
 self:=fun _ _ _ _ _ st h=>wpAny_pyIter_listiter st h
theorem x5j(a it:Addr):Turn P w K tg (Itt K a) [it] it (fun i h=>h.IsTupleIter it a i) where
 mem:=by simp
 obj:=fun i h st b hb=>by
  have e:b=it:=by simpa using hb
  subst e;obtain⟨o,e,c,d⟩:=st;exact⟨o,e,fun v z=>by rw[d]at z;cases z⟩
 keep:=fun i h h' st k=>st.at fun o e=>k it (by simp) o e
 item:=by
  intro X hP hw hK hc i pins s σ H E I hf st hg;subst hP hw hK;obtain⟨xs,x,hq,hx⟩:=hg;obtain⟨its,rv,p,hz⟩:=I.tuple hq;obtain⟨u,hu,ru⟩:=rv.get hx;obtain⟨f0,f1,f2,f3,f4,f5⟩:=hf it (by simp);refine wpAny_pyNext_tuple_item st (show s.heap.IsTuple a its.toArray from p) (x:=u) (by simpa using hu) fun h' st' sb=>?_
  have I1:Inv X pins σ H {s with heap:=h'}:=I.turned (t':=s.toks) (fun b o hb e=>(sb.2 b hb).trans e) f0 f1 f3 f4 f5
  obtain⟨o,e,c,d⟩:=id st';exact⟨u,rfl,x5i (s:={s with heap:=h'}) e c d (by decide) ⟨x,H,I1,ru,⟨rfl,fun ys hy=>by rw[I.tuple_inj hy hq];exact hx⟩,st',fun b hb=>(hf b hb).1⟩⟩
 done:=by
  intro X hP hw hK hc i pins s σ H E I hf st hg;subst hP hw hK;obtain⟨xs,hq,hx⟩:=hg;obtain⟨its,rv,p,hz⟩:=I.tuple hq;obtain⟨f0,f1,f2,f3,f4,f5⟩:=hf it (by simp);have hl:=rv.length;exact wpAny_pyNext_tuple_end (I.ok.hd hc) st (show s.heap.IsTuple a its.toArray from p) (by simp;omega) fun h' eb=>⟨rfl,I.turned (t':=s.toks) (fun b o hb e=>eb b o hb e) f0 f1 f3 f4 f5⟩
 self:=fun _ _ _ _ _ st h=>wpAny_pyIter_tupleiter st h
theorem x5k(it:Addr)(lo:Int)(n:Nat):Turn P w K tg (Itr lo n) [it] it (fun i h=>IsRangeIter h it (lo+(i:Nat)*1) ((n:Int)-(i:Nat)) 1) where
 mem:=by simp
 obj:=fun i h st b hb=>by
  have e:b=it:=by simpa using hb
  subst e
  exact⟨_,st,fun v z=>by
   have z':Data.fields _=Data.cell v:=z;cases z'⟩
 keep:=fun i h h' st k=>k it (by simp) _ st
 item:=by
  intro X hP hw hK hc i pins s σ H E I hf st hg;subst hP hw hK;obtain⟨f0,f1,f2,f3,f4,f5⟩:=hf it (by simp);have W:=Walks.range (prog:=X.prog) (w:=X.w) (I.ok.hd hc) it lo 1 n;refine W.item i s _ _ hg st fun v h' tk hv st' kk=>?_
  obtain⟨t,rfl⟩:=hv;have I1:Inv X pins σ H {s with heap:=h',toks:=tk}:=I.turned (fun b o hb e=>kk b o (by simpa using hb) e) f0 f1 f3 f4 f5
  refine⟨_,rfl,x5i (s:={s with heap:=h',toks:=tk}) (n:="range_iterator") st' rfl rfl (by decide) ⟨.int (lo+i),H,I1,⟨t,?_⟩,⟨rfl,rfl⟩,st',fun b hb=>(hf b hb).1⟩⟩
  rw[Int.mul_one]
 done:=by
  intro X hP hw hK hc i pins s σ H E I hf st hg;subst hP hw hK;obtain⟨f0,f1,f2,f3,f4,f5⟩:=hf it (by simp);exact wpAny_pyNext_range_end (I.ok.hd hc) st (by have:n<=i:=hg;omega) fun h' eb=>⟨rfl,I.turned (t':=s.toks) (fun b o hb e=>eb b o hb e) f0 f1 f3 f4 f5⟩
 self:=fun _ _ _ _ _ st h=>wpAny_pyIter_rangeiter st h
theorem x90{R:It->Hp->Prop}{lo hi:Int}{t u v:Tok}{tk:Nat}(I:Inv X pins σ H s)(h1:-(2^62)<=lo)(h2:lo<2^62)(h3:-(2^62)<=hi)(h4:hi<2^62)
  (q:R (Itr lo (hi-lo).toNat) H):wpAny (model X.prog X.w) X.A (pyIter (.ref s.heap.objs.size)) (PIE X pins σ tg R) E {s with heap:=s.heap.push {cls:=.type "range", data:=.fields #[.int lo t,.int hi u,.int 1 v]},toks:=tk}:=by
 refine wpAny_pyIter_range (IsRange.new ..) (small_one h1 h2 h3 h4) ?_;have I1:Inv X pins σ H {s with heap:=s.heap.push {cls:=.type "range", data:=.fields #[.int lo t,.int hi u,.int 1 v]},toks:=tk}:=I.kept fun b o e=>Heap.get?_push_of_some _ e
 refine⟨(s.heap.push {cls:=.type "range", data:=.fields #[.int lo t,.int hi u,.int 1 v]}).objs.size,[(s.heap.push {cls:=.type "range", data:=.fields #[.int lo t,.int hi u,.int 1 v]}).objs.size],_,_,H,rfl,
  I1.kept (t':=tk) fun b o e=>Heap.get?_push_of_some _ e,x5k _ lo (hi-lo).toNat,?_,fun b hb=>?_,q⟩
 ·have e1:lo+((0:Nat):Int)*1=lo:=by simp
  have e2:(((hi-lo).toNat:Nat):Int)-((0:Nat):Int)=Builtin.Range.rangeSize lo hi 1:=by rw[rangeSize_one];split<;>omega
  show IsRangeIter _ _ (lo+((0:Nat):Int)*1) ((((hi-lo).toNat:Nat):Int)-((0:Nat):Int)) 1;rw[e1,e2];exact Heap.get?_push_size _ rfl
 ·have e:b=(s.heap.push {cls:=.type "range", data:=.fields #[.int lo t,.int hi u,.int 1 v]}).objs.size:=by simpa using hb
  subst e;exact I1.fpOk (w0j _) (I1.hok.fresh (w0j _))
def iRng1(ta:TA):TI:=fun σ H R=>ta σ H fun vs H1=>∃j:Int,vs=[.int j]/\-(2^62)<=j/\j<2^62/\R (Itr 0 j.toNat) H1
theorem q61{a:Expr}{ta:TA}(hg:Gl X "range")(hm:X.mg "range"=none)(ha:PA X [a] ta)(hs:starEach [a] X.env=[(false,eval a X.env)]:=by rfl):PI X tg (.Call (.Name "range" p) [a] [] pos) (iRng1 ta):=by
 intro pins s σ H R I h;refine Call_ (q43 I hg hm boot_range (PyProof.Rows.callWith_type1 (thn (ha pos pins s σ H _ I h) fun us s1 ⟨vs,H1,I1,r1,q1⟩=>?_) hs rfl))
 obtain⟨j,e,q1,q2,q⟩:=q1;subst e;cases r1 with
 |cons r rr=>
  cases rr;obtain⟨t,rfl⟩:=r;exact call_range_1 (x90 I1 (by omega) (by omega) q1 q2 (by simpa using q))
def tFor(wi:TI)(g:TG)(tb:TS):TS:=fun D σ H=>wi σ H fun J H1=>∃W:Nat->Nat->St->Hp->Prop,(∃m,W 0 m σ H1)/\∀i m σ H,W i m σ H ->
 (J.stop i H/\D.nx σ H)\/(J.go i H/\∃N:St->Hp->Prop,(∀σ' H',N σ' H'->∃m',m'<m/\W (i+1) m' σ' H')/\∀x H',J.yld i H x H'->g x σ H' fun σ2 H2=>tb {D with nx:=N,ct:=N,bk:=D.nx} σ2 H2)
def pinsAt(fp:List Addr)(h:Heap):List (Addr×Obj):=fp.filterMap fun b=>(h.get? b).map fun o=>(b,o)
theorem q2k{o:Obj}(hb:b∈fp)(e:h.get? b=some o):(b,o)∈pinsAt fp h:=w2u.mpr ⟨b,hb,by rw[e];rfl⟩
theorem x6n{p:Addr×Obj}(hp:p∈pinsAt fp h):p.1∈fp/\h.get? p.1=some p.2:=by
 obtain⟨b,hb,e⟩:=w2u.mp hp;cases q:h.get? b with
 |none=>rw[q]at e;cases e
 |some o=>
  rw[q]at e;have e':(b,o)=p:=Option.some.inj e;subst e';exact⟨hb,q⟩
theorem Inv.pinned(I:Inv X pins σ H s)(hf:∀b∈fp,FpOk X pins H b)(ho:∀b∈fp,∃o,s.heap.get? b=some o/\∀v,o.data≠.cell v):Inv X (pins++pinsAt fp s.heap) σ H s:=
 I.pins_of fun p hp=>(w1p.mp hp).elim (fun z=>I.pin p (w0l _ z)) fun z=>by
  obtain⟨hb,e⟩:=x6n z;obtain⟨f0,f1,f2,_⟩:=hf p.1 hb;obtain⟨o,e',d⟩:=ho p.1 hb;rw[e]at e';cases e';exact⟨e,f0,f1,f2,d⟩
theorem Inv.unpinned{pl:List (Addr×Obj)}(I:Inv X (pins++pl) σ H s):Inv X pins σ H s:=I.pins_of fun p hp=>I.pin p (w0l _ (w1m _ hp))
theorem x14{iter:Expr}{body:List Stmt}{wi:TI}{g:TG}(hp:PassesOwn (model X.prog X.w) X.A X.env X.xe)(hc:X.calm=true)(hi:PI X tg iter wi)(hg:PG X tg g)(hb:PSs X body tb)
  (hs:∀x,foldedSetIterable iter X.env x=pure x:=by intro _;rfl):PS X (.For tg iter body [] pos) (tFor wi g tb):=by
 intro pins s σ H D I h;refine wpAny_For (thn (hi pins s σ H _ I h) fun v s1 h1=>thn h1 fun itv s2 h2=>?_) hs
 obtain⟨it,fp,tn,J,H2,e,I2,T,st2,f2,W,⟨m0,w0⟩,turn⟩:=h2;subst e;have stat:∀{H':Hp},(∀b∈fp,H' b=none)->∀b∈fp,FpOk X pins H' b:=fun hn b hb=>⟨hn b hb,(f2 b hb).2⟩
 refine codeAny_forLoop_any (fun n s'=>∃i σ' H',Inv X pins σ' H' s'/\tn i s'.heap/\(∀b∈fp,H' b=none)/\W i n σ' H') ?_ m0 ⟨0,σ,H2,I2,st2,fun b hb=>(f2 b hb).1,w0⟩
 rintro n s3 ⟨i,σ3,H3,I3,st3,fr3,w3⟩;rcases turn i n σ3 H3 w3 with⟨stop,qn⟩|⟨go,N,hN,step⟩
 ·refine wpAny_passesOwn hp (thn (T.done X rfl rfl rfl hc i pins s3 σ3 H3 X.xe I3 (stat fr3) st3 stop) fun r s4 ⟨hr,I4⟩=>?_)
  subst hr;exact wpAny_execs_nil ⟨σ3,H3,I4,qn⟩
 ·refine wpAny_passesOwn hp (thn (T.item X rfl rfl rfl hc i pins s3 σ3 H3 X.xe I3 (stat fr3) st3 go) fun r s4 ⟨u,hr,h4⟩=>?_)
  subst hr;refine wpAny_passesOwn hp (thn h4 fun _ s5 ⟨x,H5,I5,r5,y5,st5,fr5⟩=>?_)
  have I5':=I5.pinned (stat fr5) (T.obj _ _ st5);refine wpAny_passesOwn hp (thn (hg _ s5 σ3 H5 x u _ I5' r5 (step x H5 y5)) fun _ s6 ⟨σ6,H6,I6,q6⟩=>?_)
  refine wpAny_passesOwn hp (thn (hb _ s6 σ6 H6 _ I6 q6) fun f s7 q7=>?_)
  have again:∀{σ7:St}{H7:Hp},Inv X (pins++pinsAt fp s5.heap) σ7 H7 s7->N σ7 H7->∃m,m<n/\∃i σ' H',Inv X pins σ' H' s7/\tn i s7.heap/\(∀b∈fp,H' b=none)/\W i m σ' H':=fun {σ7 H7} I7 n7=>by
   obtain⟨m',hm,w7⟩:=hN σ7 H7 n7;refine⟨m',hm,i+1,σ7,H7,I7.unpinned,T.keep _ _ _ st5 fun b hb o e=>(I7.pin (b,o) (w0l _ (w0l _ (q2k hb e)))).1,fun b hb=>?_,w7⟩
   obtain⟨o,e,d⟩:=T.obj _ _ st5 b hb;exact(I7.pin (b,o) (w0l _ (w0l _ (q2k hb e)))).2.1
  cases f with
  |next=>obtain⟨σ7,H7,I7,n7⟩:=q7;exact again I7 n7
  |cont=>obtain⟨σ7,H7,I7,n7⟩:=q7;exact again I7 n7
  |brk=>obtain⟨σ7,H7,I7,q7⟩:=q7;exact⟨σ7,H7,I7.unpinned,q7⟩
  |ret v=>obtain⟨x7,σ7,H7,I7,r7,q7⟩:=q7;exact⟨x7,σ7,H7,I7.unpinned,r7,q7⟩
theorem x91{g:TG}{D:Ends}(Pv:Nat->St->Hp->Prop)(h0:Pv 0 σ H)(hl:∀i σ H,i<=xs.length->Pv i σ H->SqL K H a xs)
  (hs:∀i x σ H,xs[i]?=some x->Pv i σ H->g x σ H fun σ2 H2=>tb {D with nx:=Pv (i+1),ct:=Pv (i+1),bk:=D.nx} σ2 H2)(hd:∀σ H,Pv xs.length σ H->D.nx σ H):
  ∃W:Nat->Nat->St->Hp->Prop,(∃m,W 0 m σ H)/\∀i m σ H,W i m σ H ->
   ((Itl K a).stop i H/\D.nx σ H)\/((Itl K a).go i H/\∃N:St->Hp->Prop,(∀σ' H',N σ' H'->∃m',m'<m/\W (i+1) m' σ' H')/\∀x H',(Itl K a).yld i H x H'->g x σ H' fun σ2 H2=>tb {D with nx:=N,ct:=N,bk:=D.nx} σ2 H2):=by
 refine⟨fun i m σ H=>m=xs.length-i/\i<=xs.length/\Pv i σ H,⟨xs.length,by simp,w1k _,h0⟩,?_⟩
 rintro i m σ H ⟨rfl,hi,p⟩;have q:=hl i σ H hi p
 by_cases hlt:i<xs.length
 ·refine .inr ⟨⟨xs,xs[i],q,by simp[hlt]⟩,Pv (i+1),fun σ' H' p'=>⟨xs.length-(i+1),by omega,rfl,hlt,p'⟩,fun x H' y=>?_⟩
  obtain⟨e,y⟩:=y;subst e;exact hs i x σ _ (y xs q) p
 ·have e:i=xs.length:=by omega
  subst e;exact .inl ⟨⟨xs,q,w0j _⟩,hd σ H p⟩
theorem y4g{g:TG}{D:Ends}(Pv:Nat->St->Hp->Prop)(h0:Pv 0 σ H)(hl:∀i σ H,i<=xs.length->Pv i σ H->SqT K H a xs)
  (hs:∀i x σ H,xs[i]?=some x->Pv i σ H->g x σ H fun σ2 H2=>tb {D with nx:=Pv (i+1),ct:=Pv (i+1),bk:=D.nx} σ2 H2)(hd:∀σ H,Pv xs.length σ H->D.nx σ H):
  ∃W:Nat->Nat->St->Hp->Prop,(∃m,W 0 m σ H)/\∀i m σ H,W i m σ H ->
   ((Itt K a).stop i H/\D.nx σ H)\/((Itt K a).go i H/\∃N:St->Hp->Prop,(∀σ' H',N σ' H'->∃m',m'<m/\W (i+1) m' σ' H')/\∀x H',(Itt K a).yld i H x H'->g x σ H' fun σ2 H2=>tb {D with nx:=N,ct:=N,bk:=D.nx} σ2 H2):=by
 refine⟨fun i m σ H=>m=xs.length-i/\i<=xs.length/\Pv i σ H,⟨xs.length,by simp,w1k _,h0⟩,?_⟩
 rintro i m σ H ⟨rfl,hi,p⟩;have q:=hl i σ H hi p
 by_cases hlt:i<xs.length
 ·refine .inr ⟨⟨xs,xs[i],q,by simp[hlt]⟩,Pv (i+1),fun σ' H' p'=>⟨xs.length-(i+1),by omega,rfl,hlt,p'⟩,fun x H' y=>?_⟩
  obtain⟨e,y⟩:=y;subst e;exact hs i x σ _ (y xs q) p
 ·have e:i=xs.length:=by omega
  subst e;exact .inl ⟨⟨xs,q,w0j _⟩,hd σ H p⟩
theorem x6o{lo:Int}{n:Nat}{g:TG}{D:Ends}(Pv:Nat->St->Hp->Prop)(h0:Pv 0 σ H)
  (hs:∀i σ H,i<n->Pv i σ H->g (.int (lo+i)) σ H fun σ2 H2=>tb {D with nx:=Pv (i+1),ct:=Pv (i+1),bk:=D.nx} σ2 H2)(hd:∀σ H,Pv n σ H->D.nx σ H):
  ∃W:Nat->Nat->St->Hp->Prop,(∃m,W 0 m σ H)/\∀i m σ H,W i m σ H ->
   ((Itr lo n).stop i H/\D.nx σ H)\/((Itr lo n).go i H/\∃N:St->Hp->Prop,(∀σ' H',N σ' H'->∃m',m'<m/\W (i+1) m' σ' H')/\∀x H',(Itr lo n).yld i H x H'->g x σ H' fun σ2 H2=>tb {D with nx:=N,ct:=N,bk:=D.nx} σ2 H2):=by
 refine⟨fun i m σ H=>m=n-i/\i<=n/\Pv i σ H,⟨n,by simp,w1k _,h0⟩,?_⟩
 rintro i m σ H ⟨rfl,hi,p⟩
 by_cases hlt:i<n
 ·refine .inr ⟨hlt,Pv (i+1),fun σ' H' p'=>⟨n-(i+1),by omega,rfl,hlt,p'⟩,fun x H' y=>?_⟩
  obtain⟨e,y⟩:=y;subst e y;exact hs i σ _ hlt p
 ·have e:i=n:=by omega
  subst e;exact .inl ⟨w0j _,hd σ H p⟩
abbrev R2:=V->V->Hp->VK->Prop
variable{r:R2}
def OpR(X:Cx)(f:Value->Value->Sem Value)(r:R2):Prop:=
 ∀(pins:List (Addr×Obj))(s:Shared)(σ:St)(H:Hp)(x y:V)(v u:Value)(Q:VK),Inv X pins σ H s->RelV x v->RelV y u->r x y H Q ->
  wpAny (model X.prog X.w) X.A (f v u) (EP X pins σ Q) X.xe s
def UnR(X:Cx)(f:Value->Sem Value)(r:V->Hp->VK->Prop):Prop:=
 ∀(pins:List (Addr×Obj))(s:Shared)(σ:St)(H:Hp)(x:V)(v:Value)(Q:VK),Inv X pins σ H s->RelV x v->r x H Q ->
  wpAny (model X.prog X.w) X.A (f v) (EP X pins σ Q) X.xe s
def CallR(X:Cx)(f:Value)(r:List V->Hp->VK->Prop):Prop:=
 ∀(pins:List (Addr×Obj))(s:Shared)(σ:St)(H:Hp)(xs:List V)(us:List Value)(Q:VK),Inv X pins σ H s->Vals xs us->r xs H Q ->
  wpAny (model X.prog X.w) X.A (call f us) (EP X pins σ Q) X.xe s
def TruR(X:Cx)(r:V->Hp->(Bool->Hp->Prop)->Prop):Prop:=
 ∀(pins:List (Addr×Obj))(s:Shared)(σ:St)(H:Hp)(x:V)(v:Value)(Q:Bool->Hp->Prop),Inv X pins σ H s->RelV x v->r x H Q ->
  wpAny (model X.prog X.w) X.A (truthy v) (TP X pins σ Q) X.xe s
def tOp(r:R2)(ta tb:TE):TE:=fun σ H Q=>ta σ H fun x H1=>tb σ H1 fun y H2=>r x y H2 Q
def tUn(r:V->Hp->VK->Prop)(ta:TE):TE:=fun σ H Q=>ta σ H fun x H1=>r x H1 Q
def rI(C:Int->Int->Prop)(g:Int->Int->V):R2:=fun x y H Q=>∃i j,x=.int i/\y=.int j/\C i j/\Q (g i j) H
def rI0(g:Int->Int->V):R2:=fun x y H Q=>∃i j,x=.int i/\y=.int j/\Q (g i j) H
def rU(g:Int->V):V->Hp->VK->Prop:=fun x H Q=>∃i,x=.int i/\Q (g i) H
section
variable{a b:Expr}{tb tc:TE}
theorem binT(ha:PE X a ta)(hb:PE X b tb){R:V->V->Hp->Prop}(I:Inv X pins σ H s)
  (h:ta σ H fun x H1=>tb σ H1 fun y H2=>R x y H2){Q:Value->Shared->Prop}
  (hf:∀v u s2 x y H2,Inv X pins σ H2 s2->RelV x v->RelV y u->R x y H2->wpAny (model X.prog X.w) X.A (f v u) Q X.xe s2):
  wpAny (model X.prog X.w) X.A (eval a X.env) (fun v s₁=>wpAny (model X.prog X.w) X.A (eval b X.env) (fun u s₂=>wpAny (model X.prog X.w) X.A (f v u) Q X.xe s₂) X.xe s₁) X.xe s:=by
 refine thn (ha pins s σ H _ I h) fun v s1 ⟨x,H1,I1,r1,q1⟩=>?_
 refine thn (hb pins s1 σ H1 _ I1 q1) fun u s2 ⟨y,H2,I2,r2,q2⟩=>?_
 exact hf v u s2 x y H2 I2 r1 r2 q2
theorem x5l{op:Operator}(ho:OpR X (binaryOp op) r)(ha:PE X a ta)(hb:PE X b tb):PE X (.BinOp a op b pos) (tOp r ta tb):=by
 intro pins s σ H Q I h;exact wpAny_BinOp (binT ha hb I h fun v u s2 x y H2 I2 rx ry q=>ho pins s2 σ H2 x y v u Q I2 rx ry q)
theorem z2k{op:UnaryOp}{r:V->Hp->VK->Prop}(ho:UnR X (unaryOp op) r)(ha:PE X a ta):PE X (.UnaryOp op a pos) (tUn r ta):=by
 intro pins s σ H Q I h;exact UnaryOp_ (thn (ha pins s σ H _ I h) fun v s1 ⟨x,H1,I1,r1,q1⟩=>ho pins s1 σ H1 x v Q I1 r1 q1)
theorem opI{C:Int->Int->Prop}{g:Int->Int->Int}
  (rule:∀(i j:Int)(t u:Tok)(s:Shared)(Q:Value->Shared->Prop)(E:Value->Shared->Prop),C i j->Q (.int (g i j) s.toks) {s with toks:=s.toks+1}->wpAny (model X.prog X.w) X.A (f (.int i t) (.int j u)) Q E s):
  OpR X f (rI C fun i j=>.int (g i j)):=by
 intro pins s σ H x y v u Q I rx ry h;obtain⟨i,j,rfl,rfl,hc,q⟩:=h;obtain⟨t,rfl⟩:=rx;obtain⟨t',rfl⟩:=ry;exact rule i j t t' s _ _ hc ⟨.int (g i j),H,I.tok _,⟨_,rfl⟩,q⟩
theorem opI0{g:Int->Int->Int}
  (rule:∀(i j:Int)(t u:Tok)(s:Shared)(Q:Value->Shared->Prop)(E:Value->Shared->Prop),Q (.int (g i j) s.toks) {s with toks:=s.toks+1}->wpAny (model X.prog X.w) X.A (f (.int i t) (.int j u)) Q E s):
  OpR X f (rI0 fun i j=>.int (g i j)):=by
 intro pins s σ H x y v u Q I rx ry h;obtain⟨i,j,rfl,rfl,q⟩:=h;obtain⟨t,rfl⟩:=rx;obtain⟨t',rfl⟩:=ry;exact rule i j t t' s _ _ ⟨.int (g i j),H,I.tok _,⟨_,rfl⟩,q⟩
theorem opB0{g:Int->Int->Bool}
  (rule:∀(i j:Int)(t u:Tok)(s:Shared)(Q:Value->Shared->Prop)(E:Value->Shared->Prop),Q (.bool (g i j)) s->wpAny (model X.prog X.w) X.A (f (.int i t) (.int j u)) Q E s):
  OpR X f (rI0 fun i j=>.bl (g i j)):=by
 intro pins s σ H x y v u Q I rx ry h;obtain⟨i,j,rfl,rfl,q⟩:=h;obtain⟨t,rfl⟩:=rx;obtain⟨t',rfl⟩:=ry;exact rule i j t t' s _ _ ⟨.bl (g i j),H,I,rfl,q⟩
def CDiv(i j:Int):Prop:=0<j/\j<1073741824
def CMul(i j:Int):Prop:=(-(2^64)<i/\i<2^64)\/(-(2^64)<j/\j<2^64)
theorem CMul.ok{i j:Int}(h:CMul i j):IntMulOk i j:=by
 rcases h with⟨h1,h2⟩|⟨h1,h2⟩
 ·exact .of_left (intBits_le_64 h1 h2)
 ·exact .of_right (intBits_le_64 h1 h2)
theorem op_add:OpR X (binaryOp .Add) (rI0 fun i j=>.int (i+j)):=opI0 fun _ _ _ _ _ _ _ q=>add_int q
theorem y8l:OpR X (binaryOp .Sub) (rI0 fun i j=>.int (i-j)):=opI0 fun _ _ _ _ _ _ _ q=>sub_int q
theorem y8m:OpR X (binaryOp .Mult) (rI CMul fun i j=>.int (i*j)):=opI fun _ _ _ _ _ _ _ hc q=>mul_int q hc.ok
theorem y4h:OpR X (binaryOp .FloorDiv) (rI CDiv fun i j=>.int (i / j)):=opI fun i j _ _ _ _ _ hc q=>by
 have h1:(0:Int)<j:=hc.1;have h2:j<1073741824:=hc.2;exact floordiv_int (by omega) (by rw[Int.fdiv_eq_ediv_of_nonneg i (by omega)];exact q) (.inl (PyProof.noPylong_small (by omega)))
theorem y8n:OpR X (binaryOp .Mod) (rI (fun _ j=>0<j) fun i j=>.int (i%j)):=opI fun i j _ _ _ _ _ hc q=>by
 have h1:(0:Int)<j:=hc;exact mod_int' (by omega) (by rw[Int.fmod_eq_emod_of_nonneg i (by omega)];exact q)
theorem unI{f:Value->Sem Value}{g:Int->Int}
  (rule:∀(i:Int)(t:Tok)(s:Shared)(Q:Value->Shared->Prop)(E:Value->Shared->Prop),Q (.int (g i) s.toks) {s with toks:=s.toks+1}->wpAny (model X.prog X.w) X.A (f (.int i t)) Q E s):
  UnR X f (rU fun i=>.int (g i)):=by
 intro pins s σ H x v Q I rx h;obtain⟨i,rfl,q⟩:=h;obtain⟨t,rfl⟩:=rx;exact rule i t s _ _ ⟨.int (g i),H,I.tok _,⟨_,rfl⟩,q⟩
theorem y8o:UnR X (unaryOp .USub) (rU fun i=>.int (-i)):=unI fun _ _ _ _ _ q=>neg_int q
end
section
variable{a b:Expr}{tb tc:TE}
theorem x6p{Q:VK}{k k':Bool}(I:Inv X pins σ H s)(q:Q (.bl k) H)(e:k=k'):EP X pins σ Q (.bool k') s:=by
 subst e;exact⟨.bl k,H,I,rfl,q⟩
theorem y3p:OpR X (compareOp .Lt) (rI0 fun i j=>.bl (decide (i<j))):=opB0 fun _ _ _ _ _ _ _ q=>lt_int q
theorem z2l:OpR X (compareOp .LtE) (rI0 fun i j=>.bl (decide (i<=j))):=opB0 fun _ _ _ _ _ _ _ q=>le_int q
theorem y3q:OpR X (compareOp .Gt) (rI0 fun i j=>.bl (decide (j<i))):=opB0 fun _ _ _ _ _ _ _ q=>gt_int q
theorem OpR.or{r':R2}(h:OpR X f r)(h':OpR X f r'):OpR X f (fun x y H Q=>r x y H Q\/r' x y H Q):=by
 intro pins s σ H x y v u Q I rx ry q;rcases q with q|q
 ·exact h pins s σ H x y v u Q I rx ry q
 ·exact h' pins s σ H x y v u Q I rx ry q
theorem nomark(b:Expr)(h:op≠.In:=by decide)(h2:op≠.NotIn:=by decide):behindInMarks op b=false:=by
 have e1:(op==CmpOp.In)=false:=by cases op<;>first|rfl|exact absurd rfl h
 have e2:(op==CmpOp.NotIn)=false:=by cases op<;>first|rfl|exact absurd rfl h2
 cases b<;>simp[behindInMarks,e1,e2]
theorem y4i(ho:OpR X (compareOp op) r)(ha:PE X a ta)(hb:PE X b tb)(hm:behindInMarks op b=false):PE X (.Compare a [op] [b] pos) (tOp r ta tb):=by
 intro pins s σ H Q I h;exact wpAny_Compare1 (binT ha hb I h fun v u s2 x y H2 I2 rx ry q=>ho pins s2 σ H2 x y v u Q I2 rx ry q) hm
def tTest(t:TE):TT:=fun σ H Q=>t σ H fun x H'=>∃k,x=.bl k/\Q k H'
theorem y4j(ho:OpR X (compareOp op) r)(ha:PE X a ta)(hb:PE X b tb)(hm:behindInMarks op b=false):PT X (.Compare a [op] [b] pos) (tTest (tOp r ta tb)):=by
 intro pins s σ H Q I h
 refine wpAny_isTrue_Compare1 (thn (ha pins s σ H _ I h) fun v s1 ⟨x,H1,I1,r1,q1⟩=>thn (hb pins s1 σ H1 _ I1 q1) fun u s2 ⟨y,H2,I2,r2,q2⟩=>
  thn (ho pins s2 σ H2 x y v u _ I2 r1 r2 q2) fun c s3 ⟨z,H3,I3,r3,k,e,q3⟩=>?_) hm
 subst e;cases r3;exact wpAny_truthy_bool ⟨H3,I3,q3⟩
def TruV(K:Fg)(x:V)(H:Hp)(k:Bool):Prop:=
 match x with
 |.non=>k=false
 |.bl b=>k=b
 |.int i=>k=(i != 0)
 |.str y=>y.length<=sizeLine/\k=((y.length:Int) != 0)
 |.byt y=>y.size<=sizeLine/\k=((y.size:Int) != 0)
 |.ref p=>(∃xs,SqL K H p xs/\k=!xs.isEmpty)\/(∃xs,SqT K H p xs/\k=!xs.isEmpty)\/∃kvs,H p=some (.dK kvs)/\k=!kvs.isEmpty
 |_=>False
theorem x5m{κ:Type}{kvs:List (κ×V)}{vs:List (κ×Value)}(r:KV kvs vs):(!vs.isEmpty)=!kvs.isEmpty:=by
 cases r<;>rfl
theorem q8y{its:List Value}(r:Vals xs its):(!its.toArray.isEmpty)=!xs.isEmpty:=by
 cases r<;>simp
theorem line63:(sizeLine:Nat)<2^63:=by rw[sizeLine_eq];decide
theorem y8p:TruR X (fun x H Q=>∃k,TruV X.K x H k/\Q k H):=by
 intro pins s σ H x v Q I rx h;obtain⟨k,e,q⟩:=h;have hl:=line63;have hs:sizeLine=16777216:=sizeLine_eq;cases x with
 |non=>
  cases rx;have e':k=false:=e;subst e';exact truthy_none ⟨H,I,q⟩
 |bl b=>
  cases rx;have e':k=b:=e;subst e';exact wpAny_truthy_bool ⟨H,I,q⟩
 |int i=>
  obtain⟨t,rfl⟩:=rx;have e':k=(i != 0):=e;subst e';exact PySem.P.truthy_int ⟨H,I,q⟩
 |str y=>
  obtain⟨t,rfl⟩:=rx;obtain⟨hy,e'⟩:y.length<=sizeLine/\k=((y.length:Int) != 0):=e;subst e';exact PySem.P.truthy_str (by omega) ⟨H,I.tok _,q⟩
 |byt y=>
  obtain⟨t,rfl⟩:=rx;obtain⟨hy,e'⟩:y.size<=sizeLine/\k=((y.size:Int) != 0):=e;subst e';exact PySem.W.truthy_bytes (by omega) ⟨H,I.tok _,q⟩
 |ref p=>
  cases rx;have e':(∃xs,SqL X.K H p xs/\k=!xs.isEmpty)\/(∃xs,SqT X.K H p xs/\k=!xs.isEmpty)\/∃kvs,H p=some (.dK kvs)/\k=!kvs.isEmpty:=e;rcases e' with⟨xs,hx,e'⟩|⟨xs,hx,e'⟩|⟨kvs,hx,e'⟩
  ·subst e';obtain⟨its,r,pl,hz⟩:=I.list hx;have hlen:=r.length;exact wpAny_truthy_list pl.isList (by simp only[w0e];omega) ⟨H,I.tok _,by rw[q8y r];exact q⟩
  ·subst e';obtain⟨its,r,pl,hz⟩:=I.tuple hx;have hlen:=r.length;exact truthy_tuple pl (by simp only[w0e];omega) ⟨H,I.tok _,by rw[q8y r];exact q⟩
  ·subst e';obtain⟨hz,hS,vs,r,m⟩:kvs.length<=sizeLine/\(p==sysModules)=false/\∃vs,KV kvs vs/\s.heap.DictOf (mixKind X.prog X.w) p vs:=I.hok p _ hx;have hlen:kvs.length=vs.length:=Paired.length r;exact wpAny_truthy_dict hS m (by omega) ⟨H,I.tok _,by rw[x5m r];exact q⟩
 |_=>exact(show False from e).elim
theorem x92(ha:PE X a ta)(he:∀whole,isTrue a X.env whole=(do let v <- whole;standAt a.pos;holding [v] (truthy v))):
  PT X a (fun σ H Q=>ta σ H fun x H'=>∃k,TruV X.K x H' k/\Q k H'):=by
 intro pins s σ H Q I h;exact isTrue_plain (thn (ha pins s σ H _ I h) fun v s1 ⟨x,H1,I1,r1,q1⟩=>y8p pins s1 σ H1 x v Q I1 r1 q1) (he _)
theorem op_add_str:OpR X (binaryOp .Add) (fun x y H Q=>∃i j,x=.str i/\y=.str j/\i.length+j.length<=sizeLine/\Q (.str (i++j)) H):=by
 intro pins s σ H x y v u Q I rx ry h;obtain⟨i,j,rfl,rfl,hz,q⟩:=h;obtain⟨t,rfl⟩:=rx;obtain⟨t',rfl⟩:=ry;exact add_str (fun t' tk=>⟨.str (i++j),H,I.tok _,⟨_,rfl⟩,q⟩) hz
theorem vals1{x:V}(r:Vals [x] us):∃u,us=[u]/\RelV x u:=by
 cases r with
 |cons r1 r2=>cases r2;exact⟨_,rfl,r1⟩
theorem vals2{x y:V}(r:Vals [x,y] us):∃u w',us=[u,w']/\RelV x u/\RelV y w':=by
 cases r with
 |cons r1 r2=>
  cases r2 with
  |cons r3 r4=>cases r4;exact⟨_,_,rfl,r1,r3⟩
theorem x6q(hc:X.calm=true):CallR X (.builtin "min") (fun xs H Q=>∃i j,xs=[.int i,.int j]/\Q (.int (if j<i then j else i)) H):=by
 intro pins s σ H xs us Q I r h;obtain⟨i,j,rfl,q⟩:=h;obtain⟨u,w',rfl,⟨t,rfl⟩,⟨t',rfl⟩⟩:=vals2 r;refine min_two_ints (I.ok.hd hc) fun h' tk k=>⟨_,H,I.kept k,?_,q⟩
 by_cases hj:j<i
 ·rw[if_pos hj,if_pos hj];exact⟨_,rfl⟩
 ·rw[if_neg hj,if_neg hj];exact⟨_,rfl⟩
theorem x6r:CallR X (.type "int") (fun xs H Q=>(∃i,xs=[.int i]/\Q (.int i) H)\/∃k,xs=[.bl k]/\Q (.int (if k then 1 else 0)) H):=by
 intro pins s σ H xs us Q I r h;rcases h with⟨i,rfl,q⟩|⟨k,rfl,q⟩
 ·obtain⟨u,rfl,t,rfl⟩:=vals1 r;exact call_int_int ⟨.int i,H,I,⟨_,rfl⟩,q⟩
 ·obtain⟨u,rfl,r1⟩:=vals1 r;cases r1;exact call_int_bool ⟨.int (if k then 1 else 0),H,I.tok _,⟨_,rfl⟩,q⟩
def LenV(K:Fg)(x:V)(H:Hp)(n:Nat):Prop:=
 match x with
 |.str y=>y.length<=sizeLine/\n=y.length
 |.byt y=>y.size<=sizeLine/\n=y.size
 |.ref p=>(∃xs,SqL K H p xs/\n=xs.length)\/∃xs,SqT K H p xs/\n=xs.length
 |_=>False
theorem x15:CallR X (.builtin "len") (fun xs H Q=>∃x n,xs=[x]/\LenV X.K x H n/\Q (.int n) H):=by
 intro pins s σ H xs us Q I r h;obtain⟨x,n,rfl,e,q⟩:=h;obtain⟨u,rfl,rx⟩:=vals1 r;have hl:=line63;have hs:sizeLine=16777216:=sizeLine_eq;cases x with
 |str y=>
  obtain⟨t,rfl⟩:=rx;obtain⟨hy,e'⟩:y.length<=sizeLine/\n=y.length:=e;subst e';exact len_str (by omega) ⟨.int _,H,I.tok _,⟨_,rfl⟩,q⟩
 |byt y=>
  obtain⟨t,rfl⟩:=rx;obtain⟨hy,e'⟩:y.size<=sizeLine/\n=y.size:=e;subst e';exact PySem.W.len_bytes (by omega) ⟨.int _,H,I.tok _,⟨_,rfl⟩,q⟩
 |ref p=>
  cases rx;have e':(∃xs,SqL X.K H p xs/\n=xs.length)\/∃xs,SqT X.K H p xs/\n=xs.length:=e;rcases e' with⟨xs,hx,e'⟩|⟨xs,hx,e'⟩
  ·subst e';obtain⟨its,r',pl,hz⟩:=I.list hx;have hlen:=r'.length;exact Calls.call_len_list pl.isList (by simp only[w0e];omega) ⟨.int xs.length,H,I.tok _,⟨_,by simp only[w0e];rw[hlen]⟩,q⟩
  ·subst e';obtain⟨its,r',pl,hz⟩:=I.tuple hx;have hlen:=r'.length;exact len_tuple pl (by simp only[w0e];omega) ⟨.int xs.length,H,I.tok _,⟨_,by simp only[w0e];rw[hlen]⟩,q⟩
 |_=>exact(show False from e).elim
end
structure ObjM(h:Heap)(x dx C:Addr)(mA:Str->Option Value):Prop where
 obj:h.get? x=some (PySem.W.instObj C dx)
 ns:h.Ns1 dx mA
 ne:dx≠x
theorem RelO.some_of{v:V}{o:Option Value}(r:RelO (some v) o):∃u,o=some u/\RelV v u:=by
 cases o with
 |none=>exact(show False from r).elim
 |some u=>exact⟨u,rfl,r⟩
structure Cls(K:Fg)(C:Addr):Prop where
 pg:PySem.W.plainGet K C Str.empty=true
 hd:PySem.W.hasDictIn K C=true
 po:PySem.W.plainOver K C=true
 sa:findIn K (.ref C) "__setattr__"=some (some (.builtin "object.__setattr__"))
structure Con(K:Fg)(C:Addr)(f:Str)(v:V)(u:Value):Prop where
 at_:findIn K (.ref C) f=some (some u)
 rel:RelV v u
 get:specialIn K u "__get__"=some none
 cp:PySem.W.copiedNames.contains f=false
structure Meth(K:Fg)(C:Addr)(m:Str)(f:Addr):Prop where
 at_:findIn K (.ref C) m=some (some (.ref f))
 fn:PySem.W.isFn K (.ref f)=true
 kp:keepIn K (.ref f)=true
section
variable{Q:Value->Shared->Prop}{c:Value}{b:Bool}
inductive TyOf(K:Fg)(H:Hp):V->Value->Prop where
 |non:TyOf K H .non (.type "NoneType")
 |bl (x:Bool):TyOf K H (.bl x) (.type "bool")
 |int (i:Int):TyOf K H (.int i) (.type "int")
 |str (x:Str):TyOf K H (.str x) (.type "str")
 |flt (x:UInt64):TyOf K H (.flt x) (.type "float")
 |lst {a:Addr} {xs:List V} (e:H a=some (.lst xs)):TyOf K H (.ref a) (.type "list")
 |frz {a:Addr} {o:Obj} {xs:List V} (e:H a=some (.frz o (.lst xs))):TyOf K H (.ref a) (.type "list")
 |tup {a:Addr} {xs:List V} (e:H a=some (.tup xs)):TyOf K H (.ref a) (.type "tuple")
 |dK {a:Addr} {kvs:List (Key×V)} (e:H a=some (.dK kvs)):TyOf K H (.ref a) (.type "dict")
 |dT {a:Addr} {sh:Sh} {kvs:List (Kx×V)} {kas:List Addr} (e:H a=some (.dT sh kvs kas)):TyOf K H (.ref a) (.type "dict")
 |ins {a C dx:Addr} {fs:List (Str×V)} (e:H a=some (.ins C dx fs)) (cl:Cls K C) (ha:findIn K (.ref C) "__class__"=some (some (.builtin "object.__class__")))
   (hn:specialIn K (.builtin "object.__class__") "__get__"=some (some (.builtin "getset_descriptor.__get__"))) (htk:PySem.W.takesIn K (.builtin "object.__class__")=some true)
   (hm:mroIn K C (.type "object")=some true):TyOf K H (.ref a) (.ref C)
end
structure Room(k:Nat)(A:Around):Prop where
 hd:A.handled=none
 dp:A.depth+3*k+5<recursionLimit
 un:A.units+16*k+200<cLine
 gd:A.guards=some []
theorem Room.deeper{k:Nat}(r:Room (k+1) A)(env:Env):Room k (A.deeper env):=
 ⟨r.hd,by have:=r.dp;show A.depth+1+3*k+5<_;omega,by have:=r.un;show A.units+3+16*k+200<_;omega,r.gd⟩
theorem Room.depth{k:Nat}(r:Room k A):A.depth<recursionLimit:=by have:=r.dp;omega
def tNil:TA:=fun _ H Q=>Q [] H
def tCons(ta:TE)(tr:TA):TA:=fun σ H Q=>ta σ H fun x H1=>tr σ H1 fun xs H2=>Q (x::xs) H2
section
variable{t:TA}
theorem q5k:PA X [] tNil:=fun _ _ _ _ H Q I h=>Calls.spliced_nil ⟨[],H,I,.nil,h⟩
theorem q2u(ha:PE X e te)(hr:PA X es t)(hs:starEach (e::es) X.env=(false,eval e X.env)::starEach es X.env:=by rfl):PA X (e::es) (tCons te t):=by
 intro pos pins s σ H Q I h;rw[hs];show wpAny _ _ (spliced ((false,eval e X.env)::backTo pos (starEach es X.env))) _ _ s;refine Calls.spliced_cons (thn (ha pins s σ H _ I h) fun u s1 ⟨x,H1,I1,r1,q1⟩=>?_)
 exact thn (hr pos pins s1 σ H1 _ I1 q1) fun us s2 ⟨xs,H2,I2,r2,q2⟩=>⟨x::xs,H2,I2,.cons r1 r2,q2⟩
def tTup(t:TA):TE:=fun σ H Q=>t σ H fun xs H1=>xs.length<=sizeLine/\∀p,H1 p=none->Q (.ref p) (upd H1 p (.tup xs))
def tLst(t:TA):TE:=fun σ H Q=>t σ H fun xs H1=>xs.length<=sizeLine/\∀p,H1 p=none->Q (.ref p) (upd H1 p (.lst xs))
theorem x16{x1}(h:PA X es t):PE X (.Tuple es x1 pos) (tTup t):=by
 intro pins s σ H Q I hq;refine wpAny_Tuple_spliced (thn (h pos pins s σ H _ I hq) fun us s1 ⟨xs,H1,I1,r,z,q⟩=>⟨by rw[<- r.length];exact z,?_⟩)
 have hf:H1 s1.heap.objs.size=none:=I1.hok.fresh (w0j _);refine⟨.ref s1.heap.objs.size,upd H1 s1.heap.objs.size (.tup xs),I1.laid (t':=s1.toks) (fun b u e=>Heap.get?_push_of_some _ e) (w0j _) ?_,rfl,q _ hf⟩
 exact⟨z,us,r,⟨_,Heap.get?_push_size _ rfl,rfl,_,rfl⟩,⟨_,Heap.get?_push_size _ rfl,rfl⟩⟩
theorem y8q(h:PA X es t):PE X (.List es pos) (tLst t):=by
 intro pins s σ H Q I hq;refine wpAny_List_spliced (thn (h pos pins s σ H _ I hq) fun us s1 ⟨xs,H1,I1,r,z,q⟩=>⟨by rw[<- r.length];exact z,?_⟩)
 have hf:H1 s1.heap.objs.size=none:=I1.hok.fresh (w0j _);refine⟨.ref s1.heap.objs.size,upd H1 s1.heap.objs.size (.lst xs),I1.laid (t':=s1.toks) (fun b u e=>Heap.get?_push_of_some _ e) (w0j _) ?_,rfl,q _ hf⟩
 exact⟨z,us,0,r,Heap.get?_push_size _ rfl⟩
end
abbrev Sp:=List V->Hp->VK->XK->Prop
variable{sp:Sp}
abbrev CXT:=List Env->Hp->Shared->XK->Value->Shared->Prop
variable{CX:CXT}
structure Env0(P:Program)(w:World)(K:Fg)(mg:Str->Option Value)(base:Heap)(A:Around)(outer:List Env)(s:Shared)(H:Hp):Prop where
 frames:A.frames=some outer
 mod:Mod K mg base
 bs:∀b o,base.get? b=some o->s.heap.get? b=some o/\H b=none
 bsz:base.objs.size<=s.heap.objs.size
 funs:s.heap.FunFrames base outer
 frf:∀b∈frs outer,H b=none
 hok:HOk P w H s.heap
 bare:AllBare s.gens
 tab:TabOk K H
def CE(outer:List Env)(P:Program)(w:World)(H:Hp)(s:Shared)(Q:VK)(u:Value)(s':Shared):Prop:=
 ∃v H',s'.os=s.os/\AllBare s'.gens/\Un (frs outer) [] H H' s.heap s'.heap/\HOk P w H' s'.heap/\RelV v u/\Q v H'
def CR(CX:CXT)(outer:List Env)(P:Program)(w:World)(H:Hp)(s:Shared)(Q:VK)(E:XK)(r:Result)(s':Shared):Prop:=
 match r with
 |.ok (.ret u)=>CE outer P w H s Q u s'
 |.ok _=>False
 |.error e=>CX outer H s E e s'
structure FnOk(P:Program)(w:World)(K:Fg)(mg:Str->Option Value)(base:Heap)(CX:CXT)(k:Nat)(f:Addr)(fd:FuncData)(ps:List Str)(sp:Sp):Prop where
 len:∀vs H Q E,sp vs H Q E->vs.length=ps.length
 run:∀(A:Around)(outer:List Env)(s:Shared)(H:Hp)(args:Args)(us:List Value)(vs:List V)(Q:VK)(E:XK),Room k A->Env0 P w K mg base A outer s H->BindsTo s fd args (ps.zip us)->Vals vs us->sp vs H Q E ->
  codeAny (model P w) A (.call (.ref f) args) (CR CX outer P w H s Q E) s
theorem FnOk.imp{k:Nat}{f:Addr}{sp':Sp}(F:FnOk P w K mg base CX k f fd ps sp)
  (h:∀vs H Q E,sp' vs H Q E->sp vs H Q E):FnOk P w K mg base CX k f fd ps sp':=
 ⟨fun vs H Q E q=>F.len vs H Q E (h _ _ _ _ q),fun A outer s H args us vs Q E hr he hb hv hs=>F.run A outer s H args us vs Q E hr he hb hv (h _ _ _ _ hs)⟩
section
variable{s':Shared}
theorem Inv.env0(I:Inv X pins σ H s):Env0 X.prog X.w X.K X.mg X.base X.A X.stack s H:=
 ⟨I.ok.frames,I.ok.mod,I.bs,w1d I.ok.bsz I.sz,I.stack,I.stkFree,I.hok,I.bare,I.ok.tab.un I.base⟩
theorem Inv.after{Q:VK}(I:Inv X pins σ H s)(h:CE X.stack X.prog X.w H s Q u s'):EP X pins σ Q u s':=by
 obtain⟨v,H',os,bare,un,hok,r,q⟩:=h;obtain⟨hh,g,d,t,os'⟩:=s';obtain rfl:os'=s.os:=os;exact⟨v,H',I.call (h':=hh) (g':=g) (d':=d) (t':=t) (ch:=[]) un hok bare (fun b z=>absurd z (by simp)),r,q⟩
end
def Binds(K:Fg)(fd:FuncData)(ps:List Str)(ds:List Value):Prop:=
 ∀(s:Shared)(us:List Value),K.In s.heap->(us++ds).length=ps.length->BindsTo s fd ⟨us,[]⟩ (ps.zip (us++ds))
theorem Binds.all(h:∀us:List Value,us.length=ps.length->bindArgs fd ⟨us,[]⟩=pure (ps.zip us)):Binds K fd ps []:=fun s us _ hl=>by
 rw[w1j]at hl |-
 exact .of_eq (h us hl)
section
variable{k:Nat}{f C:Addr}{dvs:List V}{ds:List Value}{E:XK}{m:Str}{apos:Pos}{o:Expr}{t:TA}
structure Mk(K:Fg)(C f:Addr):Prop where
 makes:PySem.W.makesIn K C=true
 init:findIn K (.ref C) "__init__"=some (some (.ref f))
 fn:PySem.W.isFn K (.ref f)=true
 kp:keepIn K (.ref C)=true
end
section
variable{k:Nat}{f C:Addr}{ks:List Str}{E:XK}{m:Str}{apos kpos:Pos}{o:Expr}{kws:List Keyword}{t tk:TA}{nm:Option Str}
structure KBinds(K:Fg)(fd:FuncData)(ps ks:List Str)(g:List Value->List Value->List Value)(gV:List V->List V->List V):Prop where
 to:∀(s:Shared)(us ws:List Value),K.In s.heap->(g us ws).length=ps.length->BindsTo s fd ⟨us,ks.zip ws⟩ (ps.zip (g us ws))
 rel:∀{vs:List V}{us:List Value}{zs:List V}{ws:List Value},Vals vs us->Vals zs ws->Vals (gV vs zs) (g us ws)
variable{g:List Value->List Value->List Value}{gV:List V->List V->List V}
end
structure FnScope(N P:List Str)(sc:Scope):Prop where
 kind:sc.kind=.function
 co:sc.isCoroutine=false
 gen:sc.isGenerator=false
 nd:N.Nodup
 pre:N.take P.length=P
 par:∀x∈P,sc.names.lookup x=some .local\/sc.names.lookup x=some .cell
 nofree:∀y∈sc.names,y.2≠.free
theorem x0q{kindOf:Str->Option NameKind}:∀{binds:List (Str×Value)}{m:Str->Option Value},(∀v,(x,v)∉binds)->bindL kindOf binds m x=m x
 |[],_,_=>rfl
 |(n,v)::r,m,h=>by
  unfold bindL;rw[x0q fun w hw=>h w (w0t _ hw)]
  split
  ·have:x≠n:=by rintro rfl;exact h v w1f
   simp[this]
  ·rfl
theorem x0r{kindOf:Str->Option NameKind}:∀{binds:List (Str×Value)}{m:Str->Option Value},(∀v,(x,v)∉binds)->bindC kindOf binds m x=m x
 |[],_,_=>rfl
 |(n,v)::r,m,h=>by
  unfold bindC;rw[x0r fun w hw=>h w (w0t _ hw)]
  split
  ·rfl
  ·have:x≠n:=by rintro rfl;exact h v w1f
   simp[this]
theorem x0s{kindOf:Str->Option NameKind}{x:Str}{v:Value}:∀{P:List Str}{vs:List Value}{i:Nat}{m:Str->Option Value},P.Nodup->P[i]?=some x->vs[i]?=some v->kindOf x=some .local ->
  bindL kindOf (P.zip vs) m x=some v
 |[],_,_,_,_,h,_,_=>by simp at h
 |_::_,[],_,_,_,_,h,_=>by simp at h
 |p::P,w::vs,0,m,nd,h1,h2,hk=>by
  simp at h1 h2;subst h1;subst h2;show bindL kindOf ((p,w)::P.zip vs) m p=_;unfold bindL;rw[x0q fun v hv=>(w1r.mp nd).1 (w2k hv).1,if_pos hk]
  simp
 |p::P,w::vs,i+1,m,nd,h1,h2,hk=>by
  show bindL kindOf ((p,w)::P.zip vs) m x=_;unfold bindL;exact x0s (i:=i) (w1r.mp nd).2 (by simpa using h1) (by simpa using h2) hk
theorem x0t{kindOf:Str->Option NameKind}{x:Str}{v:Value}:∀{P:List Str}{vs:List Value}{i:Nat}{m:Str->Option Value},P.Nodup->P[i]?=some x->vs[i]?=some v->kindOf x≠some .local ->
  bindC kindOf (P.zip vs) m x=some v
 |[],_,_,_,_,h,_,_=>by simp at h
 |_::_,[],_,_,_,_,h,_=>by simp at h
 |p::P,w::vs,0,m,nd,h1,h2,hk=>by
  simp at h1 h2;subst h1;subst h2;show bindC kindOf ((p,w)::P.zip vs) m p=_;unfold bindC;rw[x0r fun v hv=>(w1r.mp nd).1 (w2k hv).1,if_neg hk]
  simp
 |p::P,w::vs,i+1,m,nd,h1,h2,hk=>by
  show bindC kindOf ((p,w)::P.zip vs) m x=_;unfold bindC;exact x0t (i:=i) (w1r.mp nd).2 (by simpa using h1) (by simpa using h2) hk
def start(N:List Str)(vs:List V):St:=vs.map some++List.replicate (N.length-vs.length) none
def cxOf(CX:CXT)(P:Program)(w:World)(K:Fg)(mg:Str->Option Value)(base:Heap)(N:List Str)(qual:Str)(scope:Scope)(f:Addr)(cd:Value)(A:Around)(outer:List Env)(s:Shared)(H:Hp)(E:XK):Cx where
 prog:=P
 w:=w
 K:=K
 mg:=mg
 base:=base
 A:=A.deeper (envOfC qual scope s.heap.objs.size f cd)
 N:=N
 s₀:=s
 H₀:=H
 env:=envOfC qual scope s.heap.objs.size f cd
 outer:=outer
 stack:=envOfC qual scope s.heap.objs.size f cd::outer
 ex:=[]
 calm:=true
 fn:=fun _=>true
 pn:=[]
 xe:=fun e s'=>wpAny (model P w) (A.deeper (envOfC qual scope s.heap.objs.size f cd)) (leaving (envOfC qual scope s.heap.objs.size f cd) e) (fun _ s''=>CX outer H s E e s'') (fun e' s''=>CX outer H s E e' s'') s'
theorem x17{sc:Scope}{n:Nat}(h:sc.names.lookup x=some .cell):∃c,(cellsFrom n sc.names []).lookup x=some c:=by
 have q:=PySem.W.cellsFrom_some sc.names n [] (.inl h);exact w3s.mp q
theorem x6s{qual:Str}{scope:Scope}{f:Addr}{cd:Value}{outer:List Env}{s1:Shared}{E:XK}{vs:List V}
  (S:FnScope N ps scope)(hd:A.handled=none)(e0:Env0 P w K mg base A outer s H)(hl:vs.length=ps.length)(r:Vals vs us)
  (x:InCallC s s.heap.objs.size (bindL (envOfC qual scope s.heap.objs.size f cd).kindOf (ps.zip us) fun _=>none) (cellsFrom (s.heap.objs.size+1) scope.names []) (bindC (envOfC qual scope s.heap.objs.size f cd).kindOf (ps.zip us) fun _=>none) s1):
  Inv (cxOf CX P w K mg base N qual scope f cd A outer s H E) [] (start N vs) H s1:=by
 have hpl:ps.length<=N.length:=by have:=congrArg List.length S.pre;rw[w3w]at this;omega
 obtain⟨h1,tk,rfl,hk⟩:=x.done;have noA:∀b:Addr,b∉(cxOf CX P w K mg base N qual scope f cd A outer s H E).ex:=fun b z=>absurd (show b∈([]:List Addr)from z) (by simp)
 refine⟨⟨e0.mod,S.kind,rfl,rfl,w0j _,fun y z c h1 h2=>?_,fun y hy=>?_,fun y c _ h=>?_,fun _=>hd,Around.frames_deeper e0.frames,.inr ⟨rfl,rfl⟩,fun b z=>absurd z (noA b),e0.bs,e0.bsz,fun b _ _=>noA b,fun b z=>absurd z (noA b),e0.funs,e0.frf,e0.tab⟩,
  rfl,e0.bare,Un.kept hk,⟨_,x.toInCall.ns,fun i y v h1 h2 h3=>?_⟩,fun y c h=>⟨_,x.cell y c h⟩,e0.hok.fresh (w0j _),fun y c h=>?_,fun p hp=>absurd (show p∈([]:List (Addr×Obj))from hp) (by simp),e0.hok.kept hk,?_⟩
 ·exact name_of_addr x.apart (PySem.mem_of_lookup h1) (PySem.mem_of_lookup h2)
 ·have hy:scope.names.lookup y=some .cell\/scope.names.lookup y=some .free:=hy;rcases hy with hy|hy
  ·exact x17 hy
  ·exact absurd rfl (S.nofree _ (PySem.mem_of_lookup hy))
 ·exact w4n (x.above y c (PySem.mem_of_lookup h))
 ·have hi:i<vs.length:=by
   unfold start at h2
   by_cases hi:i<vs.length
   ·exact hi
   ·rw[w1e (by simpa using hi)]at h2;rw[w2v]at h2;split at h2<;>cases h2
  have ha:vs[i]?=some v:=by
   unfold start at h2;rw[w1c (by simpa using hi),w0i]at h2;cases e:vs[i]? with
   |none=>rw[e]at h2;cases h2
   |some a=>rw[e]at h2;cases h2;rfl
  obtain⟨u,hu,rv⟩:=r.get ha
  have hp:ps[i]?=some y:=by
   rw[<- S.pre,List.getElem?_take_of_lt (by omega)];exact h1
  have ndP:ps.Nodup:=by rw[<- S.pre];exact S.nd.sublist (List.take_sublist _ _)
  refine⟨u,rv,?_⟩;rcases S.par y (w0m hp)with k|k
  ·exact .inl ⟨k,x0s ndP hp hu k⟩
  ·obtain⟨c,e⟩:=x17 (n:=s.heap.objs.size+1) k;refine .inr ⟨.inl k,c,e,?_⟩;have q:=x.cell y c e;rw[x0t ndP hp hu (by show scope.names.lookup y≠_;rw[k];decide)]at q;exact q
 ·exact e0.hok.fresh (w4n (x.above y c (PySem.mem_of_lookup h)))
 ·unfold start;show _=N.length;rw[w1o,w0a,w1w];omega
theorem y3r{k:Nat}{f:Addr}{name qual:Str}{params:Arguments}{body:List Stmt}{scope:Scope}{dV kV doc pm cdv ct oc:Value}{an od:Option Addr}
  {osl:Array (Option Value)}(lk:K.lookup f=some ⟨oc,od,.func (PySem.W.fnOf name qual params body scope dV kV doc pm an cdv ct),osl⟩)(hcd:PySem.W.codeIn K cdv qual=true)(S:FnScope N ps scope)
  (len:∀vs H Q E,sp vs H Q E->vs.length=ps.length)
  (hbody:∀(A:Around)(outer:List Env)(s:Shared)(H:Hp)(vs:List V)(Q:VK)(E:XK),Room k (A.deeper (envOfC qual scope s.heap.objs.size f cdv))->sp vs H Q E ->
   ∃t,PSs (cxOf CX P w K mg base N qual scope f cdv A outer s H E) body t/\t {nx:=fun _ H'=>Q .non H',rt:=Q} (start N vs) H):
  FnOk P w K mg base CX (k+1) f (PySem.W.fnOf name qual params body scope dV kV doc pm an cdv ct) ps sp:=by
 refine⟨len,fun A outer s H args us vs Q E hr e0 hb r hsp=>?_⟩
 have hl:=len _ _ _ _ hsp;have KX:K.In s.heap:=e0.mod.kin.keeps fun b o e=>(e0.bs b o e).1
 have lim:s.heap.NoLimit:=e0.mod.nolimit.keeps fun b o e=>(e0.bs b o e).1
 have hkind:∀y∈ps.zip us,scope.names.lookup y.1=some .local\/(scope.names.lookup y.1=some .cell/\((cellsFrom (s.heap.objs.size+1) scope.names []).lookup y.1).isSome=true):=fun⟨n,v⟩ hy=>by
  rcases S.par n (w2k hy).1 with q|q
  ·exact .inl q
  ·exact .inr ⟨q,PySem.W.cellsFrom_some _ _ _ (.inl q)⟩
 refine codeAny_call_function hr.depth (KX _ _ lk) rfl S.co S.gen rfl (PySem.W.codeRec_of KX hcd) (hb _ _ _ _ ?_)
 refine wpAny_newFunctionEnv_cells S.kind hkind fun env he s1 x=>?_
 subst he;refine⟨lim.keeps x.toInCall.keep,codeAny_func ?_⟩
 obtain⟨t,ht,hq⟩:=hbody A outer s H vs Q E (hr.deeper _) hsp;have I:Inv (cxOf CX P w K mg base N qual scope f cdv A outer s H E) [] (start N vs) H s1:=x6s S hr.hd e0 hl r x;refine wpAny_mono (ht [] s1 (start N vs) H _ I hq) (fun fl s' hs=>?_) fun e s' hs=>hs
 have fin:∀{σ':St}{H':Hp}{v:V}{u:Value},Inv (cxOf CX P w K mg base N qual scope f cdv A outer s H E) [] σ' H' s'->RelV v u->Q v H'->CE outer P w H s Q u s':=
  fun {σ' H' v u} J rv q=>⟨v,H',J.os,J.bare,J.base,J.hok,rv,q⟩
 cases fl with
 |ret u=>
  obtain⟨v,σ',H',J,rv,q⟩:=hs;exact fin J rv q
 |next=>
  obtain⟨σ',H',J,q⟩:=hs;exact fin (v:=V.non) (u:=Value.none) J rfl q
 |brk=>
  obtain⟨_,_,_,q⟩:=hs;exact False.elim q
 |cont=>
  obtain⟨_,_,_,q⟩:=hs;exact False.elim q
section
variable{t:TA}{id T:String}{r:List V->Hp->VK->Prop}
def tCB(r:List V->Hp->VK->Prop)(t:TA):TE:=fun σ H Q=>t σ H fun vs H1=>r vs H1 Q
theorem x18(hc:CallR X (.builtin id) r)(hg:Gl X x)(hm:X.mg x=none)(hv:bootBuiltins x=some (.builtin id))(ha:PA X (e::es) t)(hn:x≠"__name__":=by decide)(hdb:(x==("__debug__":Str))=false:=by decide)
  (he:starEach (e::es) X.env=(false,eval e X.env)::starEach es X.env:=by rfl)(hpl:(backTo pos (starEach es X.env)).any (·.1)=false:=by rfl):PE X (.Call (.Name x p) (e::es) [] pos) (tCB r t):=by
 intro pins s σ H Q I h;refine wpAny_Call_Name_kw (q43 I hg hm hv ?_ hn hdb);exact PyProof.Rows.callWith_builtin1 (thn (ha pos pins s σ H _ I h) fun us s1 ⟨vs,H1,I1,r1,q1⟩=>hc pins s1 σ H1 vs us Q I1 r1 q1) he hpl
theorem x0u(hc:CallR X (.type T) r)(hg:Gl X x)(hm:X.mg x=none)(hv:bootBuiltins x=some (.type T))(ha:PA X (e::es) t)(hn:x≠"__name__":=by decide)(hdb:(x==("__debug__":Str))=false:=by decide)
  (he:starEach (e::es) X.env=(false,eval e X.env)::starEach es X.env:=by rfl)(hpl:(backTo pos (starEach es X.env)).any (·.1)=false:=by rfl):PE X (.Call (.Name x p) (e::es) [] pos) (tCB r t):=by
 intro pins s σ H Q I h;refine wpAny_Call_Name_kw (q43 I hg hm hv ?_ hn hdb);exact PyProof.Rows.callWith_type1 (thn (ha pos pins s σ H _ I h) fun us s1 ⟨vs,H1,I1,r1,q1⟩=>hc pins s1 σ H1 vs us Q I1 r1 q1) he hpl
end
end L2
namespace HT
open PySem PyProof.Rows
section
variable{prog:Program}{w:World}{A:Around}{E:Value->Shared->Prop}{s:Shared}
theorem cat_tup{t b:Addr}{vs ws:List Value}{Q:Value->Shared->Prop}(ht:IsTup s.heap t vs.toArray)(hb:IsTup s.heap b ws.toArray)(hv:vs≠[])
  (h1:ws=[]->Q (.ref t) s)(h2:ws≠[]->Q (.ref s.heap.objs.size) {s with heap:=s.heap.push {cls:=.type "tuple", data:=.seq (vs++ws).toArray}})
  (hsz:vs.length+ws.length<=sizeLine):wpAny (model prog w) A (binaryOp .Add (.ref t) (.ref b)) Q E s:=by
 obtain⟨⟨cls,dd,data,sl⟩,ho,hc,n,hd⟩:=id ht;obtain⟨⟨cls2,dd2,data2,sl2⟩,ho2,hc2,n2,hd2⟩:=id hb;simp only at hc hd hc2 hd2;subst hc hd hc2 hd2;have e:vs.toArray++ws.toArray=(vs++ws).toArray:=by simp
 by_cases hw:ws=[]
 ·exact concat_meets ⟨_,ho,rfl⟩ ⟨_,ho2,rfl⟩ noFill_tuple_add seq_tuple_add PySem.F.slot_tuple_add PySem.F.entry_tuple_add (PySem.F.args_tuple_add_2 _ _)
   (tuple_addW1 t b vs.toArray ws.toArray n n2 dd dd2 sl sl2 (by simpa using hv) (by simp[hw])) ⟨ho,ho2,h1 hw⟩
 ·refine concat_meets ⟨_,ho,rfl⟩ ⟨_,ho2,rfl⟩ noFill_tuple_add seq_tuple_add PySem.F.slot_tuple_add PySem.F.entry_tuple_add (PySem.F.args_tuple_add_2 _ _)
   (tuple_addW2 t b vs.toArray ws.toArray n n2 dd dd2 sl sl2 (by simpa using hv) (by simpa using hw) (by rw[w0e,w0e];exact hsz)) ⟨ho,ho2,?_⟩
  rw[e];exact h2 hw
def sIx(n d:Nat):Option Int->Nat
 |none=>d
 |some v=>if v<0 then(v+(n:Int)).toNat else min v.toNat n
end
end HT
namespace L2
open PySem PySem.Spec PyProof.Rows
variable{A:Around}{X:Cx}{H:Hp}{pins:List (Addr×Obj)}{xs:List V}{its us:List Value}{n:Nat}{s:Shared}{σ:St}{α:Type}{x:V}{v:Value}
abbrev TO:=St->Hp->(Option Int->Hp->Prop)->Prop
def PO(X:Cx)(e:Option Expr)(t:TO):Prop:=
 ∀(pins:List (Addr×Obj))(s:Shared)(σ:St)(H:Hp)(Q:Option Int->Hp->Prop),Inv X pins σ H s->t σ H Q ->
  wpAny (model X.prog X.w) X.A (evalPart e X.env) (fun u s'=>∃o H',Inv X pins σ H' s'/\IsPart u o/\Q o H') X.xe s
section
variable{e:Expr}{te:TE}{lo hi:Option Expr}{tl th:TO}{pos p2:Pos}
def SlR(X:Cx)(r:V->Option Int->Option Int->Hp->VK->Prop):Prop:=
 ∀(pins:List (Addr×Obj))(s:Shared)(σ:St)(H:Hp)(x:V)(v vl vu:Value)(lo hi:Option Int)(sl:Addr)(Q:VK),Inv X pins σ H s->RelV x v->s.heap.IsSliceOf sl vl vu .none->IsPart vl lo->IsPart vu hi->r x lo hi H Q ->
  ∃T id,typeLookup (.type T) "__getitem__"=pure (some (.builtin id))/\s.TypeIs v T/\wpAny (model X.prog X.w) X.A (getItem v (.ref sl)) (EP X pins σ Q) X.xe s
def rCatT(K:Fg):R2:=fun x y H Q=>∃a b xs ys,x=.ref a/\y=.ref b/\SqT K H a xs/\SqT K H b ys/\xs≠[]/\xs.length+ys.length<=sizeLine /\
 (ys=[]->Q (.ref a) H)/\(ys≠[]->∀p,H p=none->Q (.ref p) (upd H p (.tup (xs++ys))))
theorem Vals.nil_iff(r:Vals xs us):us=[]↔xs=[]:=by
 cases r with
 |nil=>simp
 |cons _ _=>simp
theorem op_catT:OpR X (binaryOp .Add) (rCatT X.K):=by
 intro pins s σ H x y v u Q I rx ry h;obtain⟨a,b,xs,ys,rfl,rfl,ha,hb,hx,hz,q1,q2⟩:=h;cases rx;cases ry;obtain⟨its,r1,p1,_⟩:=I.tuple ha;obtain⟨its2,r2,p2,_⟩:=I.tuple hb;refine HT.cat_tup p1 p2 (fun z=>hx (r1.nil_iff.mp z)) (fun z=>⟨.ref a,H,I,rfl,q1 (r2.nil_iff.mp z)⟩) (fun z=>?_) (by rw[<- r1.length,<- r2.length];exact hz)
 refine⟨.ref s.heap.objs.size,_,I.laid (t':=s.toks) (o:=.tup (xs++ys)) (fun b ob q=>Heap.get?_push_of_some _ q) (w0j _) ?_,rfl,q2 (fun w=>z (r2.nil_iff.mpr w)) _ (I.hok.fresh (w0j _))⟩
 exact⟨by rw[w1o];exact hz,_,r1.append r2,IsTup.new _ _,_,Heap.get?_push_size _ rfl,rfl⟩
end
def ixN(n:Nat)(i:Int):Option Nat:=if 0<=i then(if i<n then some i.toNat else none)else if -(n:Int)<=i then some (i+n).toNat else none
def atI(xs:List α)(i:Int):Option α:=(ixN xs.length i).bind fun j=>xs[j]?
theorem q9s{i:Int}{j:Nat}(h:ixN n i=some j):seqIndex? i n=some j/\j<n/\-(n:Int)<=i/\i<n:=by
 unfold ixN at h
 by_cases h0:0<=i
 ·rw[if_pos h0]at h
  by_cases h1:i<n
  ·rw[if_pos h1]at h;have e:i.toNat=j:=Option.some.inj h;exact⟨by rw[seqIndex_of h0 h1,e],by omega,by omega,h1⟩
  ·rw[if_neg h1]at h;cases h
 ·rw[if_neg h0]at h
  by_cases h1:-(n:Int)<=i
  ·rw[if_pos h1]at h;have e:(i+n).toNat=j:=Option.some.inj h;exact⟨by rw[seqIndex_neg (by omega) h1,e],by omega,h1,by omega⟩
  ·rw[if_neg h1]at h;cases h
theorem q9t{xs:List α}{i:Int}{v:α}(h:atI xs i=some v):∃j,seqIndex? i xs.length=some j/\xs[j]?=some v/\j<xs.length/\-(xs.length:Int)<=i/\i<xs.length:=by
 unfold atI at h;cases e:ixN xs.length i with
 |none=>rw[e]at h;cases h
 |some j=>
  rw[e]at h;obtain⟨h1,h2,h3,h4⟩:=q9s e;exact⟨j,h1,h,h2,h3,h4⟩
theorem q14{xs:List α}{j:Nat}{v:α}(h:xs[j]?=some v):atI xs (j:Int)=some v:=by
 have hj:j<xs.length:=(w0b.mp h).1
 have e:ixN xs.length (j:Int)=some j:=by
  unfold ixN;rw[if_pos (by omega),if_pos (by omega)];simp
 unfold atI;rw[e];exact h
def PlainIx(b:Expr):Prop:=∀o i,subscripted b false o i=operate [o,i] (getItem o i)
def IxR(X:Cx)(r:R2):Prop:=
 ∀(value slice:Expr)(pins:List (Addr×Obj))(s:Shared)(σ:St)(H:Hp)(x y:V)(v u:Value)(Q:VK),Inv X pins σ H s->RelV x v->RelV y u->r x y H Q ->
  subscripted slice false v u=operate [v,u] (getItem v u)->wpAny (model X.prog X.w) X.A (subscriptTail value slice v u) (EP X pins σ Q) X.xe s
def MtR(X:Cx)(id:String)(r:V->List V->Hp->VK->Prop):Prop:=
 ∀(pins:List (Addr×Obj))(s:Shared)(σ:St)(H:Hp)(x:V)(xs:List V)(v:Value)(us:List Value)(Q:VK),Inv X pins σ H s->RelV x v->Vals xs us->r x xs H Q ->
  wpAny (model X.prog X.w) X.A (call (.builtin id) (v::us)) (EP X pins σ Q) X.xe s
section
variable{a b:Expr}{ta tb:TE}{pos:Pos}
theorem IxR.or{r r':R2}(h:IxR X r)(h':IxR X r'):IxR X (fun x y H Q=>r x y H Q\/r' x y H Q):=by
 intro value slice pins s σ H x y v u Q I rx ry q hs;rcases q with q|q
 ·exact h value slice pins s σ H x y v u Q I rx ry q hs
 ·exact h' value slice pins s σ H x y v u Q I rx ry q hs
theorem q8z{r:R2}(hr:IxR X r)(ha:PE X a ta)(hb:PE X b tb)(hs:PlainIx b):PE X (.Subscript a b pos) (tOp r ta tb):=by
 intro pins s σ H Q I h;exact Subscript_ (binT ha hb I h fun v u s2 x y H2 I2 rx ry q=>hr a b pins s2 σ H2 x y v u Q I2 rx ry q (hs _ _))
def rIxL(K:Fg):R2:=fun x y H Q=>∃p xs i v,x=.ref p/\y=.int i/\SqL K H p xs/\atI xs i=some v/\Q v H
def rIxT(K:Fg):R2:=fun x y H Q=>∃p xs i v,x=.ref p/\y=.int i/\SqT K H p xs/\atI xs i=some v/\Q v H
def rIxS:R2:=fun x y H Q=>∃z i c,x=.str z/\y=.int i/\z.length<=sizeLine/\atI z.cps.toList i=some c/\Q (.str ⟨#[c]⟩) H
theorem ix_list:IxR X (rIxL X.K):=by
 intro value slice pins s σ H x y v u Q I rx ry h hs;obtain⟨p,xs,i,z,rfl,rfl,hq,he,q⟩:=h;cases rx;obtain⟨t,rfl⟩:=ry;obtain⟨its,r,pl,hz⟩:=I.list hq;obtain⟨j,h1,h2,h3,h4,h5⟩:=q9t he;obtain⟨w,ew,rw'⟩:=r.get h2;have hl:=r.length;have hn:=line63;have fin:EP X pins σ Q w s:=⟨z,H,I,rw',q⟩
 by_cases h0:0<=i
 ·have hj:i.toNat=j:=by
   rw[seqIndex_of h0 h5]at h1;exact Option.some.inj h1
  exact item_listR pl.isList h0 (by omega) (by rw[hj];simpa using ew) fin hs
 ·have hj:(i+(its.toArray.size:Int)).toNat=j:=by
   rw[seqIndex_neg (by omega) h4]at h1;rw[w0e,<- hl];exact Option.some.inj h1
  exact subscriptTail_builtinR (x:=w) pl.isList.typeIs slot_list_getitem.lookup
   (wpAny_getItem_list_neg (Q:=fun r s'=>r=w/\EP X pins σ Q r s') pl.isList (by omega) (by rw[w0e]<;>omega) (by omega) (by rw[hj];simpa using ew) ⟨rfl,fin⟩) hs
theorem ix_tup:IxR X (rIxT X.K):=by
 intro value slice pins s σ H x y v u Q I rx ry h hs;obtain⟨p,xs,i,z,rfl,rfl,hq,he,q⟩:=h;cases rx;obtain⟨t,rfl⟩:=ry;obtain⟨its,r,pl,hz⟩:=I.tuple hq;obtain⟨j,h1,h2,h3,h4,h5⟩:=q9t he;obtain⟨w,ew,rw'⟩:=r.get h2;have hl:=r.length;have hn:=line63;have fin:EP X pins σ Q w s:=⟨z,H,I,rw',q⟩
 exact subscriptTail_builtinR (x:=w) pl.typeIs slot_tuple_getitem.lookup
  (getItem_tuple (j:=j) (Q:=fun r s'=>r=w/\EP X pins σ Q r s') pl (by omega) (by omega) (by rw[w0e,<- hl];exact h1) (by simpa using ew) ⟨rfl,fin⟩) hs
theorem y8r:IxR X rIxS:=by
 intro value slice pins s σ H x y v u Q I rx ry h hs;obtain⟨z,i,c,rfl,rfl,hz,he,q⟩:=h;obtain⟨t,rfl⟩:=rx;obtain⟨t',rfl⟩:=ry;obtain⟨j,h1,h2,h3,h4,h5⟩:=q9t he;have hl:z.cps.toList.length=z.length:=by simp[Str.length]
 rw[hl]at h1 h4 h5;have hn:=line63
 exact tail_any (typeIs_str s z t) slot_str_getitem.lookup (getItem_str (c:=c) (by
  have e1:decide (i < -(2^63:Int))=false:=decide_eq_false (by omega);have e2:decide (i>=2^63)=false:=decide_eq_false (by omega);rw[e1,e2,Bool.or_false]) (by rw[h1];simpa using h2) ⟨.str ⟨#[c]⟩,H,I.tok _,⟨_,rfl⟩,q⟩) hs
def rIx(K:Fg):R2:=fun x y H Q=>rIxL K x y H Q\/rIxT K x y H Q\/rIxS x y H Q
theorem x6t:IxR X (rIx X.K):=ix_list.or (ix_tup.or y8r)
theorem x5n(its:List Value)(n j:Nat)(u:Value):Obj.mapSeq (·.setIfInBounds j u) {cls:=.type "list", data:=.seq its.toArray n}={cls:=.type "list", data:=.seq (its.set j u).toArray n}:=by
 simp[Obj.mapSeq]
theorem Inv.lst{p:Addr}(I:Inv X pins σ H s)(h:H p=some (.lst xs)):
  ∃(its:List Value)(n:Nat),Vals xs its/\s.heap.get? p=some {cls:=.type "list", data:=.seq its.toArray n}/\xs.length<=sizeLine:=by
 obtain⟨z,its,n,r,e⟩:=I.hok p _ h;exact⟨its,n,r,e,z⟩
theorem Inv.lstUpd{p:Addr}{ys:List V}{its':List Value}{n':Nat}{f:Obj->Obj}(I:Inv X pins σ H s)(h:H p=some (.lst xs))
  (ho:s.heap.get? p=some {cls:=.type "list", data:=.seq its.toArray n})(hf:f {cls:=.type "list", data:=.seq its.toArray n}={cls:=.type "list", data:=.seq its'.toArray n'})(r:Vals ys its')(hz:ys.length<=sizeLine)(t:Nat):
  Inv X pins σ (upd H p (.lst ys)) {s with heap:=s.heap.update p f,toks:=t}:=by
 have e:(s.heap.update p f).get? p=some {cls:=.type "list", data:=.seq its'.toArray n'}:=by
  rw[Heap.get?_update_self f ho (by rw[hf]<;>rfl),hf]
 refine I.write (x:=p) (e:=p) (by rw[h];trivial) (.inl rfl) (fun b u hb q=>(Heap.get?_update_other _ _ (Ne.symm hb)).trans q) ⟨_,e⟩ ?_
 exact⟨hz,its',n',r,e⟩
def rSetL:V->V->V->Hp->(Hp->Prop)->Prop:=fun o i v H Q=>∃p xs k j,o=.ref p/\i=.int k/\H p=some (.lst xs)/\ixN xs.length k=some j/\Q (upd H p (.lst (xs.set j v)))
theorem x19:PSet X rSetL:=by
 intro pins s σ H o i v ov iv u Q I ro ri rv h;obtain⟨p,xs,k,j,rfl,rfl,hp,hj,q⟩:=h;cases ro;obtain⟨t,rfl⟩:=ri;obtain⟨its,n,r,ho,hz⟩:=I.lst hp;obtain⟨h1,h2,h3,h4⟩:=q9s hj;have hl:=r.length;have hn:=line63
 have I':Inv X pins σ (upd H p (.lst (xs.set j v))) {s with heap:=s.heap.update p (Obj.mapSeq (·.setIfInBounds j u))}:=
  I.lstUpd hp ho (x5n its n j u) (r.set rv j) (by rw[w2e];exact hz) s.toks
 by_cases h0:0<=k
 ·have hk:k.toNat=j:=by
   rw[seqIndex_of h0 h4]at h1;exact Option.some.inj h1
  exact PySem.W.ki_setAt ho h0 (by omega) (by rw[w0e,<- hl];exact h4) (by rw[hk];exact⟨_,I',q⟩)
 ·have hk:(k+(its.toArray.size:Int)).toNat=j:=by
   rw[seqIndex_neg (by omega) h3]at h1;rw[w0e,<- hl];exact Option.some.inj h1
  exact PySem.W.ki_setBack ho (by omega) (by rw[w0e,<- hl];exact h3) (by omega) (by rw[hk];exact⟨_,I',q⟩)
def flatV:V->Bool
 |.non=>true
 |.bl _=>true
 |.int _=>true
 |.str _=>true
 |_=>false
def eqV:V->V->Bool
 |.non,.non=>true
 |.bl a,.bl b=>a==b
 |.bl a,.int b=>(if a then 1 else 0)==b
 |.int a,.bl b=>a==(if b then 1 else 0)
 |.int a,.int b=>a==b
 |.str a,.str b=>a==b
 |_,_=>false
theorem y8s{y:V}{u:Value}(ry:RelV y u)(rx:RelV x v)(fy:flatV y=true)(fx:flatV x=true):SeqAt.EqAt A s u v (eqV y x):=by
 cases y with
 |non=>
  cases ry;cases x with
  |non=>cases rx;exact SeqAt.EqAt.same _
  |bl b=>cases rx;exact SeqAt.EqAt.none_bool b
  |int b=>obtain⟨t,rfl⟩:=rx;exact SeqAt.EqAt.none_int b t
  |str b=>obtain⟨t,rfl⟩:=rx;exact SeqAt.EqAt.none_str b t
  |_=>exact absurd (show false=true from fx) w0r
 |bl a=>
  cases ry;cases x with
  |non=>cases rx;exact SeqAt.EqAt.bool_none a
  |bl b=>cases rx;exact SeqAt.EqAt.bool_bool a b
  |int b=>obtain⟨t,rfl⟩:=rx;exact SeqAt.EqAt.bool_int a b t
  |str b=>obtain⟨t,rfl⟩:=rx;exact SeqAt.EqAt.bool_str a b t
  |_=>exact absurd (show false=true from fx) w0r
 |int a=>
  obtain⟨t',rfl⟩:=ry;cases x with
  |non=>cases rx;exact SeqAt.EqAt.int_none a t'
  |bl b=>cases rx;exact SeqAt.EqAt.int_bool a t' b
  |int b=>obtain⟨t,rfl⟩:=rx;exact SeqAt.EqAt.int_int a t' b t
  |str b=>obtain⟨t,rfl⟩:=rx;exact SeqAt.EqAt.int_str a t' b t
  |_=>exact absurd (show false=true from fx) w0r
 |str a=>
  obtain⟨t',rfl⟩:=ry;cases x with
  |non=>cases rx;exact SeqAt.EqAt.str_none a t'
  |bl b=>cases rx;exact SeqAt.EqAt.str_bool a t' b
  |int b=>obtain⟨t,rfl⟩:=rx;exact SeqAt.EqAt.str_int a t' b t
  |str b=>obtain⟨t,rfl⟩:=rx;exact SeqAt.EqAt.str_str a t' b t
  |_=>exact absurd (show false=true from fx) w0r
 |_=>exact absurd (show false=true from fy) w0r
def eqU(x:V)(u:Value):Bool:=match u with
 |.none=>eqV .non x
 |.bool b=>eqV (.bl b) x
 |.int i _=>eqV (.int i) x
 |.str z _=>eqV (.str z) x
 |_=>false
theorem x6u{y:V}{u:Value}(r:RelV y u)(f:flatV y=true):eqU x u=eqV y x:=by
 cases y with
 |non=>cases r;rfl
 |bl b=>cases r;rfl
 |int i=>obtain⟨t,rfl⟩:=r;rfl
 |str z=>obtain⟨t,rfl⟩:=r;rfl
 |_=>exact absurd (show false=true from f) w0r
theorem q9u:∀{xs:List V}{us:List Value},Vals xs us->xs.all flatV=true->us.any (eqU x)=xs.any fun y=>eqV y x
 |_,_,.nil,_=>rfl
 |y::xs,u::us,.cons r t,f=>by
  rw[w1z,w0y]at f;rw[w3h,w3h,x6u r f.1,q9u t f.2]
theorem q8b(rx:RelV x v)(fx:flatV x=true):∀{xs:List V}{us:List Value},Vals xs us->xs.all flatV=true->∀u∈us,SeqAt.EqAt A s u v (eqU x u)
 |_,_,.nil,_=>fun u hu=>by cases hu
 |y::xs,u::us,.cons r t,f=>fun u' hu=>by
  rw[w1z,w0y]at f;rcases w0h.mp hu with rfl|hu
  ·rw[x6u r f.1];exact y8s r rx f.1 fx
  ·exact q8b rx fx t f.2 u' hu
def inV(x:V)(xs:List V):Bool:=xs.any fun y=>eqV y x
def rIn(K:Fg)(neg:Bool):R2:=fun x y H Q=>∃p xs,y=.ref p/\(SqL K H p xs\/SqT K H p xs)/\flatV x=true/\xs.all flatV=true/\Q (.bl (if neg then !inV x xs else inV x xs)) H
theorem x2a:OpR X (compareOp .NotIn) (rIn X.K true):=by
 intro pins s σ H x y v u Q I rx ry h;obtain⟨p,xs,rfl,hq,fx,fs,q⟩:=h;cases ry;rcases hq with hq|hq
 ·obtain⟨its,r,pl,hz⟩:=I.list hq;refine SeqAt.notIn_listAt (eqU x) pl.isList (fun w hw=>q8b rx fx r fs w (by simpa using hw)) ⟨.bl _,H,I,rfl,?_⟩
  rw[show its.toArray.any (eqU x)=its.any (eqU x) by simp,q9u r fs];exact q
 ·obtain⟨its,r,pl,hz⟩:=I.tuple hq;refine SeqAt.notIn_tupleAt (eqU x) pl (fun w hw=>q8b rx fx r fs w (by simpa using hw)) ⟨.bl _,H,I,rfl,?_⟩
  rw[show its.toArray.any (eqU x)=its.any (eqU x) by simp,q9u r fs];exact q
theorem x2b:CallR X (.type "list") (fun xs H Q=>∃p ys,xs=[.ref p]/\(SqL X.K H p ys\/SqT X.K H p ys)/\∀l,H l=none->Q (.ref l) (upd H l (.lst ys))):=by
 intro pins s σ H xs us Q I r h;obtain⟨p,ys,rfl,hq,q⟩:=h;obtain⟨u,rfl,rx⟩:=vals1 r;cases rx
 have fin:∀(its:List Value),Vals ys its->ys.length<=sizeLine->∀(h':Heap)(c':Nat),(∀b o',s.heap.get? b=some o'->h'.get? b=some o') ->
   h'.get? s.heap.objs.size=some {cls:=.type "list", dict:=none,data:=.seq its.toArray c',slots:=#[]}->EP X pins σ Q (.ref s.heap.objs.size) {s with heap:=h'}:=fun its r' hz h' c' kp e=>
  ⟨.ref s.heap.objs.size,_,I.laid (t':=s.toks) kp (w0j _) (show ObjOk X.prog X.w _ h' _ (.lst ys)from⟨hz,its,c',r',e⟩),rfl,q _ (I.hok.fresh (w0j _))⟩
 rcases hq with hq|hq
 ·obtain⟨its,r',pl,hz⟩:=I.list hq;have hlen:=r'.length;obtain⟨o,ho,hc,n,hd⟩:=pl.isList;exact call_list_seq p (.inl rfl) ho hc hd (fun h' c' kp e=>fin its r' hz h' c' kp e) (by simp only[w0e]<;>omega)
 ·obtain⟨its,r',pl,hz⟩:=I.tuple hq;have hlen:=r'.length;obtain⟨o,ho,hc,n,hd⟩:=pl;exact call_list_seq p (.inr rfl) ho hc hd (fun h' c' kp e=>fin its r' hz h' c' kp e) (by simp only[w0e]<;>omega)
theorem x1p:CallR X (.type "tuple") (fun xs H Q=>∃p ys,xs=[.ref p]/\((SqL X.K H p ys/\∀l,H l=none->Q (.ref l) (upd H l (.tup ys)))\/(SqT X.K H p ys/\Q (.ref p) H))):=by
 intro pins s σ H xs us Q I r h;obtain⟨p,ys,rfl,h⟩:=h;obtain⟨u,rfl,rx⟩:=vals1 r;cases rx;rcases h with⟨hq,q⟩|⟨hq,q⟩
 ·obtain⟨its,r',pl,hz⟩:=I.list hq;have hlen:=r'.length;refine call_tuple_list pl.isList (fun h' kp=>?_) (by simp only[w0e]<;>omega)
  have I1:Inv X pins σ H {s with heap:=h'}:=I.kept (t':=s.toks) kp
  have I2:Inv X pins σ (upd H h'.objs.size (.tup ys)) {s with heap:=h'.push {cls:=.type "tuple", data:=.seq its.toArray}}:=
   I1.laid (t':=s.toks) (fun b o e=>Heap.get?_push_of_some _ e) (w0j _) (show ObjOk X.prog X.w _ _ _ (.tup ys)from⟨hz,its,r',IsTup.new _ _,_,Heap.get?_push_size _ rfl,rfl⟩)
  exact⟨.ref h'.objs.size,_,I2,rfl,q _ (I1.hok.fresh (w0j _))⟩
 ·obtain⟨its,r',pl,hz⟩:=I.tuple hq;exact call_tuple_same pl ⟨.ref p,H,I,rfl,q⟩
def tyV(K:Fg)(T:String)(x:V)(H:Hp):Prop:=match x with
 |.str _=>T="str"
 |.int _=>T="int"
 |.ref p=>(T="list" /\ ∃xs,SqL K H p xs)\/(T="tuple" /\ ∃o,K.lookup p=some o/\o.cls=.type "tuple" /\ o.dict=none) \/
   (T="dict" /\ ((∃kvs,H p=some (.dK kvs))\/∃sh kvs kas,H p=some (.dT sh kvs kas)))\/(T="set" /\ ∃S n,H p=some (.set S n))
 |_=>False
theorem x6v{T:String}(I:Inv X pins σ H s)(r:RelV x v)(ty:tyV X.K T x H):
  s.TypeIs v T/\∀a,v=.ref a->∃ob,s.heap.get? a=some ob/\ob.dict=none:=by
 cases x with
 |str z=>
  obtain⟨t,rfl⟩:=r;cases(show T="str" from ty);exact⟨typeIs_str s z t,fun _ e=>nomatch e⟩
 |int i=>
  obtain⟨t,rfl⟩:=r;cases(show T="int" from ty);exact⟨typeIs_int s i t,fun _ e=>nomatch e⟩
 |ref p=>
  cases r;rcases ty with⟨rfl,xs,hq⟩|⟨rfl,o,hk,hc,hd⟩|⟨rfl,hk⟩|⟨rfl,S,n,hk⟩
  ·obtain⟨its,_,pl,_⟩:=I.list hq;refine⟨pl.isList.typeIs,fun a e=>?_⟩
   cases e;obtain⟨o,n,e,c,hd,_⟩:=pl;exact⟨o,e,hd⟩
  ·refine⟨⟨o,I.kIn p o hk,hc⟩,fun a e=>?_⟩
   cases e;exact⟨o,I.kIn _ o hk,hd⟩
  ·have z:∃o,s.heap.get? p=some o/\o.ExactDict:=by
    rcases hk with⟨kvs,hk⟩|⟨sh,kvs,kas,hk⟩
    ·obtain⟨_,_,_,_,o,_,_,e,ex,_⟩:=I.hok p _ hk;exact⟨o,e,ex⟩
    ·obtain⟨_,_,_,_,_,o,_,_,e,ex,_⟩:=I.hok p _ hk;exact⟨o,e,ex⟩
   obtain⟨o,e,ex⟩:=z;refine⟨⟨o,e,ex.1⟩,fun a e2=>?_⟩
   cases e2;exact⟨o,e,ex.2.1⟩
  ·obtain⟨o,_,_,_,e,ex,_⟩:=I.hok p _ hk;refine⟨⟨o,e,ex.1⟩,fun a e2=>?_⟩
   cases e2;exact⟨o,e,ex.2.1⟩
 |_=>exact False.elim ty
def tBM0(K:Fg)(T:String)(r:V->List V->Hp->VK->Prop)(to:TE):TE:=fun σ H Q=>to σ H fun x H1=>tyV K T x H1/\r x [] H1 Q
def tBM(K:Fg)(T:String)(r:V->List V->Hp->VK->Prop)(to:TE)(t:TA):TE:=fun σ H Q=>to σ H fun x H1=>tyV K T x H1/\t σ H1 fun xs H2=>r x xs H2 Q
variable{o e:Expr}{es:List Expr}{to:TE}{t:TA}{name:Str}{apos cpos:Pos}{T id:String}{r:V->List V->Hp->VK->Prop}
theorem y8t(pa:PlainAttrs T)(slot:Slot T name id)(hty:typeOf (.builtin id)=pure (.type "method_descriptor"))(hm:MtR X id r)(ho:PE X o to)
  (hbase:attributeBase o name X.env (eval o X.env)=eval o X.env:=by rfl)(hline:(apos.endLine==cpos.line)=true:=by rfl):PE X (.Call (.Attribute o name apos) [] [] cpos) (tBM0 X.K T r to):=by
 intro pins s σ H Q I h;refine wpAny_Call_method0_late hbase hline (thn (ho pins s σ H _ I h) fun v s1 ⟨x,H1,I1,r1,ty,q1⟩=>?_)
 obtain⟨h1,h2⟩:=x6v I1 r1 ty;exact⟨T,id,pa,slot,hty,h1,h2,Calls.callWith_builtin rfl (PySem.evalArgs_none (hm pins s1 σ H1 x [] v [] Q I1 r1 .nil q1))⟩
theorem x5o(pa:PlainAttrs T)(slot:Slot T name id)(hty:typeOf (.builtin id)=pure (.type "method_descriptor"))(hm:MtR X id r)(ho:PE X o to)(ha:PA X (e::es) t)
  (hbase:attributeBase o name X.env (eval o X.env)=eval o X.env:=by rfl)
  (hfew:((backTo cpos (starEach (e::es) X.env)).all (fun x=>!x.1)&&(backToKw cpos (keywordEach [] X.env)).all (fun x=>x.1.isSome)
   && decide ((e::es).length+([]:List Keyword).length+(if([]:List Keyword).isEmpty then 0 else 1)<30))=true:=by rfl)
  (hline:(apos.endLine==cpos.line)=true:=by rfl)(hs:starEach (e::es) X.env=(false,eval e X.env)::starEach es X.env:=by rfl)(hplain:(backTo cpos (starEach es X.env)).any (·.1)=false:=by rfl):
  PE X (.Call (.Attribute o name apos) (e::es) [] cpos) (tBM X.K T r to t):=by
 intro pins s σ H Q I h;refine wpAny_Call_method_late hbase hfew hline rfl (thn (ho pins s σ H _ I h) fun v s1 ⟨x,H1,I1,r1,ty,q1⟩=>?_)
 obtain⟨h1,h2⟩:=x6v I1 r1 ty;refine⟨T,id,pa,slot,hty,h1,h2,?_⟩;have hA:=ha cpos pins s1 σ H1 _ I1 q1;rw[hs]at hA |-
 refine Calls.callWith_builtin (by show(false||(backTo cpos (starEach es X.env)).any (·.1))=false;rw[hplain]<;>rfl) (Calls.evalArgs_plain ?_);exact thn hA fun us s2 ⟨vs,H2,I2,r2,q2⟩=>hm pins s2 σ H2 x vs v us Q I2 r1 r2 q2
/- xs.append(e),list.index on a module's tuple .. are MtR facts of 06m -/
end
def MtM(X:Cx)(id:String)(r:V->List V->Hp->VK->Prop):Prop:=
 ∀(pins:List (Addr×Obj))(s:Shared)(σ:St)(H:Hp)(x:V)(xs:List V)(v:Value)(us:List Value)(Q:VK),Inv X pins σ H s->RelV x v->Vals xs us->r x xs H Q ->
  wpAny (model X.prog X.w) X.A (call (.builtin id) (v::us)) (EP X pins σ Q) X.xe s
theorem Vals.one(h:Vals [x] us):∃u,us=[u]/\RelV x u:=vals1 h
theorem Vals.zero:∀{us:List Value},Vals [] us->us=[]
 |_,.nil=>rfl
theorem Vals.eraseIdx:∀{xs:List V}{us:List Value}(i:Nat),Vals xs us->Vals (xs.eraseIdx i) (us.eraseIdx i)
 |_,_,_,.nil=>.nil
 |_,_,0,.cons _ t=>t
 |_,_,i+1,.cons r t=>.cons r (Vals.eraseIdx i t)
theorem Vals.reverse(h:Vals xs us):Vals xs.reverse us.reverse:=by
 induction h with
 |nil=>exact .nil
 |cons r t ih=>rw[w3c,w3c];exact Vals.append ih (.cons r .nil)
theorem Vals.rep(h:Vals xs us):∀k:Nat,Vals (List.replicate k xs).flatten (List.replicate k us).flatten
 |0=>.nil
 |k+1=>by
  rw[w1h,w1h,w1u,w1u];exact Vals.append h (Vals.rep h k)
theorem x0v:∀(l:List α)(i:Nat),(l.eraseIdx i).length<=l.length
 |[],_=>w0j _
 |_::_,0=>w4o _
 |_::r,i+1=>Nat.succ_le_succ (x0v r i)
theorem x0w(its:List Value):∀(k:Nat)(acc:List Value),
  List.foldl (fun x1 x2=>x1++x2) acc.toArray (List.replicate k its.toArray)=(acc++(List.replicate k its).flatten).toArray
 |0,acc=>by simp
 |k+1,acc=>by
  have e:acc.toArray++its.toArray=(acc++its).toArray:=by simp
  have e2:(acc++its)++(List.replicate k its).flatten=acc++(List.replicate (k+1) its).flatten:=by
   rw[w1h,w1u,w0p]
  rw[<- e2,<- x0w its k (acc++its),<- e,w1h,w1x]
section
variable{l b:Addr}{ys zs:List V}
theorem Inv.lset{its':List Value}{f:Array Value->Array Value}{t':Nat}(I:Inv X pins σ H s)(hH:H l=some (.lst xs))
  (e:s.heap.get? l=some {cls:=.type "list", data:=.seq its.toArray n})(hf:f its.toArray=its'.toArray)(hv:Vals ys its')(hz:ys.length<=sizeLine):
  Inv X pins σ (upd H l (.lst ys)) {s with heap:=s.heap.update l (Obj.mapSeq f),toks:=t'}:=by
 have q:=PySem.IsL.update e f;rw[hf]at q;refine I.write (x:=l) (e:=l) (by rw[hH];exact trivial) (.inl rfl) (fun b' u hb hu=>(Heap.get?_update_other s.heap (Obj.mapSeq f) (Ne.symm hb)).trans hu) ⟨_,q⟩ ?_
 exact⟨hz,its',_,hv,q⟩
theorem Inv.lnew{t':Nat}(I:Inv X pins σ H s)(hv:Vals ys its)(hz:ys.length<=sizeLine):
  Inv X pins σ (upd H s.heap.objs.size (.lst ys)) {s with heap:=s.heap.push {cls:=.type "list", data:=.seq its.toArray},toks:=t'}:=
 I.laid (fun _ _ q=>Heap.get?_push_of_some _ q) (w0j _) ⟨hz,its,0,hv,Heap.get?_push_size _ rfl⟩
theorem Inv.fresh(I:Inv X pins σ H s):H s.heap.objs.size=none:=I.hok.fresh (w0j _)
theorem Inv.lstM(I:Inv X pins σ H s)(hH:H l=some (.lst xs)):xs.length<=sizeLine/\∃(its:List Value)(n:Nat),Vals xs its/\xs.length=its.length/\s.heap.get? l=some {cls:=.type "list", data:=.seq its.toArray n}:=by
 obtain⟨z,its,n,r,e⟩:=I.hok l _ hH;exact⟨z,its,n,r,r.length,e⟩
theorem notLongL(h:n<=sizeLine):Builtin.List.listTooLong n=false:=by
 unfold Builtin.List.listTooLong;exact decide_eq_false (by omega)
end
def rAppend:V->List V->Hp->VK->Prop:=fun x vs H Q=>∃l xs y,x=.ref l/\vs=[y]/\H l=some (.lst xs)/\xs.length<sizeLine/\Q .non (upd H l (.lst (xs++[y])))
theorem q62:MtM X "list.append" rAppend:=by
 intro pins s σ H x vs v us Q I rx rv h;obtain⟨l,xs,y,rfl,rfl,hH,hz,q⟩:=h;cases rx;obtain⟨u,rfl,ru⟩:=rv.one;obtain⟨z,its,n,r,hl,e⟩:=I.lstM hH;refine call_meets F.slot_list_append ⟨_,e,rfl⟩ F.entry_list_append (F.args_list_append_2 _ _) (PySem.list_append l its.toArray n u (by rw[w0e];omega)) ⟨e,?_⟩;refine⟨.non,_,I.lset (its':=its++[u]) hH e (by simp) (r.append (.cons ru .nil)) ?_,rfl,q⟩;rw[w1o,List.length_singleton];omega
def rPopAt:V->List V->Hp->VK->Prop:=fun x vs H Q=>∃l xs i k y,x=.ref l/\vs=[.int i]/\H l=some (.lst xs)/\-(2^63)<=i/\i<2^63/\seqIndex? i xs.length=some k/\xs[k]?=some y/\Q y (upd H l (.lst (xs.eraseIdx k)))
theorem x93:MtM X "list.pop" rPopAt:=by
 intro pins s σ H x vs v us Q I rx rv h;obtain⟨l,xs,i,k,y,rfl,rfl,hH,h1,h2,hk,hy,q⟩:=h;cases rx;obtain⟨u,rfl,ru⟩:=rv.one;obtain⟨t,rfl⟩:=ru;obtain⟨z,its,n,r,hl,e⟩:=I.lstM hH;obtain⟨w,hw,rw'⟩:=r.get hy
 refine call_meets F.slot_list_pop ⟨_,e,rfl⟩ F.entry_list_pop (F.args_list_pop_2 _ _)
  (MeetsSeq.list_pop_at l its.toArray n i t k w (fitsIndex_both h1 h2) (by rw[w0e,<- hl];exact hk) (by rw[<- Array.getElem?_toList];exact hw) (by rw[w0e];omega)) ⟨e,?_⟩
 refine⟨y,_,I.lset (its':=its.eraseIdx k) hH e ?_ (r.eraseIdx k) ?_,rw',q⟩
 ·show its.toArray.eraseIdxIfInBounds k=(its.eraseIdx k).toArray;rw[List.eraseIdxIfInBounds_toArray]
 ·have:=x0v xs k;omega
def rReverse:V->List V->Hp->VK->Prop:=fun x vs H Q=>∃l xs,x=.ref l/\vs=[]/\H l=some (.lst xs)/\Q .non (upd H l (.lst xs.reverse))
theorem x5p:MtM X "list.reverse" rReverse:=by
 intro pins s σ H x vs v us Q I rx rv h;obtain⟨l,xs,rfl,rfl,hH,q⟩:=h;cases rx;have hus:=rv.zero;subst hus;obtain⟨z,its,n,r,hl,e⟩:=I.lstM hH;refine call_meets F.slot_list_reverse ⟨_,e,rfl⟩ F.entry_list_reverse (F.args_list_reverse_1 _) (AutoSeq1.list_reverse_list_0 l its.toArray n (by rw[w0e];omega)) ⟨e,?_⟩;refine⟨.non,_,I.lset (its':=its.reverse) hH e (by simp) r.reverse ?_,rfl,q⟩;rw[List.length_reverse];omega
theorem y4k(xs:List α)(k:Nat):(List.replicate k xs).flatten.length=k*xs.length:=by
 induction k with
 |zero=>simp
 |succ k ih=>rw[w1h,w1u,w1o,ih,Nat.succ_mul,Nat.add_comm]
end L2
namespace Att
open PySem PySem.W PySem.Calls PyProof.Rows
theorem q80{P:Params}{h:Heap}:∀(ns:List Int)(vs:List Value),WellAll P h vs (ns.map WData.int)->IntsAre vs ns:=by
 intro ns
 induction ns with
 |nil=>
  intro vs w;rw[List.map_nil]at w;cases w;exact .nil
 |cons n ns ih=>
  intro vs w;rw[w1b]at w;cases w with
  |cons a b=>
   cases a;exact .cons _ _ (ih _ b)
theorem x6w{l:OpenLaw}{n:Nat}(hn:l.most=some n){P:Params}{h:Heap}{args:List WData}{vals:List Value}
  (hpre:l.row.toRowW.claim.pre args=true)(hwl:WellAll P h vals args):
  ∃a vs ns,vals=[Value.ref a]/\args=[WData.list (ns.map WData.int)]/\h.get? a=some {cls:=.type "list", data:=.seq vs.toArray}/\IntsAre vs ns/\ns.length<=n:=by
 have hsh:WShape.hasAll [] args [.list .int]=true:=(pre_splitW hpre).1;have hc:l.pre.holds [] {args:=args}=true:=(pre_splitW hpre).2;obtain⟨d,r,rfl,h1,h2⟩:=hasAllW_cons hsh;obtain rfl:=hasAllW_nil h2;obtain⟨xs,rfl,h3⟩:=hasW_list h1;obtain⟨ns,rfl⟩:=items_int h3
 have hlen:ns.length<=n:=by
  unfold OpenLaw.pre at hc
  have h4:(WTm.not (.lt (.lit (.int (n:Int))) (.len (.arg 0)))).holds [] {args:=[.list (ns.map .int)]}=true:=by
   have h4:=(holds_andW hc).1;rw[hn]at h4;exact h4
  have h5:=condW_of h4 (w_not (w_lt w_lit (w_len_list (w_arg rfl))));rw[w0a]at h5;refine Nat.le_of_not_lt fun q=>?_
  have q':(n:Int)<((ns.length:Nat):Int):=by omega
  first
   |(rw[decide_eq_true q']at h5;exact absurd h5 (by decide))
   |(simp at h5;omega)
 cases hwl with
 |cons w1 w2=>
  cases w2;cases w1 with
  |list ho hall=>exact⟨_,_,ns,rfl,rfl,ho,q80 ns _ hall,hlen⟩
theorem x6x(l:OpenLaw)(args:List WData):l.row.toRowW.claim.post args (.bool true) args=true:=
 postW_of (r:=l.row.toRowW) (X:=(true==true))
  (show WShape.has [] (.bool true) .bool=true by first|rfl|decide|simp[WShape.has,WShape.arms,WShape.armsAll])
  (show(WTm.eq .res (.lit (.bool true))).value [] {args:=args,res:=some (.bool true),after:=args}=some (.bool (true==true))from w_eq_bool (w_res rfl) w_lit) rfl
theorem attach_call{l:OpenLaw}{n:Nat}{q:Program}{loose:List Str}{XP:(Str->Option Value)->Heap->Prop}{YP:World->Heap->Prop}{d:DefRec}
  (hn:l.most=some n)(hdf:d.params.defaults=[])
  (call:∀(w:World)(s₀ s₁:Shared)(mg mb:Str->Option Value)(fa:Addr)(o:Obj)(pm cd doc:Value)(a:Addr)(vs:List Value)(ns:List Int),
   Ground q loose [] XP w s₀ mg mb s₁.heap->YP w s₁.heap ->
   s₁.heap.get? fa=some o->o.data=.func (docDef d.name d.params d.body d.scope pm cd doc)->s₁.heap.CodeRec cd d.name->mg d.name=some (.ref fa) ->
   s₁.heap.get? a=some {cls:=.type "list", data:=.seq vs.toArray}->IntsAre vs ns->ns.length<=n->s₁.gens=#[] ->
   codeAny (model l.prog w) callerA (.call (.ref fa) ⟨[.ref a],[]⟩) (fun r s'=>r=.ok (.ret (.bool true))/\OldK s₁.heap s'.heap/\s'.os=s₁.os/\AllBare s'.gens) s₁):
  WalkO q loose XP YP l.row.toRowW d [] (fun f vs=>PySem.call f vs):=by
 intro w s₀ s₁ mg mb G Y fa o pm cd doc dV kV ho hd hcd hD hmg hg args vals as hpre hlay hrd hwl hlo;obtain rfl:dV=.none:=Dflts.none hD hdf;obtain rfl:kV=.none:=Dflts.noKw hD;obtain⟨a,vs,ns,rfl,rfl,hobj,hints,hlen⟩:=x6w hn hpre hwl;refine enter_call (codeAny_mono (call w s₀ s₁ mg mb fa o pm cd doc a vs ns G Y ho (fd_plain hd) hcd hmg hobj hints hlen hg) fun r s' hq=>?_)
 obtain⟨rfl,h2,h3,h4⟩:=hq;exact⟨.inl ⟨.bool true,.bool true,[],rfl,fun _=>rfl,.bool true,x6x l _,fun _=>⟨List.Pairwise.nil,fun _ hm=>(nomatch hm)⟩⟩,h2,h3,h4⟩
section
variable{prog:Program}{w:World}{A:Around}{E:Value->Shared->Prop}{s:Shared}{K:Frag}
def ledger(h:Heap)(L d:Addr):List (Addr×Obj):=(List.range h.objs.size).filterMap fun a=>if a=L\/a=d then none else(h.get? a).map fun o=>(a,o)
end
end Att
namespace L2
open PySem PySem.Spec PyProof.Rows
theorem q63:∀{vs:List Value}{ns:List Int},IntsAre vs ns->Vals (ns.map V.int) vs
 |_,_,.nil=>.nil
 |_,_,.cons n t h=>.cons ⟨t,rfl⟩ (q63 h)
def Only(H:Hp):Prop:=∀b,H b=none\/∃o xs,H b=some (.frz o (.lst xs))
theorem x94{P:Program}{w:World}{K:Fg}{mg mb:Str->Option Value}{CX:CXT}{k:Nat}{fa a:Addr}{fd:FuncData}{x:Str}{sp:Sp}{s₁:Shared}{vs:List Value}{ns:List Int}
  (KX:K.In s₁.heap)(hns:s₁.heap.Ns mainGlobals mg)(hb:s₁.heap.Ns builtinsNs mb)(hbb:∀x:Str,x≠"__name__"->mb x=bootBuiltins x)(hlim:s₁.heap.NoLimit)(hg:s₁.gens=#[])
  (ha:s₁.heap.get? a=some {cls:=.type "list", data:=.seq vs.toArray})(hi:IntsAre vs ns)(hl:ns.length<=sizeLine)(hr:Room k callerA)
  (F:∀base:Heap,K.In base->base.Ns mainGlobals mg->FnOk P w K mg base CX k fa fd [x] sp)(hbind:∀(s:Shared)(u:Value),BindsTo s fd ⟨[u],[]⟩ [(x,u)])
  (hsp:∀H:Hp,Only H->SqL K H a (ns.map V.int)->sp [.ref a] H (fun v _=>v=.bl true) fun _ _ _=>False)
  (hCX:∀H e s',CX [] H s₁ (fun _ _ _=>False) e s'->False)(hNM:noMark K=true):
  codeAny (model P w) callerA (.call (.ref fa) ⟨[.ref a],[]⟩) (fun r s'=>r=.ok (.ret (.bool true))/\OldK s₁.heap s'.heap/\s'.os=s₁.os/\AllBare s'.gens) s₁:=by
 have rv:=q63 hi;have lenV:=hi.length
 have core:∀H:Hp,Only H->SqL K H a (ns.map V.int)->HOk P w H s₁.heap->(∀b,H b≠none->b=a)->(H a≠none->K.lookup a=none) ->
   codeAny (model P w) callerA (.call (.ref fa) ⟨[.ref a],[]⟩) (fun r s'=>r=.ok (.ret (.bool true))/\OldK s₁.heap s'.heap/\s'.os=s₁.os/\AllBare s'.gens) s₁:=by
  intro H hO hS hok hA hK;have base_of:∀{b:Addr}{o:Obj},s₁.heap.get? b=some o->H b=none->(hidT s₁.heap H).get? b=some o:=fun e n=>x1z e n
  have noA:∀{b:Addr}{o:Obj}{es:Array DictEntry}{ep:Nat},s₁.heap.get? b=some o->o.data=.dict es ep->H b=none:=fun {b o es ep} e d=>by
   cases q:H b with
   |none=>rfl
   |some u=>
    have e':b=a:=hA b (by rw[q];simp);subst e';rw[ha]at e;cases e;have d':Data.seq vs.toArray _=Data.dict es ep:=d;cases d'
  have nsK:∀{b:Addr}{m:Str->Option Value},s₁.heap.Ns b m->(hidT s₁.heap H).Ns b m:=fun {b m} ⟨o,es,ep,e,d,r⟩=>⟨o,es,ep,base_of e (noA e d),d,r⟩
  have hKb:K.In (hidT s₁.heap H):=fun b o e=>base_of (KX b o e) (by
   cases q:H b with
   |none=>rfl
   |some u=>
    have e':b=a:=hA b (by rw[q];simp);subst e';rw[hK (by rw[q];simp)]at e;cases e)
  have hM:Mod K mg (hidT s₁.heap H):=⟨hKb,nsK hns,⟨mb,nsK hb,hbb⟩,let ⟨mc,h1,h2⟩:=hlim;⟨mc,nsK h1,h2⟩⟩;have e0:Env0 P w K mg (hidT s₁.heap H) callerA [] s₁ H:=⟨rfl,hM,fun b o e=>x4f e,Nat.le_of_eq (x0p _ _),trivial,fun b hb=>absurd (show b∈([]:List Addr)from hb) (by simp),hok,.of_eq hg,.vac hNM⟩
  refine codeAny_mono ((F _ hKb (nsK hns)).run callerA [] s₁ H ⟨[.ref a],[]⟩ [.ref a] [.ref a] _ _ hr e0 (hbind s₁ (.ref a)) (.cons rfl .nil) (hsp H hO hS)) fun r s' h=>?_
  cases r with
  |error e=>exact(hCX H e s' h).elim
  |ok fl=>
   cases fl with
   |next=>exact False.elim h
   |brk=>exact False.elim h
   |cont=>exact False.elim h
   |ret u=>
    obtain⟨v,H',os,bare,un,hok',r',q⟩:=h;have q':v=.bl true:=q;subst q';obtain rfl:u=Value.bool true:=r';refine⟨rfl,OldK.of_keep fun b o e=>?_,os,bare⟩
    cases q:H b with
    |none=>exact un.keep b o e q (by intro z;exact absurd (show b∈([]:List Addr)from z) (by simp)) (by simp)
    |some u=>
     rcases hO b with z|⟨ob,xs,z⟩
     ·rw[q]at z;cases z
     ·have z2:=un.frzs b ob _ z;obtain⟨e1,_⟩:=hok b _ z;obtain⟨e2,_⟩:=hok' b _ z2;rw[e]at e1;cases e1;exact e2
 cases hk:K.lookup a with
 |some o=>
  have e:=KX a o hk;rw[ha]at e;cases e;refine core (fun _=>none) (fun _=>.inl rfl) (.inr ⟨_,vs.toArray,_,hk,rfl,rfl,rfl,by rw[w0e,lenV];exact hl,by simpa using rv⟩) (fun b u z=>by have z':(none:Option HO)=some u:=z;cases z') (fun b z=>absurd rfl z) fun z=>absurd rfl z
 |none=>
  refine core (fun b=>if b=a then some (.frz {cls:=.type "list", data:=.seq vs.toArray} (.lst (ns.map V.int)))else none) (fun b=>?_) (.inl (.inr ⟨{cls:=.type "list", data:=.seq vs.toArray},if_pos rfl⟩)) (fun b u z=>?_) (fun b z=>?_) fun _=>hk
  ·by_cases hb:b=a
   ·exact .inr ⟨_,_,if_pos hb⟩
   ·exact .inl (if_neg hb)
  ·by_cases hb:b=a
   ·have z':=(if_pos hb).symm.trans z;cases z';subst hb;exact⟨ha,by rw[w0a];exact hl,vs,_,rv,ha⟩
   ·have z':=(if_neg hb).symm.trans z;cases z'
  ·by_cases hb:b=a
   ·exact hb
   ·exact absurd (if_neg hb) z
noncomputable abbrev KOf{K:Fg}{h:Heap}(_:K.In h):Fg:=K
theorem y4l{l:PySem.W.OpenLaw}{n k:Nat}{q:Program}{loose:List Str}{XP:(Str->Option Value)->Heap->Prop}{YP:World->Heap->Prop}{d:DefRec}{K:Params->Fg}{CX:World->CXT}{sp:World->Sp}{x:Str}
  (hn:l.most=some n)(hn2:n<=sizeLine)(hdf:d.params.defaults=[])(hr:Room k callerA)
  (hY:∀(w:World)(h:Heap),YP w h->(K w.params).In h)
  (F:∀(w:World)(mg:Str->Option Value)(fa:Addr)(h:Heap),(K w.params).In h->h.Ns mainGlobals mg->mg d.name=some (.ref fa) ->
   ∃fd:FuncData,(∀(s:Shared)(u:Value),BindsTo s fd ⟨[u],[]⟩ [(x,u)]) /\
    ∀base:Heap,(K w.params).In base->base.Ns mainGlobals mg->FnOk l.prog w (K w.params) mg base (CX w) k fa fd [x] (sp w))
  (hsp:∀(w:World)(H:Hp)(a:Addr)(ns:List Int),ns.length<=n->Only H->SqL (K w.params) H a (ns.map V.int)->sp w [.ref a] H (fun v _=>v=.bl true) fun _ _ _=>False)
  (hCX:∀(w:World)(H:Hp)(s:Shared)(e:Value)(s':Shared),CX w [] H s (fun _ _ _=>False) e s'->False)(hNM:∀w:World,noMark (K w.params)=true):
  PySem.W.WalkO q loose XP YP l.row.toRowW d [] (fun f vs=>PySem.call f vs):=by
 refine Att.attach_call hn hdf fun w s₀ s₁ mg mb fa o pm cd doc a vs ns G Y ho hd hcd hmg hobj hints hlen hg=>?_
 have KX:=hY w _ Y;obtain⟨fd,hb,hF⟩:=F w mg fa _ KX G.T.g hmg;exact x94 KX G.T.g G.T.b G.T.builtins G.T.nolimit hg hobj hints (w1d hlen hn2) hr hF hb (fun H hO hS=>hsp w H a ns hlen hO hS) (fun H e s'=>hCX w H s₁ e s') (hNM w)
end L2
/- THE LAST THEOREM (shape; LID, My.* are yours):
   My.Adr: a structure of the addresses that your layer names (classes, functions); My.Txt K t: a structure (Prop) of the equations over K;
   My.txt_mk : {K} {implicit addresses ..} (e1 : nsIn K mainGlobals "law" = some (some (.ref f))) (e2 : K.lookup f = some ⟨oc, od, .func (fnOf "law" "law" params body scope dV kV doc pm an cdv ct), sl⟩) (e3 : codeIn K cdv "law" = true) .. : ∃ t, My.Txt K t
set_option maxRecDepth 100000 in
set_option maxHeartbeats 0 in
theorem PySem.Challenge.cw_LID_holds : PySem.Challenge.rw_LID.Holds := by
 w_on; o_law; k_head; (case hw => w_witness2)
 k_fill
 refine L2.y4l (l := PySem.Challenge.rw_LID) (n := 63) (k := 40) (x := "script") (CX := fun w => ..) (sp := fun _ => My.sp_law) rfl (by decide) rfl ⟨rfl, by decide, by decide⟩ (fun w h Y => PySem.W.kIn_of Y) ?F ?S ?C
 case F =>
  intro w mg fa h KX G hmg
  have T : ∃ t, My.Txt (L2.KOf KX) t := by
   dsimp only [L2.KOf]                          -- K must stand as «<heap const> w.params» for k_is;refine' My.txt_mk ?e1 ?e2 ?e3 ..
   (case e1 => PySem.W.k_is)                    -- in the order: a name -> its address -> its object -> its parts
   (case e2 => PySem.W.k_is)
   ..
  obtain ⟨t, T⟩ := T;have e0 := hmg.symm.trans (mg_of KX G T.law);cases e0                                       -- fa is the law's own address;exact ⟨_, fun s u => .of_eq rfl, fun base kb nb => My.law_fn T kb nb⟩     -- if «.of_eq rfl» comes too early: refine' ⟨_, ?b, fun base kb nb => My.law_fn T kb nb⟩; exact fun s u => .of_eq rfl
 case S => exact fun w H a ns hl hO hS => ..
 case C => exact ..
(the tactic k_is has no namespace: write k_is) -/
namespace L2
open PySem PySem.Spec PyProof.Rows
variable{f:Addr}{X:Cx}{env:Env}{e:Expr}{fd:FuncData}{base:Heap}{H H':Hp}{pins:List (Addr×Obj)}{es ifs:List Expr}{js:List Nat}{N ps:List Str}{pos:Pos}{P:Program}{K:Fg}{s:Shared}{sp:Sp}{σ:St}{qual x:Str}{mg:Str->Option Value}{te:TE}{v:V}{w:World}
def defArgs(s:Stmt):Arguments:=match s with
 |.FunctionDef _ a _ _ _ _ _ _ _ _=>a
 |_=>{posonlyargs:=[],args:=[],vararg:=none,kwonlyargs:=[],kw_defaults:=[],kwarg:=none,defaults:=[]}
def defBody(s:Stmt):List Stmt:=match s with
 |.FunctionDef _ _ b _ _ _ _ _ _ _=>b
 |_=>[]
def defScope(s:Stmt):Scope:=match s with
 |.FunctionDef _ _ _ _ _ _ sc _ _ _=>sc
 |_=>{kind:=.function,names:=[],isGenerator:=false,isCoroutine:=false}
noncomputable abbrev CX0:CXT:=fun _ _ _ _ _ _=>False
noncomputable abbrev E0:XK:=fun _ _ _=>False
structure Fun(K:Fg)(x qual:Str)(st:Stmt)(f:Addr)(fd:FuncData):Prop where
 ex:∃(oc:Value)(od:Option Addr)(kV doc pm:Value)(an:Option Addr)(cdv ct:Value)(osl:Array (Option Value)),
  fd=PySem.W.fnOf x qual (defArgs st) (defBody st) (defScope st) .none kV doc pm an cdv ct/\K.lookup f=some ⟨oc,od,.func fd,osl⟩/\PySem.W.codeIn K cdv qual=true
 kp:keepIn K (.ref f)=true
theorem Fun.binds{st:Stmt}{ps:List Str}(F:Fun K x qual st f fd)
  (h:∀(kV doc pm:Value)(an:Option Addr)(cdv ct:Value)(us:List Value),us.length=ps.length->bindArgs (PySem.W.fnOf x qual (defArgs st) (defBody st) (defScope st) .none kV doc pm an cdv ct) ⟨us,[]⟩=pure (ps.zip us)):Binds K fd ps []:=by
 obtain⟨oc,od,kV,doc,pm,an,cdv,ct,osl,rfl,lk,hcd⟩:=F.ex;exact .all (h kV doc pm an cdv ct)
theorem q0m{st:Stmt}{oc:Value}{od an:Option Addr}{osl:Array (Option Value)}{kV doc pm cdv ct:Value}(l:K.lookup f=some ⟨oc,od,.func (PySem.W.fnOf x qual (defArgs st) (defBody st) (defScope st) .none kV doc pm an cdv ct),osl⟩)
  (c:PySem.W.codeIn K cdv qual=true)(k:keepIn K (.ref f)=true):Fun K x qual st f (PySem.W.fnOf x qual (defArgs st) (defBody st) (defScope st) .none kV doc pm an cdv ct):=⟨⟨oc,od,kV,doc,pm,an,cdv,ct,osl,rfl,l,c⟩,k⟩
theorem pv(i:Nat)(hN:X.N[i]?=some x:=by rfl)(hv:Vis X.env.scope x:=by walk_at "1")(hd:(x==("__debug__":Str))=false:=by decide)
  (hcd:(x==("__classdict__":Str))=false:=by decide):PE X (.Name x pos) (tVar i):=y8c hN hv hd hcd
def Same(H H':Hp):Prop:=∀b o,H b=some o->H' b=some o
theorem Same.refl(H:Hp):Same H H:=fun _ _ h=>h
theorem Same.trans{H1 H2:Hp}(a:Same H H1)(b:Same H1 H2):Same H H2:=fun c o h=>b c o (a c o h)
theorem Same.free(e:Same H H'){l:Addr}(h:H' l=Option.none):H l=Option.none:=by
 cases q:H l with
 |none=>rfl
 |some o=>
  rw[e l o q]at h;cases h
theorem Same.seq{a:Addr}{xs:List V}(e:Same H H')(h:SqL K H a xs):SqL K H' a xs:=by
 rcases h with(h|⟨o,h⟩)|h
 ·exact .inl (.inl (e _ _ h))
 ·exact .inl (.inr ⟨o,e _ _ h⟩)
 ·exact .inr h
set_option maxHeartbeats 4000000
theorem ObjOk.get{h:Heap}{a:Addr}{o:HO}(x:ObjOk P w H h a o):∃ob,h.get? a=some ob:=by
 cases o with
 |lst xs=>obtain⟨_,_,_,_,e⟩:=x;exact⟨_,e⟩
 |tup xs=>obtain⟨_,_,_,p,_⟩:=x;obtain⟨o,e,_⟩:=p;exact⟨o,e⟩
 |dK kvs=>obtain⟨_,_,_,_,o,_,_,e,_⟩:=x;exact⟨_,e⟩
 |dT sh kvs kas=>obtain⟨_,_,_,_,_,o,_,_,e,_⟩:=x;exact⟨_,e⟩
 |set S n=>obtain⟨o,_,_,_,e,_⟩:=x;exact⟨_,e⟩
 |ins C dx fs=>obtain⟨_,_,_,e,_⟩:=x;exact⟨_,e⟩
 |own y=>obtain⟨_,e⟩:=x;exact⟨_,e⟩
 |xd fs=>obtain⟨_,⟨_,_,_,e,_⟩,_⟩:=x;exact⟨_,e⟩
 |rng lo hi=>obtain⟨_,_,_,e⟩:=x;exact⟨_,e⟩
 |frz ob u=>obtain⟨e,_⟩:=x;exact⟨_,e⟩
 |tbl ps=>rcases x with⟨_,_,_,_,e,_⟩|⟨_,_,_,_,_,_,_,_,_,_,_,_,e⟩<;>exact⟨_,e⟩
 |met f y=>exact⟨_,(show h.get? a=some _ from x)⟩
 |ext φ=>obtain⟨_,⟨_,e⟩,_⟩:=x;exact⟨_,e⟩
structure Fly(outer:List Env)(H H':Hp)(h h':Heap)(e:Addr)(cls:Value)(B:Heap):Prop where
 fl:∃a0,Heap.FlyingW B outer e cls a0 h'
 old:∀b o,h.get? b=some o->H b=none->b∉frs outer->B.get? b=some o
 trk:∀b u o,H' b=some u->h'.get? b=some o->B.get? b=some o
 all:∀b o,h.get? b=some o->b∈frs outer\/∃o',B.get? b=some o'
 new:h.get? e=none
def CX1(P:Program)(w:World):CXT:=fun outer H s E ev s'=>∃(e:Addr)(cls:Value)(H':Hp)(B:Heap),
 ev=.ref e/\s'.os=s.os/\AllBare s'.gens/\Un (frs outer) [] H H' s.heap s'.heap/\HOk P w H' s'.heap/\Fly outer H H' s.heap s'.heap e cls B/\E cls none H'
def PassX(CX:CXT)(X:Cx)(EE:L2.St->XK):Prop:=∀(pins:List (Addr×Obj))(σ:St)(H:Hp)(s:Shared)(e:Value)(s':Shared),Inv X pins σ H s->CX X.stack H s (EE σ) e s'->X.xe e s'
section
variable{CX:CXT}{scope:Scope}{cd:Value}{A:Around}{outer:List Env}{s₀:Shared}{H₀:Hp}{E:XK}
theorem y4m{s':Shared}{e:Addr}{cls:Value}{B h'':Heap}{a0:Value}
  (I:Inv (cxOf CX P w K mg base N qual scope f cd A outer s₀ H₀ E) pins σ H s)(J:Inv (cxOf CX P w K mg base N qual scope f cd A outer s₀ H₀ E) pins σ H' s')
  (old:∀b o,s.heap.get? b=some o->H b=none->b∉frs (envOfC qual scope s₀.heap.objs.size f cd::outer)->B.get? b=some o)
  (trk:∀b u o,H' b=some u->s'.heap.get? b=some o->B.get? b=some o)
  (all:∀b o,s.heap.get? b=some o->b∈frs (envOfC qual scope s₀.heap.objs.size f cd::outer)\/∃o',B.get? b=some o')
  (new:s.heap.get? e=none)
  (fl:Heap.FlyingW B outer e cls a0 h'')(up:s'.heap.UpToSlots h'')(hE:E cls none H'):
  CX1 P w outer H₀ s₀ E (.ref e) {s' with heap:=h''}:=by
 have neL:∀b o,s₀.heap.get? b=some o->b∉frs outer->b∉frs (envOfC qual scope s₀.heap.objs.size f cd::outer):=fun b o q nb hb=>by
  rcases w0h.mp (show b∈s₀.heap.objs.size::frs outer from hb)with z|z
  ·exact absurd (Heap.lt_size q) (by rw[z];exact w2g _)
  ·exact nb z
 have ex0:∀b:Addr,b∉([]:List Addr):=fun b z=>nomatch z
 have slot:∀b o,s₀.heap.get? b=some o->b∈frs outer->∃sl,h''.get? b=some {o with slots:=sl}:=fun b o q hb=>by
  obtain⟨sl,e1⟩:=J.base.slot b o q (J.ok.frf b hb) hb (ex0 b);obtain⟨_,o2,e2,nd⟩:=J.funs.mem hb
  rw[e1]at e2;cases e2;obtain⟨sl',e3⟩:=up b _ e1 nd;exact⟨sl',e3⟩
 refine⟨e,cls,H',B,rfl,J.os,J.bare,⟨fun b o q n hb hx=>?_,fun b o q n hb hx=>slot b o q hb,fun b o q n hx=>J.base.free b o q n hx,fun b o q hx=>?_,J.base.tups,J.base.frzs,J.base.tbls⟩,fun a o q=>?_,⟨⟨a0,fl⟩,fun b o q n hb=>?_,fun b u o q z=>?_,fun b o q=>?_,?_⟩,hE⟩
 ·exact fl.1 b o (old b o (I.base.keep b o q n hb hx) (I.base.free b o q n hx) (neL b o q hb))
 ·by_cases hb:b∈frs outer
  ·obtain⟨sl,z⟩:=slot b o q hb;exact⟨_,z⟩
  ·obtain⟨o1,e1⟩:=I.base.there b o q hx;rcases all b o1 e1 with z|⟨o',z⟩
   ·exact absurd z (neL b o q hb)
   ·exact⟨o',fl.1 b o' z⟩
 ·refine(J.hok a o q).stay (fun b u hb z=>?_) (fun _ z=>z) fun _ _ _ z=>z
  rcases hb with rfl|hb
  ·exact fl.1 _ _ (trk b o u q z)
  ·exact fl.1 _ _ (trk b _ u hb z)
 ·exact old b o (I.base.keep b o q n hb (ex0 b)) (I.base.free b o q n (ex0 b)) (neL b o q hb)
 ·obtain⟨o1,e1⟩:=(J.hok b u q).get;have e2:=trk b u o1 q e1;have e3:=fl.1 b o1 e2;rw[e3]at z;cases z;exact e2
 ·obtain⟨o1,e1⟩:=I.base.there b o q (ex0 b);rcases all b o1 e1 with z|z
  ·by_cases hb:b∈frs outer
   ·exact .inl hb
   ·exact absurd z (neL b o q hb)
  ·exact .inr z
 ·cases q:s₀.heap.get? e with
  |none=>rfl
  |some o=>
   obtain⟨o1,e1⟩:=I.base.there e o q (ex0 e);rw[new]at e1;cases e1
theorem pass1:PassX (CX1 P w) (cxOf (CX1 P w) P w K mg base N qual scope f cd A outer s₀ H₀ E) (fun _=>E):=by
 intro pins σ H s ev s' I hx;obtain⟨e,cls,H',B,rfl,hos,hg,un,hok,fly,hE⟩:=hx;have J:=I.call' (ch:=[]) hos un hok hg (fun b hb=>nomatch hb)
 obtain⟨a0,fl⟩:=fly.fl;refine wpAny_leaves_onW (base:=B) I.ok.frames rfl fl fun h'' fl2 up=>?_
 exact y4m I J fly.old fly.trk fly.all fly.new fl2 up hE
end
theorem passE:PassX (CX1 P w) X (fun _=>E0):=fun _ _ _ _ _ _ _ h=>by
 obtain⟨_,_,_,_,_,_,_,_,_,_,z⟩:=h;exact False.elim z
def tCallX(sp:Sp)(dvs:List V)(EE:L2.St->XK)(t:TA):TE:=fun σ H Q=>t σ H fun vs H1=>sp (vs++dvs) H1 Q (EE σ)
section
variable{CX:CXT}{k:Nat}{C:Addr}{dvs:List V}{ds:List Value}{EE:L2.St->XK}{m:Str}{p apos:Pos}{o:Expr}{ta:TE}{t:TA}
theorem y4n{Q:VK}{us:List Value}{vs:List V}(F:FnOk X.prog X.w X.K X.mg X.base CX k f fd ps sp)(hr:Room k X.A)(hb:Binds X.K fd ps ds)(hd:Vals dvs ds)(hx:PassX CX X EE)
  (I:Inv X pins σ H s)(r:Vals vs us)(h:sp (vs++dvs) H Q (EE σ)):wpAny (model X.prog X.w) X.A (call (.ref f) us) (EP X pins σ Q) X.xe s:=by
 have r2:Vals (vs++dvs) (us++ds):=r.append hd;have hl:(us++ds).length=ps.length:=by rw[<- r2.length];exact F.len _ _ _ _ h
 refine wpAny_call (codeAny_mono (F.run X.A X.stack s H ⟨us,[]⟩ (us++ds) (vs++dvs) Q (EE σ) hr I.env0 (hb s us I.kIn hl) r2 h) fun r s' hq=>?_)
 cases r with
 |error e=>exact hx pins σ H s e s' I hq
 |ok fl=>
  cases fl with
  |ret u=>exact I.after hq
  |next=>exact False.elim hq
  |brk=>exact False.elim hq
  |cont=>exact False.elim hq
theorem x95(F:FnOk X.prog X.w X.K X.mg X.base CX k f fd ps sp)(hr:Room k X.A)(hg:Gl X x)(hm:X.mg x=some (.ref f))(hk:keepIn X.K (.ref f)=true)(hb:Binds X.K fd ps ds)(hd:Vals dvs ds)(hx:PassX CX X EE)
  (ha:PA X (e::es) t)(hdb:(x==("__debug__":Str))=false:=by decide)(he:starEach (e::es) X.env=(false,eval e X.env)::starEach es X.env:=by rfl)(hpl:(backTo pos (starEach es X.env)).any (·.1)=false:=by rfl):
  PE X (.Call (.Name x p) (e::es) [] pos) (tCallX sp dvs EE t):=by
 intro pins s σ H Q I h;refine wpAny_Call_Name_kw (x4g I hg hm ?_ hdb);refine PySem.W.callWith_K (h₀:=X.base) I.ok.mod.kin hk (thn (ha pos pins s σ H _ I h) fun us s1 ⟨vs,H1,I1,r,q⟩=>⟨I1.kIn,?_⟩) he hpl
 exact y4n F hr hb hd hx I1 r q
end
theorem Fun.okX{st:Stmt}{k:Nat}(F:Fun K x qual st f fd)(S:FnScope N ps (defScope st))(len:∀vs H Q E,sp vs H Q E->vs.length=ps.length)
  (hbody:∀(cdv:Value)(A:Around)(outer:List Env)(s:Shared)(H:Hp)(vs:List V)(Q:VK)(E:XK),Room k (A.deeper (envOfC qual (defScope st) s.heap.objs.size f cdv))->sp vs H Q E ->
   ∃t,PSs (cxOf (CX1 P w) P w K mg base N qual (defScope st) f cdv A outer s H E) (defBody st) t/\t {nx:=fun _ H'=>Q .non H',rt:=Q} (start N vs) H):FnOk P w K mg base (CX1 P w) (k+1) f fd ps sp:=by
 obtain⟨oc,od,kV,doc,pm,an,cdv,ct,osl,rfl,lk,hcd⟩:=F.ex;exact y3r lk hcd S len fun A outer s H vs Q E hr hsp=>hbody cdv A outer s H vs Q E hr hsp
def excO(e:Addr)(cls:Value):HO:=.ext fun h=>∃o vs,h.get? e=some o/\o.cls=cls/\o.data=.fields vs
noncomputable abbrev Cx.hn(X:Cx)(e:Addr):Cx:={X with A:=X.A.mark (some (.ref e)),calm:=false,xe:=fun _ _=>False}
structure RoomH(k:Nat)(A:Around):Prop where
 dp:A.depth+3*k+5<recursionLimit
 un:A.units+16*k+200<cLine
 gd:A.guards=some []
structure FnOkH(P:Program)(w:World)(K:Fg)(mg:Str->Option Value)(base:Heap)(k:Nat)(f:Addr)(fd:FuncData)(ps:List Str)(sp:Sp):Prop where
 len:∀vs H Q E,sp vs H Q E->vs.length=ps.length
 run:∀(A:Around)(outer:List Env)(s:Shared)(H:Hp)(args:Args)(us:List Value)(vs:List V)(Q:VK),RoomH k A->Env0 P w K mg base A outer s H->BindsTo s fd args (ps.zip us)->Vals vs us->sp vs H Q E0 ->
  codeAny (model P w) A (.call (.ref f) args) (CR CX0 outer P w H s Q E0) s
noncomputable abbrev Cx.cp(X:Cx)(Nc:List Str)(scope:Scope)(cl:List (Str×Addr))(C:Addr)(s₀:Shared)(H₀:Hp)(ex:List Addr):Cx:=
 {X with N:=Nc,s₀:=s₀,H₀:=H₀,env:=compEnvC scope cl C X.env,outer:=X.stack,ex:=ex,fn:=fun _=>false,pn:=[],xe:=fun _ _=>False}
theorem q5l:∀(names:List (Str×NameKind))(acc:List (Str×Addr)),(∀x∈names,x.2=.free->∃c,env.cells.lookup x.1=some c) ->
  ∃cl,(forIn names acc fun(x:Str×NameKind) (r:List (Str×Addr))=>(if(x.2==NameKind.free)=true then(cellOf env x.1 >>= fun a=>pure (ForInStep.yield ((x.1,a)::r)))else pure (ForInStep.yield r):Sem (ForInStep (List (Str×Addr)))))=pure cl /\
   (∀x c,cl.lookup x=some c->acc.lookup x=some c\/env.cells.lookup x=some c)/\(∀x,((x,NameKind.free)∈names\/(acc.lookup x).isSome=true)->(cl.lookup x).isSome=true)
 |[],acc,_=>⟨acc,rfl,fun x c h=>.inl h,fun x h=>h.elim (fun z=>nomatch z) id⟩
 |(n,k)::r,acc,h=>by
  by_cases hk:k=.free
  ·subst hk;obtain⟨c,hc⟩:=h (n,.free) w1f rfl;obtain⟨cl,e1,e2,e3⟩:=q5l r ((n,c)::acc) fun x hx=>h x (w0t _ hx)
   refine⟨cl,?_,fun x d hd=>?_,fun x hx=>?_⟩
   ·rw[w2r];have:cellOf env n=pure c:=by unfold cellOf;rw[hc]
    simp only[beq_self_eq_true,if_true,this,pure_bind];exact e1
   ·rcases e2 x d hd with z|z
    ·rw[w1a]at z
     by_cases hx:(x==n)=true
     ·rw[hx]at z;have:x=n:=by simpa using hx
      subst this;cases z;exact .inr hc
     ·rw[w1t.mpr hx]at z;exact .inl z
    ·exact .inr z
   ·refine e3 x ?_;rcases hx with z|z
    ·rcases w0h.mp z with y|y
     ·cases y;exact .inr (by rw[w1a];simp)
     ·exact .inl y
    ·refine .inr ?_;rw[w1a]
     by_cases hx:(x==n)=true
     ·rw[hx];rfl
     ·rw[w1t.mpr hx];exact z
  ·obtain⟨cl,e1,e2,e3⟩:=q5l r acc fun x hx=>h x (w0t _ hx)
   refine⟨cl,?_,e2,fun x hx=>e3 x ?_⟩
   ·rw[w2r];have:(k==NameKind.free)=false:=by simpa using hk
    simp only[this,w2s,if_false,pure_bind];exact e1
   ·rcases hx with z|z
    ·rcases w0h.mp z with y|y
     ·cases y;exact absurd rfl hk
     ·exact .inl y
    ·exact .inr z
theorem q5c{scope:Scope}(h:∀x∈scope.names,x.2=.free->∃c,env.cells.lookup x.1=some c):
  ∃cl,closureFor scope env=pure cl/\(∀x c,cl.lookup x=some c->env.cells.lookup x=some c)/\∀x,(x,NameKind.free)∈scope.names->∃c,cl.lookup x=some c:=by
 obtain⟨cl,e1,e2,e3⟩:=q5l scope.names [] h;refine⟨cl,?_,fun x c hc=>(e2 x c hc).resolve_left (fun z=>nomatch z),fun x hx=>w3s.mp (e3 x (.inl hx))⟩
 unfold closureFor
 first
  |exact e1
  |(rw[e1];rfl)
  |(simp only[e1];rfl)
theorem q64{env : Env} : ∀ {names : List (Str × NameKind)} {x : Str}, (∀ y ∈ names, y.2 ≠ .cell) ->
    ((names.map fun (n, k) => if (k == NameKind.free && env.scope.kind == .function && env.kindOf n == some .cell) then (n, NameKind.cell) else (n, k)).lookup x = some .cell \/
     (names.map fun (n, k) => if (k == NameKind.free && env.scope.kind == .function && env.kindOf n == some .cell) then (n, NameKind.cell) else (n, k)).lookup x = some .free) -> (x, NameKind.free) ∈ names
  | [], x, _, h => by rcases h with h | h <;> cases h
  | (n, k) :: r, x, hc, h => by
    have ih := @q64 env r x fun y hy => hc y (w0t _ hy)
    rw [w1b] at h;dsimp only at h
    by_cases hx : (x == n) = true
    . have e : x = n := by simpa using hx
      subst e
      by_cases hk : k = .free
      . subst hk; exact w1f
      . exfalso
        have hb : (k == NameKind.free) = false := by simpa using hk
        simp only [hb, Bool.false_and, w2s, if_false, w1a, hx] at h;rcases h with h | h
        . exact hc (x, k) w1f (Option.some.inj h)
        . exact hk (Option.some.inj h)
    . refine w0t _ (ih ?_)
      have hb : (x == n) = false := w1t.mpr hx
      by_cases hq : (k == NameKind.free && env.scope.kind == .function && env.kindOf n == some .cell) = true
      . rw [if_pos hq] at h
        simpa only [w1a, hb] using h
      . rw [if_neg hq] at h
        simpa only [w1a, hb] using h
theorem x0x{prog:Program}{A:Around}{R:Result->Shared->Prop}{elt target iter:Expr}{scope:Scope}{it acc:Value}(I:Nat->Shared->Prop)
  (turn:∀n s,I n s->wpAny (model prog w) A (pyNext it) (fun r s1=>match r with
   |none=>R (.ok .next) s1
   |some v=>wpAny (model prog w) A (letOwnedTupleGo target it v) (fun _ s2=>wpAny (model prog w) A (assign target env v) (fun _ s3=>
     wpAny (model prog w) A (forIn ifs true fun c r=>if r=true then do let ok <- isTrue c env (eval c env);pure (ForInStep.yield ok)else pure (ForInStep.yield r)) (fun ok s4=>
      if ok=true then wpAny (model prog w) A (eval elt env) (fun x s5=>wpAny (model prog w) A (call (.builtin "list.append") [acc,x]) (fun _ s6=>∃m,m<n/\I m s6) (fun _ _=>False) s5) (fun _ _=>False) s4
      else ∃m,m<n/\I m s4) (fun _ _=>False) s3) (fun _ _=>False) s2) (fun _ _=>False) s1) (fun _ _=>False) s)
  (n:Nat)(h:I n s):codeAny (model prog w) A (.compLoop (.ListComp elt [⟨target,iter,ifs,0⟩] scope pos) 0 it acc env) R s:=by
 refine codeAny_loop rfl I (fun n s hI=>?_) n h
 show wpAny _ A ((compTurn (.ListComp elt [⟨target,iter,ifs,0⟩] scope pos) 0 it acc env).onRaise (fun x=>do noteFrame x env;theTreesLotGoes x)) _ _ s
 refine wpAny_noted ?_;rw[compTurn_list];refine wpAny_bind (wpAny_standAt (wpAny_bind (wpAny_mono (turn n s hI) (fun r s1 h1=>?_) fun _ _ z=>z.elim)))
 cases r with
 |none=>exact wpAny_pure h1
 |some v=>
  refine wpAny_bind (wpAny_mono h1 (fun _ s2 h2=>?_) fun _ _ z=>z.elim)
  refine wpAny_bind (wpAny_mono h2 (fun _ s3 h3=>?_) fun _ _ z=>z.elim)
  refine wpAny_bind (wpAny_mono h3 (fun ok s4 h4=>?_) fun _ _ z=>z.elim)
  cases ok with
  |false=>exact wpAny_pure ⟨rfl,h4⟩
  |true=>exact wpAny_bind (wpAny_bind (wpAny_mono h4 (fun x s5 h5=>wpAny_bind (wpAny_mono h5 (fun _ s6 h6=>wpAny_pure (wpAny_pure ⟨rfl,h6⟩)) fun _ _ z=>z.elim)) fun _ _ z=>z.elim))
def pj(js:List Nat)(σ:St):St:=js.map fun j=>(σ[j]?).getD none
theorem y8u{i:Nat}(h:(pj js σ)[i]?=some (some v)):∃j,js[i]?=some j/\σ[j]?=some (some v):=by
 unfold pj at h;rw[w0i]at h;cases e:js[i]? with
 |none=>rw[e]at h;cases h
 |some j=>
  rw[e]at h;have h:(σ[j]?).getD none=some v:=Option.some.inj h;refine⟨j,rfl,?_⟩;cases e2:σ[j]? with
  |none=>rw[e2]at h;cases h
  |some z=>rw[e2]at h;rw[show z=some v from h]
def PTs(X:Cx)(ifs:List Expr)(t:TT):Prop:=
 ∀(pins:List (Addr×Obj))(s:Shared)(σ:St)(H:Hp)(Q:Bool->Hp->Prop),Inv X pins σ H s->t σ H Q ->
  wpAny (model X.prog X.w) X.A (forIn ifs true fun c r=>if r=true then do let ok <- isTrue c X.env (eval c X.env);pure (ForInStep.yield ok)else pure (ForInStep.yield r)) (TP X pins σ Q) X.xe s
def tYes:TT:=fun _ H Q=>Q true H
theorem y4o:PTs X [] tYes:=fun pins s σ H Q I h=>wpAny_tests_nil ⟨H,I,h⟩
theorem y4p{c:Expr}{t:TT}(h:PT X c t):PTs X [c] t:=fun pins s σ H Q I hq=>wpAny_tests_one (h pins s σ H Q I hq)
def Kp(σ σ':St):Prop:=∀(i:Nat) v,σ[i]?=some (some v)->σ'[i]?=some (some v)
theorem Kp.one:Kp (List.replicate 1 none++σ) (some v::σ):=fun i u h=>by
 cases i with
 |zero=>cases h
 |succ i=>exact h
theorem Kp.two{u:V}:Kp (List.replicate 2 none++σ) (some v::some u::σ):=fun i w h=>by
 match i,h with
 |0,h=>cases h
 |1,h=>cases h
 |i+2,h=>exact h
def tComp(wi:TI)(nl:Nat)(js:List Nat)(g:TG)(tc:TT)(te:TE):TE:=fun σ H Q=>wi σ H fun J H1=>∀D,H1 D=none->∃W:Nat->Nat->Hp->Prop,(∃m,W 0 m (upd H1 D (.lst [])))/\∀i m H2,W i m H2 ->
 (J.stop i H2/\Q (.ref D) H2)\/(J.go i H2/\∀x H3,J.yld i H2 x H3->g x (List.replicate nl none++pj js σ) H3 fun σ4 H4=>Kp (List.replicate nl none++pj js σ) σ4/\tc σ4 H4 fun b H5=>
  if b=true then te σ4 H5 fun y H6=>∃ys,H6 D=some (.lst ys)/\ys.length<sizeLine/\∃m',m'<m/\W (i+1) m' (upd H6 D (.lst (ys++[y])))else ∃m',m'<m/\W (i+1) m' H5)
section
variable{elt target iter:Expr}{scope:Scope}{wi:TI}{g:TG}{tc:TT}
theorem x2c{Nl Nf:List Str}{fp:List Addr}{cl:List (Str×Addr)}{h1:Heap}{tk:Nat}{mC:Str->Option Value}
  (I:Inv X pins σ H s)(hfp:∀b∈fp,FpOk X pins H b)(hob:∀b∈fp,∃o,s.heap.get? b=some o/\∀v,o.data≠.cell v)
  (hk:scope.kind=.function)(hcell:∀y∈scope.names,y.2≠.cell)(hcl:∀x c,cl.lookup x=some c->X.env.cells.lookup x=some c)(hcf:∀x,(x,NameKind.free)∈scope.names->∃c,cl.lookup x=some c)
  (hj:∀(i j:Nat) y,Nf[i]?=some y->js[i]?=some j->X.N[j]?=some y)(hlen:js.length=Nf.length)
  (hNf:∀y∈Nf,(y,NameKind.free)∈scope.names/\Vis X.env.scope y/\X.env.kindOf y≠some .local)
  (hvis:∀y∈Nf,(relabel scope X.env).names.lookup y=some .cell\/(relabel scope X.env).names.lookup y=some .free)
  (hn:h1.Ns (s.heap.objs.size+1) mC)(hs:Heap.SameBut (s.heap.objs.size+1) ((s.heap.push {cls:=.type "list", dict:=none,data:=.seq ([]:List Value).toArray}).push {cls:=.type "dict", data:=.dict #[]}) h1):
  Inv (X.cp (Nl++Nf) scope cl (s.heap.objs.size+1) {s with heap:=s.heap.push {cls:=.type "list", dict:=none,data:=.seq ([]:List Value).toArray}} (upd H s.heap.objs.size (.lst [])) fp) [] (List.replicate Nl.length none++pj js σ) (upd H s.heap.objs.size (.lst [])) {s with heap:=h1,toks:=tk}:=by
 have fD:H s.heap.objs.size=none:=I.hok.fresh (w0j _);have up1:∀b u,s.heap.get? b=some u->(s.heap.push {cls:=.type "list", dict:=none,data:=.seq ([]:List Value).toArray}).get? b=some u:=fun b u q=>Heap.get?_push_of_some _ q
 have szp:(s.heap.push {cls:=.type "list", dict:=none,data:=.seq ([]:List Value).toArray}).objs.size=s.heap.objs.size+1:=Heap.size_push ..
 have up2:∀b u,(s.heap.push {cls:=.type "list", dict:=none,data:=.seq ([]:List Value).toArray}).get? b=some u->h1.get? b=some u:=fun b u q=>by
  have hlt:=Heap.lt_size q;rw[szp]at hlt;exact(hs.2 b (w0x hlt)).trans (Heap.get?_push_of_some _ q)
 have up:∀b u,s.heap.get? b=some u->h1.get? b=some u:=fun b u q=>up2 b u (up1 b u q)
 have ltOf:∀b o,s.heap.get? b=some o->b≠s.heap.objs.size:=fun b o q=>w0x (Heap.lt_size q)
 have fr0:∀b o,s.heap.get? b=some o->H b=none->upd H s.heap.objs.size (.lst []) b=none:=fun b o q n=>by rw[q0b (ltOf b o q)];exact n
 have hasC:∀x,((relabel scope X.env).names.lookup x=some .cell\/(relabel scope X.env).names.lookup x=some .free)->∃c,cl.lookup x=some c:=fun x hx=>hcf x (q64 hcell hx)
 have hokD:HOk X.prog X.w (upd H s.heap.objs.size (.lst [])) (s.heap.push {cls:=.type "list", dict:=none,data:=.seq ([]:List Value).toArray}):=
  I.hok.laid up1 (w0j _) ⟨w1k _,[],_,.nil,Heap.get?_push_size _ rfl⟩
 have cellK:∀x c,cl.lookup x=some c->∃v,s.heap.IsCell c v:=fun x c e=>I.cell x c (hcl x c e)
 have cellUp:∀c v,s.heap.IsCell c v->h1.IsCell c v:=fun c v ⟨o,q,r⟩=>⟨o,up _ _ q,r⟩
 refine⟨⟨I.ok.mod,hk,I.ok.glob,I.ok.blt,(by show(s.heap.push _).objs.size<=_;rw[szp];exact w0j _),fun x y c e1 e2=>I.ok.inj x y c (hcl x c e1) (hcl y c e2),fun x hx=>hasC x hx,(fun x c z=>nomatch z),I.ok.hd,I.ok.frames,.inl rfl,fun b hb=>⟨?_,fun x c e=>?_⟩,fun b o q=>?_,?_,fun b o q hb=>?_,fun b hb hb2=>?_,?_,fun b hb=>?_,(I.ok.tab.un I.base).laid fD⟩,
  rfl,I.bare,Un.kept up2,⟨mC,hn,fun i y v e1 e2 e3=>?_⟩,fun x c e=>?_,?_,fun x c e=>?_,fun p hp=>(by cases hp),hokD.kept up2,?_⟩
 ·obtain⟨o,q,_⟩:=hob b hb;exact w0x (w2l (Heap.lt_size q))
 ·exact(hfp b hb).2.2.2.2.1 x c (hcl x c e)
 ·obtain⟨q1,q2⟩:=I.bs b o q;exact⟨up1 _ _ q1,fr0 b o q1 q2⟩
 ·show X.base.objs.size<=(s.heap.push _).objs.size;rw[szp];exact Nat.le_succ_of_le (w1d I.ok.bsz I.sz)
 ·rcases(hfp b hb).2.2.2.1 with z|z
  ·exact I.ok.noex b o q z
  ·obtain⟨q1,_⟩:=I.ok.bs b o q;exact absurd (Heap.lt_size q1) (w4b.mpr z)
 ·rcases w0h.mp (I.stkSub b hb2)with z|z
  ·exact(hfp b hb).2.1 z
  ·exact(hfp b hb).2.2.1 z
 ·exact I.stack.of_keeps fun b o q _=>⟨o,up1 _ _ q,rfl⟩
 ·obtain⟨_,o,q,_⟩:=I.stack.mem hb;exact fr0 b o q (I.stkFree b hb)
 ·-- the names
  have e2':(List.replicate Nl.length none++pj js σ)[i]?=some (some v):=e2;have e1':(Nl++Nf)[i]?=some y:=e1
  by_cases hi:i<Nl.length
  ·rw[w1c (by simpa using hi),w2v]at e2';split at e2'<;>cases e2'
  ·have hi':Nl.length<=i:=w4b.mp hi;rw[w1e (by simpa using hi')]at e2';rw[w1e hi']at e1';rw[w1w]at e2';obtain⟨j,ej,eσ⟩:=y8u e2';have hNy:=hj _ _ _ e1' ej;obtain⟨hfr,hv,hnl⟩:=hNf y (w0m e1');obtain⟨m,hm,hl⟩:=I.loc;obtain⟨u,r,l⟩:=hl j y v hNy eσ hv;refine⟨u,r,?_⟩;rcases l with⟨k,_⟩|⟨k,c,ec,z⟩
   ·exact absurd k hnl
   ·obtain⟨c',ec'⟩:=hcf y hfr;have:=hcl y c' ec';rw[ec]at this;cases this;exact .inr ⟨hvis y (w0m e1'),c,ec',cellUp _ _ z⟩
 ·obtain⟨v,z⟩:=cellK x c e;exact⟨v,cellUp _ _ z⟩
 ·show upd H s.heap.objs.size (.lst []) (s.heap.objs.size+1)=none;rw[q0b (Nat.succ_ne_self _)];exact I.hok.fresh (w4o _)
 ·obtain⟨v,o,q,_⟩:=cellK x c e;exact fr0 c o q (I.freeC x c (hcl x c e))
 ·show(List.replicate Nl.length none++pj js σ).length=(Nl++Nf).length;rw[w1o,w1o,w1w];unfold pj;rw[w0a,hlen]
theorem x6y{σ':St}{s':Shared}{Nc:List Str}{fp:List Addr}{cl:List (Str×Addr)}{h':Heap}
  (I:Inv X pins σ H s)(hfp:∀b∈fp,FpOk X pins H b)
  (J:Inv (X.cp Nc scope cl (s.heap.objs.size+1) {s with heap:=s.heap.push {cls:=.type "list", dict:=none,data:=.seq ([]:List Value).toArray}} (upd H s.heap.objs.size (.lst [])) fp) [] σ' H' s')
  (hs:Heap.SameBut (s.heap.objs.size+1) s'.heap h'):Inv X pins σ H' {s' with heap:=h'}:=by
 have fD:H s.heap.objs.size=none:=I.hok.fresh (w0j _);have up1:∀b u,s.heap.get? b=some u->(s.heap.push {cls:=.type "list", dict:=none,data:=.seq ([]:List Value).toArray}).get? b=some u:=fun b u q=>Heap.get?_push_of_some _ q
 have neC:∀b o,s.heap.get? b=some o->b≠s.heap.objs.size+1:=fun b o q=>w0x (w2l (Heap.lt_size q))
 have fr0:∀b o,s.heap.get? b=some o->H b=none->upd H s.heap.objs.size (.lst []) b=none:=fun b o q n=>by rw[q0b (w0x (Heap.lt_size q))];exact n
 have old:∀b u,H b=some u->upd H s.heap.objs.size (.lst []) b=some u:=fun b u q=>by rw[q0b (q0i q fD)];exact q
 have B:Un (frs X.stack) fp (upd H s.heap.objs.size (.lst [])) H' (s.heap.push {cls:=.type "list", dict:=none,data:=.seq ([]:List Value).toArray}) s'.heap:=J.base;have hC:H' (s.heap.objs.size+1)=none:=J.free;refine I.call' (s':={s' with heap:=h'}) (ch:=fp) (J.os.trans rfl) ⟨fun b o q n hb hx=>?_,fun b o q n hb hx=>?_,fun b o q n hx=>B.free b o (up1 _ _ q) (fr0 b o q n) hx,fun b o q hx=>?_,fun b xs q=>B.tups b xs (old _ _ q),fun b o u q=>B.frzs b o u (old _ _ q),fun b ps q=>B.tbls b ps (old _ _ q)⟩ (fun a o q=>?_) J.bare fun b hb=>?_
 ·exact(hs.2 b (neC b o q)).trans (B.keep b o (up1 _ _ q) (fr0 b o q n) hb hx)
 ·obtain⟨sl,z⟩:=B.slot b o (up1 _ _ q) (fr0 b o q n) hb hx;exact⟨sl,(hs.2 b (neC b o q)).trans z⟩
 ·obtain⟨o',z⟩:=B.there b o (up1 _ _ q) hx;exact⟨o',(hs.2 b (neC b o q)).trans z⟩
 ·refine(J.hok a o q).stay (fun c v hc z=>(hs.2 c ?_).trans z) (fun _ z=>z) fun _ _ _ z=>z
  rintro rfl;rcases hc with rfl|hc
  ·rw[hC]at q;cases q
  ·rw[hC]at hc;cases hc
 ·obtain⟨_,f1,f2,f3,f4,f5⟩:=hfp b hb;exact⟨f3,f1,f4,f5⟩
theorem y4q{Nl Nf:List Str}(hc:X.calm=true)(hi:PI X target iter wi)
  (hk:scope.kind=.function)(hcell:∀y∈scope.names,y.2≠.cell)(hnames:∀x∈scope.names,x.2=.local->scope.names.lookup x.1=some .local)
  (hfree:∀x∈scope.names,x.2=.free->X.env.kindOf x.1=some .cell\/X.env.kindOf x.1=some .free)
  (hj:∀(i j:Nat) y,Nf[i]?=some y->js[i]?=some j->X.N[j]?=some y)(hlen:js.length=Nf.length)
  (hNf:∀y∈Nf,(y,NameKind.free)∈scope.names/\Vis X.env.scope y/\X.env.kindOf y≠some .local)
  (hvis:∀y∈Nf,(relabel scope X.env).names.lookup y=some .cell\/(relabel scope X.env).names.lookup y=some .free)
  (hg:∀cl C s₀ H₀ ex,PG (X.cp (Nl++Nf) scope cl C s₀ H₀ ex) target g)(ht:∀cl C s₀ H₀ ex,PTs (X.cp (Nl++Nf) scope cl C s₀ H₀ ex) ifs tc)(he:∀cl C s₀ H₀ ex,PE (X.cp (Nl++Nf) scope cl C s₀ H₀ ex) elt te)
  (hs:∀x,foldedSetIterable iter X.env x=pure x:=by intro _;rfl):
  PE X (.ListComp elt [⟨target,iter,ifs,0⟩] scope pos) (tComp wi Nl.length js g tc te):=by
 intro pins s σ H Q I h;obtain⟨cl,hclos,hcl,hcf⟩:=q5c (scope:=scope) (env:=X.env) fun x hx hf=>I.ok.has x.1 (hfree x hx hf)
 rw[eval_ListComp];refine wpAny_comprehension_free (use:=none) rfl hs hclos hk hnames (thn (hi pins s σ H _ I h) fun v s1 h1=>thn h1 fun itv s2 h2=>?_)
 obtain⟨it,fp,tn,J,H2,e,I2,T,st2,f2,rd⟩:=h2;subst e;refine wpAny_newObj_type (wpAny_newFunctionEnv hcell (by intro y hy;simp at hy) (fun h₁ hns₁ hsb₁=>?_) hk)
 dsimp only at hns₁ hsb₁ |-
 have szp:(s2.heap.push {cls:=.type "list", dict:=none,data:=.seq ([]:List Value).toArray}).objs.size=s2.heap.objs.size+1:=Heap.size_push ..;rw[szp]at hns₁ hsb₁ |-
 have fD:H2 s2.heap.objs.size=none:=I2.hok.fresh (w0j _);obtain⟨W,⟨m0,w0⟩,turn⟩:=rd s2.heap.objs.size fD;have obj2:=T.obj 0 s2.heap st2;have IS:=x2c (Nl:=Nl) (Nf:=Nf) (js:=js) (cl:=cl) (tk:=s2.toks+([]:List (Str×Value)).length) I2 f2 obj2 hk hcell hcl hcf hj hlen hNf hvis hns₁ hsb₁
 have upS:∀b u,s2.heap.get? b=some u->h₁.get? b=some u:=fun b u q=>by
  have hlt:=Heap.lt_size q;exact(hsb₁.2 b (w0x (w2l hlt))).trans (Heap.get?_push_of_some _ (Heap.get?_push_of_some _ q))
 have stS:tn 0 h₁:=T.keep 0 s2.heap h₁ st2 fun b hb o q=>upS b o q
 have noD:∀b∈fp,upd H2 s2.heap.objs.size (.lst []) b=none:=fun b hb=>by
  obtain⟨o,q,_⟩:=obj2 b hb;rw[q0b (w0x (Heap.lt_size q))];exact(f2 b hb).1
 have stat:∀{H':Hp},(∀b∈fp,H' b=none)->∀b∈fp,FpOk (X.cp (Nl++Nf) scope cl (s2.heap.objs.size+1) {s2 with heap:=s2.heap.push {cls:=.type "list", dict:=none,data:=.seq ([]:List Value).toArray}} (upd H2 s2.heap.objs.size (.lst [])) fp) [] H' b:=fun hn b hb=>by
  refine⟨hn b hb,(IS.ok.exf b hb).1,IS.ok.exfs b hb,.inl hb,(IS.ok.exf b hb).2,fun p hp=>(by cases hp)⟩
 have loop:∀s4:Shared,s4={s2 with heap:=h₁,toks:=s2.toks+([]:List (Str×Value)).length} ->
   codeAny (model X.prog X.w) X.A (.compLoop (.ListComp elt [⟨target,iter,ifs,0⟩] scope pos) 0 (.ref it) (.ref s2.heap.objs.size) (compEnvC scope cl (s2.heap.objs.size+1) X.env))
    (compPost (model X.prog X.w) X.A X.xe none (EP X pins σ Q) (.ref s2.heap.objs.size) (s2.heap.objs.size+1)) s4:=by
  rintro s4 rfl;refine x0x (fun n s'=>∃i H',Inv (X.cp (Nl++Nf) scope cl (s2.heap.objs.size+1) {s2 with heap:=s2.heap.push {cls:=.type "list", dict:=none,data:=.seq ([]:List Value).toArray}} (upd H2 s2.heap.objs.size (.lst [])) fp) [] (List.replicate Nl.length none++pj js σ) H' s'/\tn i s'.heap/\(∀b∈fp,H' b=none)/\W i n H') ?_ m0 ⟨0,_,IS,stS,noD,w0⟩
  rintro n s3 ⟨i,H3,I3,st3,fr3,w3⟩;rcases turn i n H3 w3 with⟨stop,qn⟩|⟨go,step⟩
  ·refine thn (T.done (X.cp (Nl++Nf) scope cl (s2.heap.objs.size+1) {s2 with heap:=s2.heap.push {cls:=.type "list", dict:=none,data:=.seq ([]:List Value).toArray}} (upd H2 s2.heap.objs.size (.lst [])) fp) rfl rfl rfl hc i [] s3 _ H3 _ I3 (stat fr3) st3 stop) fun r s5 ⟨hr,I5⟩=>?_
   subst hr;obtain⟨m5,hn5,_⟩:=I5.loc;refine⟨m5,hn5,fun h' hs'=>⟨.ref s2.heap.objs.size,H3,x6y I2 f2 I5 hs',rfl,qn⟩⟩
  ·refine thn (T.item (X.cp (Nl++Nf) scope cl (s2.heap.objs.size+1) {s2 with heap:=s2.heap.push {cls:=.type "list", dict:=none,data:=.seq ([]:List Value).toArray}} (upd H2 s2.heap.objs.size (.lst [])) fp) rfl rfl rfl hc i [] s3 _ H3 _ I3 (stat fr3) st3 go) fun r s5 ⟨u,hr,h5⟩=>?_
   subst hr;refine thn h5 fun _ s6 ⟨x,H6,I6,r6,y6,st6,fr6⟩=>?_
   have I6':=I6.pinned (stat fr6) (T.obj _ _ st6);refine thn (hg _ _ _ _ _ _ s6 _ H6 x u _ I6' r6 (step x H6 y6)) fun _ s7 ⟨σ7,H7,I7,kp,q7⟩=>?_
   refine thn (ht _ _ _ _ _ _ s7 σ7 H7 _ I7 q7) fun ok s8 ⟨H8,I8,q8⟩=>?_
   have again:∀{σ9:St}{H9:Hp}{s9:Shared},Inv (X.cp (Nl++Nf) scope cl (s2.heap.objs.size+1) {s2 with heap:=s2.heap.push {cls:=.type "list", dict:=none,data:=.seq ([]:List Value).toArray}} (upd H2 s2.heap.objs.size (.lst [])) fp) ([]++pinsAt fp s6.heap) σ9 H9 s9 ->
     Kp (List.replicate Nl.length none++pj js σ) σ9->(∃m',m'<n/\W (i+1) m' H9)->∃m,m<n/\∃i H',Inv (X.cp (Nl++Nf) scope cl (s2.heap.objs.size+1) {s2 with heap:=s2.heap.push {cls:=.type "list", dict:=none,data:=.seq ([]:List Value).toArray}} (upd H2 s2.heap.objs.size (.lst [])) fp) [] (List.replicate Nl.length none++pj js σ) H' s9/\tn i s9.heap/\(∀b∈fp,H' b=none)/\W i m H':=fun {σ9 H9 s9} I9 hw ⟨m',hm,w9⟩=>by
    refine⟨m',hm,i+1,H9,I9.unpinned.weak (by rw[I9.len,<- IS.len]) hw,T.keep _ _ _ st6 fun b hb o q=>(I9.pin (b,o) (w0l _ (w0l _ (q2k hb q)))).1,fun b hb=>?_,w9⟩
    obtain⟨o,q,d⟩:=T.obj _ _ st6 b hb;exact(I9.pin (b,o) (w0l _ (w0l _ (q2k hb q)))).2.1
   cases ok with
   |false=>exact again I8 kp (by simpa using q8)
   |true=>
    have q8':=by simpa only[if_true]using q8
    refine thn (he _ _ _ _ _ _ s8 σ7 H8 _ I8 q8') fun y s9 ⟨yv,H9,I9,r9,ys,hD,hz,q9⟩=>?_
    refine thn (q62 _ s9 σ7 H9 (.ref s2.heap.objs.size) [yv] (.ref s2.heap.objs.size) [y] (fun v H'=>v=.non/\H'=upd H9 s2.heap.objs.size (.lst (ys++[yv]))) I9 rfl (.cons r9 .nil) ⟨_,ys,yv,rfl,rfl,hD,hz,rfl,rfl⟩) fun _ s10 ⟨_,H10,I10,_,_,e10⟩=>?_
    subst e10;exact again I10 kp q9
 exact codeAny_compStart_list (loop _ rfl) (T.self X.A 0 _ _ _ stS (loop _ rfl))
end
theorem q5m{env:Env}:∀{names:List (Str×NameKind)}{x:Str},names.lookup x=some .free ->
  (names.map fun(n,k)=>if(k==NameKind.free&&env.scope.kind==.function&&env.kindOf n==some .cell)then(n,NameKind.cell)else(n,k)).lookup x=some .cell \/
  (names.map fun(n,k)=>if(k==NameKind.free&&env.scope.kind==.function&&env.kindOf n==some .cell)then(n,NameKind.cell)else(n,k)).lookup x=some .free
 |[],x,h=>by cases h
 |(n,k)::r,x,h=>by
  have ih:=@q5m env r x;rw[w1b];dsimp only
  by_cases hx:(x==n)=true
  ·simp only[w1a,hx]at h;cases h
   by_cases hq:(NameKind.free==NameKind.free&&env.scope.kind==.function&&env.kindOf n==some .cell)=true
   ·rw[if_pos hq];left;simp[w1a,hx]
   ·rw[if_neg hq];right;simp[w1a,hx]
  ·have hb:(x==n)=false:=w1t.mpr hx;simp only[w1a,hb]at h;have z:=ih h
   by_cases hq:(k==NameKind.free&&env.scope.kind==.function&&env.kindOf n==some .cell)=true
   ·rw[if_pos hq];simpa only[w1a,hb]using z
   ·rw[if_neg hq];simpa only[w1a,hb]using z
def compOk(sc scope:Scope)(N Nf:List Str)(js:List Nat):Bool:=
 scope.kind==.function&&scope.names.all (fun y=>y.2 != .cell)&&scope.names.all (fun y=>y.2 != .local||scope.names.lookup y.1==some .local) &&
 scope.names.all (fun y=>y.2 != .free||sc.names.lookup y.1==some .cell||sc.names.lookup y.1==some .free)&&js.length==Nf.length &&
 (List.range js.length).all (fun i=>match js[i]?,Nf[i]? with|some j,some y=>N[j]?==some y|_,_=>true) &&
 Nf.all (fun y=>scope.names.lookup y==some .free&&(sc.names.lookup y==some .cell||sc.names.lookup y==some .free))
theorem q6i{elt target iter:Expr}{scope sc:Scope}{wi:TI}{g:TG}{tc:TT}{Nl Nf:List Str}(hc:X.calm=true)(hi:PI X target iter wi)
  (ok:compOk sc scope N Nf js=true)
  (hg:∀cl C s₀ H₀ ex,PG (X.cp (Nl++Nf) scope cl C s₀ H₀ ex) target g)(ht:∀cl C s₀ H₀ ex,PTs (X.cp (Nl++Nf) scope cl C s₀ H₀ ex) ifs tc)(he:∀cl C s₀ H₀ ex,PE (X.cp (Nl++Nf) scope cl C s₀ H₀ ex) elt te)
  (hsc:X.env.scope=sc:=by rfl)(hN:X.N=N:=by rfl)(hs:∀x,foldedSetIterable iter X.env x=pure x:=by intro _;rfl):
  PE X (.ListComp elt [⟨target,iter,ifs,0⟩] scope pos) (tComp wi Nl.length js g tc te):=by
 unfold compOk at ok;simp only[w0y,w0s,beq_iff_eq,bne_iff_ne,w3j,w0o]at ok;obtain⟨⟨⟨⟨⟨⟨k1,k2⟩,k3⟩,k4⟩,k5⟩,k6⟩,k7⟩:=ok;have kind:∀x,X.env.kindOf x=sc.names.lookup x:=fun x=>by rw[<- hsc];rfl
 refine y4q hc hi k1 k2 (fun x hx hl=>(k3 x hx).resolve_left fun z=>z hl) (fun x hx hf=>?_) (fun i j y e1 e2=>?_) k5 (fun y hy=>?_) (fun y hy=>?_) hg ht he hs
 ·rw[kind];rcases k4 x hx with(z|z)|z
  ·exact absurd hf z
  ·exact .inl z
  ·exact .inr z
 ·have hlt:i<js.length:=(w0b.mp e2).1;have z:=k6 i hlt;rw[e1,e2]at z;rw[hN]
  simpa using z
 ·obtain⟨z1,z2⟩:=k7 y hy;refine⟨PySem.mem_of_lookup z1,?_,?_⟩
  ·rw[hsc];rcases z2 with z|z
   ·exact .inr (.inl z)
   ·exact .inr (.inr z)
  ·rw[kind];rcases z2 with z|z<;>(rw[z];decide)
 ·exact q5m (k7 y hy).1
abbrev TF:=Str->St->Hp->(Str->Hp->Prop)->Prop
def PF(X:Cx)(es:List Expr)(t:TF):Prop:=∀(acc:Str)(pins:List (Addr×Obj))(s:Shared)(σ:St)(H:Hp)(Q:Str->Hp->Prop),Inv X pins σ H s->t acc σ H Q ->
 Joins (model X.prog X.w) X.A X.xe (evalEach es X.env) acc (fun out s'=>out.length<=sizeLine/\∃H',Inv X pins σ H' s'/\Q out H') s
theorem x96(hc:X.calm=true):CallR X (.builtin "all") (fun xs H Q=>∃p ys,xs=[.ref p]/\SqL X.K H p ys/\(∀y∈ys,∃b,y=.bl b)/\Q (.bl (ys.all fun y=>decide (y=.bl true))) H):=by
 intro pins s σ H xs us Q I r h;obtain⟨p,ys,rfl,hq,hb,q⟩:=h;obtain⟨u,rfl,rx⟩:=vals1 r;cases rx;obtain⟨its,r',pl,hz⟩:=I.list hq;have hl:=pl.isList;have hlt:p<s.heap.objs.size:=by obtain⟨_,e,_⟩:=hl;exact Heap.lt_size e
 have hh:X.A.in1.handled=none:=I.ok.hd hc;refine call_all_walk (wpAny_pyIter_list hl ⟨s.heap.objs.size,[s.heap.objs.size,p],[s.heap.objs.size],_,_,_,fun i=>decide (ys[i]?=some (.bl true)),rfl,Walks.list hh s.heap.objs.size p (w0x hlt) its.toArray,⟨⟨_,Heap.get?_push_size _ rfl,rfl,rfl⟩,hl.push _⟩,?_,fun h' tk kp=>?_⟩)
 ·intro i v s1 Q1 E1 hv hQ;have hv':its[i]?=some v:=by simpa using hv
  have hi:i<ys.length:=by rw[r'.length];exact(w0b.mp hv').1
  obtain⟨u,hu,ru⟩:=r'.get (w0c hi);rw[hv']at hu;cases hu;obtain⟨b,eb⟩:=hb ys[i] (w0v hi);rw[eb]at ru;cases ru;refine wpAny_truthy_bool ?_
  have e:decide (ys[i]?=some (V.bl true))=b:=by
   rw[w0c hi,eb];cases b<;>simp
  rw[<- e];exact hQ
 ·have e:(List.range its.toArray.size).all (fun i=>decide (ys[i]?=some (V.bl true)))=ys.all fun y=>decide (y=.bl true):=by
   rw[w2w,w0s,w0s];constructor
   ·intro hA y hy;obtain⟨i,hi,rfl⟩:=w2p hy;have z:=hA i (by rw[w0o,w0e,<- r'.length];exact hi);rw[w0c hi]at z
    simpa using z
   ·intro hA i hi;rw[w0o,w0e,<- r'.length]at hi;have z:=hA ys[i] (w0v hi);rw[w0c hi]
    simpa using z
  refine⟨.bl _,H,I.kept (t':=tk) fun b o hbo=>kp b o (fun z=>?_) (Heap.get?_push_of_some _ hbo),rfl,e ▸ q⟩
  rw[w0u]at z;exact absurd (Heap.lt_size hbo) (by rw[z];exact w2g _)
namespace RevT
open AutoSeq1 (wpAny_loadPart')
end RevT
open PySem PySem.Spec PyProof.Rows
variable{c f:Addr}{A:Around}{X:Cx}{e:Expr}{h:Heap}{H H':Hp}{EE:L2.St->XK}{es:List Expr}{ps:List Str}{p pos:Pos}{P:Program}{K:Fg}{s:Shared}{x:Str}{w:World}
structure ExcCls(K:Fg)(D:Addr):Prop where
 ga:findIn K (.ref D) "__getattribute__"=some (some (.builtin "BaseException.__getattribute__"))
 gt:findIn K (.ref D) "__getattr__"=some none
 cl:findIn K (.ref D) "__class__"=some (some (.builtin "object.__class__"))
 gs:specialIn K (.builtin "object.__class__") "__get__"=some (some (.builtin "getset_descriptor.__get__"))
 tk:PySem.W.takesIn K (.builtin "object.__class__")=some true
 mo:mroIn K D (.type "object")=some true
 mb:mroIn K D (.type "BaseException")=some true
 cd:(PySem.W.clsIn K D).isSome=true
structure Cal(P:Program)(w:World)(K:Fg)(mg:Str->Option Value)(base:Heap)(k:Nat)(x:Str)(ps:List Str)(sp:Sp):Prop where
 ex:∃f fd,FnOk P w K mg base (CX1 P w) k f fd ps sp/\mg x=some (.ref f)/\keepIn K (.ref f)=true/\Binds K fd ps []
structure CalH(P:Program)(w:World)(K:Fg)(mg:Str->Option Value)(base:Heap)(k:Nat)(x:Str)(ps:List Str)(sp:Sp):Prop where
 ex:∃f fd,FnOkH P w K mg base k f fd ps sp/\mg x=some (.ref f)/\keepIn K (.ref f)=true/\Binds K fd ps []
structure At(K:Fg)(mg:Str->Option Value)(x:Str)(st:Stmt)(ps:List Str):Prop where
 ex:∃f fd,Fun K x x st f fd/\mg x=some (.ref f)/\Binds K fd ps []
section
variable{mg:Str->Option Value}{base:Heap}
theorem At.cal{st:Stmt}{N:List Str}{k:Nat}{sp:Sp}(F:At K mg x st ps)(S:FnScope N ps (defScope st))(len:∀vs H Q E,sp vs H Q E->vs.length=ps.length)
  (hbody:∀(f:Addr)(cdv:Value)(A:Around)(outer:List Env)(s:Shared)(H:Hp)(vs:List V)(Q:VK)(E:XK),Room k (A.deeper (envOfC x (defScope st) s.heap.objs.size f cdv))->sp vs H Q E ->
   ∃t,PSs (cxOf (CX1 P w) P w K mg base N x (defScope st) f cdv A outer s H E) (defBody st) t/\t {nx:=fun _ H'=>Q .non H',rt:=Q} (start N vs) H):Cal P w K mg base (k+1) x ps sp:=by
 obtain⟨f,fd,F,m,b⟩:=F.ex;exact⟨f,fd,F.okX S len (hbody f),m,F.kp,b⟩
end
section
variable{k:Nat}{sp:Sp}{t:TA}
theorem x6z(C:Cal X.prog X.w X.K X.mg X.base k x ps sp)(hr:Room k X.A)(hx:PassX (CX1 X.prog X.w) X EE)(ha:PA X (e::es) t)(hg:Gl X x:=by rfl)
  (hdb:(x==("__debug__":Str))=false:=by decide)(he:starEach (e::es) X.env=(false,eval e X.env)::starEach es X.env:=by rfl)(hpl:(backTo pos (starEach es X.env)).any (·.1)=false:=by rfl):
  PE X (.Call (.Name x p) (e::es) [] pos) (tCallX sp [] EE t):=by
 obtain⟨f,fd,F,m,kp,b⟩:=C.ex;exact x95 F hr hg m kp b .nil hx ha hdb he hpl
end
section
variable{te:TE}{t:TA}{pos':Pos}
theorem q6j(i:Nat)(hN:X.N.Nodup)(he:PE X e te)(hi:X.N[i]?=some x:=by rfl)(hx:Loc X.env.scope x:=by walk_at "3")(hs:swapsWith e (some (.Name x pos')) pos.line X.env=pure false:=by rfl)(hf:X.fn x=true\/X.env.scope.names.lookup x=some .local:=by walk_at "2"):
  PS X (.Assign [.Name x pos'] e pos) (tAsg te (gName i)):=y8k hN hi hx he hs hf
theorem q28(i:Nat)(hN:X.N.Nodup)(hi:X.N[i]?=some x:=by rfl)(hx:Loc X.env.scope x:=by walk_at "3")(hf:X.fn x=true\/X.env.scope.names.lookup x=some .local:=by walk_at "2"):PG X (.Name x pos) (gName i):=y4f hN hi hx hf
theorem x60{o:Expr}{to:TE}{apos:Pos}(ho:PE X o to)(ha:PA X (e::es) t)(hbase:attributeBase o "append" X.env (eval o X.env)=eval o X.env:=by rfl)
  (hfew:((backTo pos (starEach (e::es) X.env)).all (fun x=>!x.1)&&(backToKw pos (keywordEach [] X.env)).all (fun x=>x.1.isSome)&&decide ((e::es).length+([]:List Keyword).length+(if([]:List Keyword).isEmpty then 0 else 1)<30))=true:=by rfl)
  (hline:(apos.endLine==pos.line)=true:=by rfl)(hs:starEach (e::es) X.env=(false,eval e X.env)::starEach es X.env:=by rfl)(hplain:(backTo pos (starEach es X.env)).any (·.1)=false:=by rfl):
  PE X (.Call (.Attribute o "append" apos) (e::es) [] pos) (tBM X.K "list" rAppend to t):=x5o PySem.F.plainAttrs_list PySem.F.slot_list_append PySem.F.type_list_append q62 ho ha hbase hfew hline hs hplain
end
theorem q23{p:Addr}(h:H p=none)(o:HO):Same H (upd H p o):=fun b u q=>by rw[q0b (q0i q h)];exact q
theorem Same.tup{a:Addr}{xs:List V}(e:Same H H')(h:SqT K H a xs):SqT K H' a xs:=by
 rcases h with(h|⟨o,h⟩)|h
 ·exact .inl (.inl (e _ _ h))
 ·exact .inl (.inr ⟨o,e _ _ h⟩)
 ·exact .inr h
noncomputable abbrev rawO(o:Obj):HO:=.frz o (.own 0)
noncomputable abbrev fnO(o:Obj)(q:Str)(c:Addr):HO:=.frz o (.tbl #[.bool false,.str q 0,.ref c])
noncomputable abbrev celO(o:Obj):HO:=.frz o (.ext fun _=>True)
noncomputable abbrev Cs:=List (Addr×Obj)
variable{cs:Cs}
def rmC(H:Hp)(cs:Cs):Hp:=fun b=>match cs.lookup b with
 |some _=>none
 |none=>H b
def addC(H:Hp)(cs:Cs):Hp:=fun b=>match cs.lookup b with
 |some o=>some (celO o)
 |none=>H b
section
variable{b:Addr}{o:Obj}{u:HO}
theorem q65(h:cs.lookup b=some o):rmC H cs b=none:=by unfold rmC;rw[h]
theorem q05(h:cs.lookup b=none):rmC H cs b=H b:=by unfold rmC;rw[h]
theorem q15(h:cs.lookup b=some o):addC H cs b=some (celO o):=by unfold addC;rw[h]
theorem q0q(h:cs.lookup b=none):addC H cs b=H b:=by unfold addC;rw[h]
theorem q5n(h:H b=none):rmC H cs b=none:=by unfold rmC;split<;>first|rfl|exact h
def CelsIn(H:Hp)(cs:Cs):Prop:=∀b o,cs.lookup b=some o->H b=some (celO o)
theorem CelsIn.out(c:CelsIn H cs)(h:H b=none):cs.lookup b=none:=by
 cases q:cs.lookup b with
 |none=>rfl
 |some o=>rw[c b o q]at h;cases h
theorem CelsIn.out'(c:CelsIn H cs)(h:H b=some u)(n:∀o,u≠celO o):cs.lookup b=none:=by
 cases q:cs.lookup b with
 |none=>rfl
 |some o=>rw[c b o q]at h;cases h;exact absurd rfl (n o)
theorem CelsIn.rm_some(c:CelsIn H cs)(h:H b=some u)(n:∀o,u≠celO o):rmC H cs b=some u:=by rw[q05 (c.out' h n)];exact h
theorem x5q(h:rmC H cs b=some u):H b=some u/\cs.lookup b=none:=by
 unfold rmC at h;split at h
 ·cases h
 ·rename_i q;exact⟨h,q⟩
theorem q76(t:TupLike u):∀o,u≠celO o:=fun o z=>by subst z;exact t
end
section
variable{h':Heap}{fs ex:List Addr}
theorem HOk.rm(x:HOk P w H h)(c:CelsIn H cs):HOk P w (rmC H cs) h:=fun a u e=>by
 obtain⟨e1,_⟩:=x5q e;exact(x a u e1).stay (fun b v _ q=>q) (fun b q=>c.rm_some q fun o z=>nomatch z) fun b v t q=>c.rm_some q (q76 t)
theorem HOk.add(x:HOk P w H h)(hc:∀b o,cs.lookup b=some o->H b=none/\h.get? b=some o):HOk P w (addC H cs) h:=fun a u e=>by
 cases q:cs.lookup a with
 |some o=>
  rw[q15 q]at e;cases e;exact⟨(hc a o q).2,trivial,⟨o,(hc a o q).2⟩,fun _ _ _ _=>trivial⟩
 |none=>
  rw[q0q q]at e
  have out:∀b v,H b=some v->addC H cs b=some v:=fun b v z=>by
   cases q2:cs.lookup b with
   |some o=>rw[(hc b o q2).1]at z;cases z
   |none=>rw[q0q q2];exact z
  exact(x a u e).stay (fun b v _ q=>q) (fun b q=>out b _ q) fun b v t q=>out b v q
theorem y4r{o:Obj}{q:Str}(x:HOk P w H h)(e:H f=some (fnO o q c)):h.get? f=some o/\h.CodeRec (.ref c) q:=by
 obtain⟨h1,h2⟩:=(show h.get? f=some o/\ObjOk P w H h f (.tbl #[.bool false,.str q 0,.ref c])from x f _ e);refine⟨h1,?_⟩;rcases h2 with⟨_,_,p0,_⟩|⟨q',c',oc,ob,vs,t,_,p1,p2,h3,h4,h5,_⟩
 ·cases p0
 ·cases p1;cases p2;exact⟨c,oc,vs,t,rfl,(show h.get? c=some oc/\_ from x c _ h3).1,h4,h5⟩
theorem Un.cells(u:Un fs ex (rmC H cs) H' h h')(c:CelsIn H cs):Un fs ex H (addC H' cs) h h' where
 keep:=fun b o q n hb hx=>u.keep b o q (q5n n) hb hx
 slot:=fun b o q n hb hx=>u.slot b o q (q5n n) hb hx
 free:=fun b o q n hx=>by rw[q0q (c.out n)];exact u.free b o q (q5n n) hx
 there:=u.there
 tups:=fun b xs q=>by
  have z:=c.out' q fun o z=>nomatch z
  rw[q0q z];exact u.tups b xs (by rw[q05 z];exact q)
 frzs:=fun b o v q=>by
  cases z:cs.lookup b with
  |some o'=>
   rw[q15 z];rw[c b o' z]at q;exact q
  |none=>rw[q0q z];exact u.frzs b o v (by rw[q05 z];exact q)
 tbls:=fun b ps q=>by
  have z:=c.out' q fun o z=>nomatch z
  rw[q0q z];exact u.tbls b ps (by rw[q05 z];exact q)
theorem Un.nocells(u:Un fs ex (addC H cs) H' h h')(hok:HOk P w H' h')(hc:∀b o,cs.lookup b=some o->H b=none/\h.get? b=some o):Un fs ex H (rmC H' cs) h h':=by
 have inn:∀b o,cs.lookup b=some o->H' b=some (celO o)/\h'.get? b=some o:=fun b o z=>by
  have q:=u.frzs b o _ (q15 z);exact⟨q,(show h'.get? b=some o/\_ from hok b _ q).1⟩
 refine⟨fun b o q n hb hx=>?_,fun b o q n hb hx=>?_,fun b o q n hx=>?_,u.there,fun b xs q=>?_,fun b o v q=>?_,fun b ps q=>?_⟩
 ·cases z:cs.lookup b with
  |some o'=>
   have:=(hc b o' z).2;rw[q]at this;cases this;exact(inn b _ z).2
  |none=>exact u.keep b o q (by rw[q0q z];exact n) hb hx
 ·cases z:cs.lookup b with
  |some o'=>
   have:=(hc b o' z).2;rw[q]at this;cases this;exact⟨o.slots,(inn b _ z).2⟩
  |none=>exact u.slot b o q (by rw[q0q z];exact n) hb hx
 ·cases z:cs.lookup b with
  |some o'=>exact q65 z
  |none=>rw[q05 z];exact u.free b o q (by rw[q0q z];exact n) hx
 ·have z:cs.lookup b=none:=by
   cases z:cs.lookup b with
   |some o'=>rw[(hc b o' z).1]at q;cases q
   |none=>rfl
  rw[q05 z];exact u.tups b xs (by rw[q0q z];exact q)
 ·have z:cs.lookup b=none:=by
   cases z:cs.lookup b with
   |some o'=>rw[(hc b o' z).1]at q;cases q
   |none=>rfl
  rw[q05 z];exact u.frzs b o v (by rw[q0q z];exact q)
 ·have z:cs.lookup b=none:=by
   cases z:cs.lookup b with
   |some o'=>rw[(hc b o' z).1]at q;cases q
   |none=>rfl
  rw[q05 z];exact u.tbls b ps (by rw[q0q z];exact q)
end
noncomputable abbrev lamEnv(qual:Str)(scope:Scope)(f:Addr)(cd:Value)(cl:List (Str×Addr))(s:Shared):Env:=PySem.W.envX qual scope s.heap.objs.size f cd cl
def cxLam(P:Program)(w:World)(K:Fg)(mg:Str->Option Value)(base:Heap)(N:List Str)(qual:Str)(scope:Scope)(f:Addr)(cd:Value)(cl:List (Str×Addr))(A:Around)(outer:List Env)(s:Shared)(H:Hp):Cx where
 prog:=P
 w:=w
 K:=K
 mg:=mg
 base:=base
 A:=A.deeper (lamEnv qual scope f cd cl s)
 N:=N
 s₀:=s
 H₀:=H
 env:=lamEnv qual scope f cd cl s
 outer:=outer
 stack:=lamEnv qual scope f cd cl s::outer
 ex:=[]
 calm:=true
 fn:=fun _=>false
 pn:=[]
 xe:=fun _ _=>False
structure LamScope(ps Nf:List Str)(sc:Scope):Prop where
 kind:sc.kind=.function
 co:sc.isCoroutine=false
 gen:sc.isGenerator=false
 nd:ps.Nodup
 nocell:∀y∈sc.names,y.2≠.cell
 par:∀x∈ps,sc.names.lookup x=some .local
 fr:∀y∈Nf,sc.names.lookup y=some .free
structure LamCells(cl:List (Str×Addr))(Nf:List Str)(sc:Scope)(zs:List V)(h:Heap)(cs:Cs):Prop where
 inj:∀x y c,cl.lookup x=some c->cl.lookup y=some c->x=y
 has:∀x,(x,NameKind.free)∈sc.names->∃c,cl.lookup x=some c
 all:∀x c,cl.lookup x=some c->∃o,cs.lookup c=some o
 cel:∀c o,cs.lookup c=some o->h.get? c=some o/\∃v,o.data=.cell v
 val:∀(i:Nat) y z,Nf[i]?=some y->zs[i]?=some z->∃c o u,cl.lookup y=some c/\cs.lookup c=some o/\o.data=.cell (some u)/\RelV z u
section
variable{mg:Str->Option Value}{base:Heap}{Nf:List Str}{qual:Str}{scope:Scope}{cd:Value}{cl:List (Str×Addr)}{outer:List Env}{us:List Value}{vs zs:List V}
theorem x97{v:Value}:∀{ps:List Str}{us:List Value}{i:Nat},ps.Nodup->ps[i]?=some x->us[i]?=some v->(ps.zip us).reverse.lookup x=some v:=by
 intro ps us i nd h1 h2;have hm:(x,v)∈(ps.zip us).reverse:=List.mem_reverse.mpr (w0m (i:=i) (by rw[w3p];exact⟨h1,h2⟩))
 have hn:((ps.zip us).reverse.map (·.1)).Nodup:=by
  rw[List.map_reverse];show List.Pairwise (·≠·) _;rw[List.pairwise_reverse];refine List.Pairwise.imp (fun h=>Ne.symm h) (show((ps.zip us).map (·.1)).Nodup from ?_)
  exact nd.sublist (by
   clear hm h1 h2
   induction ps generalizing us with
   |nil=>simp
   |cons p ps ih=>cases us with
    |nil=>simp
    |cons u us=>simpa using ih (us:=us) (w1r.mp nd).2)
 generalize (ps.zip us).reverse=l at hm hn
 induction l with
 |nil=>cases hm
 |cons p l ih=>
  obtain⟨y,z⟩:=p;rw[w1a];rcases w0h.mp hm with e|hm2
  ·cases e;simp
  ·have hne:(x==y)=false:=by
    rw[beq_eq_false_iff_ne];rintro rfl;exact(w1r.mp hn).1 (w0k.mpr ⟨(x,v),hm2,rfl⟩)
   rw[hne];exact ih hm2 (w1r.mp hn).2
theorem y4s{h₁:Heap}{tk:Nat}(S:LamScope ps Nf scope)(C:LamCells cl Nf scope zs s.heap cs)(hd:A.handled=none)(e0:Env0 P w K mg base A outer s H)(hn:∀c o,cs.lookup c=some o->H c=none)
  (hl:vs.length=ps.length)(hz:zs.length=Nf.length)(r:Vals vs us)
  (ns:h₁.Ns s.heap.objs.size (fun x=>(ps.zip us).reverse.lookup x))(hs:Heap.SameBut s.heap.objs.size (s.heap.push {cls:=.type "frame", data:=.dict #[]}) h₁):
  Inv (cxLam P w K mg base (ps++Nf) qual scope f cd cl A outer s H) [] (vs.map some++zs.map some) H {s with heap:=h₁,toks:=tk}:=by
 have hk:∀b o,s.heap.get? b=some o->h₁.get? b=some o:=fun b o e=>hs.extBut b o (w0x (Heap.lt_size e)) (Heap.get?_push_of_some _ e)
 have noA:∀b:Addr,b∉([]:List Addr):=fun b z=>nomatch z
 have nofree:∀x c,cl.lookup x=some c->H c=none/\∃o,s.heap.get? c=some o/\∃v,o.data=.cell v:=fun x c e=>by
  obtain⟨o,q⟩:=C.all x c e;exact⟨hn c o q,o,C.cel c o q⟩
 refine⟨⟨e0.mod,S.kind,rfl,rfl,w0j _,C.inj,fun y hy=>?_,(fun x c z=>nomatch z),fun _=>hd,Around.frames_deeper e0.frames,.inr ⟨rfl,rfl⟩,fun b z=>absurd z (noA b),e0.bs,e0.bsz,fun b _ _=>noA b,fun b z=>absurd z (noA b),e0.funs,e0.frf,e0.tab⟩,
  rfl,e0.bare,Un.kept hk,⟨_,ns,fun i y v h1 h2 h3=>?_⟩,fun y c h=>?_,e0.hok.fresh (w0j _),fun y c h=>(nofree y c h).1,fun p hp=>absurd (show p∈([]:List (Addr×Obj))from hp) (by simp),e0.hok.kept hk,?_⟩
 ·have hy:scope.names.lookup y=some .cell\/scope.names.lookup y=some .free:=hy;rcases hy with hy|hy
  ·exact absurd rfl (S.nocell _ (PySem.mem_of_lookup hy))
  ·exact C.has y (PySem.mem_of_lookup hy)
 ·have h1:(ps++Nf)[i]?=some y:=h1
  by_cases hi:i<ps.length
  ·rw[w1c (by simpa [hl]using hi),w0i]at h2;rw[w1c hi]at h1
   have ha:vs[i]?=some v:=by
    cases e:vs[i]? with
    |none=>rw[e]at h2;cases h2
    |some a=>rw[e]at h2;cases h2;rfl
   obtain⟨u,hu,rv⟩:=r.get ha;exact⟨u,rv,.inl ⟨S.par y (w0m h1),x97 S.nd h1 hu⟩⟩
  ·have hi':ps.length<=i:=w4b.mp hi;rw[w1e (by simpa [hl]using hi'),w0i,w0a,hl]at h2;rw[w1e hi']at h1
   have ha:zs[i-ps.length]?=some v:=by
    cases e:zs[i-ps.length]? with
    |none=>rw[e]at h2;cases h2
    |some a=>rw[e]at h2;cases h2;rfl
   obtain⟨c,o,u,e1,e2,e3,e4⟩:=C.val _ _ _ h1 ha;exact⟨u,e4,.inr ⟨.inr (S.fr y (w0m h1)),c,e1,o,hk _ _ (C.cel c o e2).1,e3⟩⟩
 ·obtain⟨_,o,q,v,d⟩:=nofree y c h;exact⟨v,o,hk _ _ q,d⟩
 ·show _=(ps++Nf).length;simp[hl,hz]
theorem y4t{CX:CXT}{k:Nat}{name:Str}{params:Arguments}{body:Expr}{pm ctv:Value}{c':Addr}{t:TE}{Q:VK}{E:XK}
  (hr:Room (k+1) A)(e0:Env0 P w K mg base A outer s H)(hf:H f=some (fnO (kla_obj name qual params body scope cl pm c' ctv) qual c'))
  (S:LamScope ps Nf scope)(CI:CelsIn H cs)(C:LamCells cl Nf scope zs s.heap cs)(hbind:bindArgs (PySem.W.kla_fn name qual params body scope cl pm (.ref c') ctv) ⟨us,[]⟩=pure (ps.zip us))
  (hl:vs.length=ps.length)(hz:zs.length=Nf.length)(r:Vals vs us)
  (hb:PE (cxLam P w K mg base (ps++Nf) qual scope f (.ref c') cl A outer s (rmC H cs)) body t)(hq:t (vs.map some++zs.map some) (rmC H cs) fun v H'=>(∀b o,cs.lookup b=some o->H' b=none)->Q v (addC H' cs)):
  codeAny (model P w) A (.call (.ref f) ⟨us,[]⟩) (CR CX outer P w H s Q E) s:=by
 have lim:s.heap.NoLimit:=e0.mod.nolimit.keeps fun b o e=>(e0.bs b o e).1
 obtain⟨hfo,hcd⟩:=y4r e0.hok hf
 have e1:Env0 P w K mg base A outer s (rmC H cs):=⟨e0.frames,e0.mod,fun b o q=>⟨(e0.bs b o q).1,q5n (e0.bs b o q).2⟩,e0.bsz,e0.funs,fun b hb=>q5n (e0.frf b hb),e0.hok.rm CI,e0.bare,fun a q P m=>by
  obtain⟨ps,e,p⟩:=e0.tab a q P m;exact⟨ps,CI.rm_some e (fun o z=>nomatch z),p⟩⟩
 refine PySem.W.kla_callFunE hr.depth hfo rfl S.co S.gen rfl hcd ?_;rw[hbind];refine wpAny_pure (wpAny_newFunctionEnv S.nocell (fun y hy=>S.par y.1 (w2k hy).1) (fun h₁ hns hsb=>⟨lim.fresh _ hsb,?_⟩) S.kind)
 show codeAny _ _ (.expr body (lamEnv qual scope f (.ref c') cl s)) _ _;have I:=y4s (tk:=s.toks+(ps.zip us).length) (qual:=qual) (f:=f) (cd:=.ref c') S C hr.hd e1 (fun c o q=>q65 q) hl hz r hns hsb
 refine PySem.W.kla_codeExpr (wpAny_mono (hb [] _ _ _ _ I hq) (fun u s' hs'=>?_) fun e s' z=>False.elim z)
 obtain⟨v,H',J,rv,q⟩:=hs';have un:Un (frs outer) [] (rmC H cs) H' s.heap s'.heap:=J.base;refine⟨v,addC H' cs,J.os,J.bare,un.cells CI,J.hok.add fun b o z=>?_,rv,q fun b o z=>un.free b o (C.cel b o z).1 (q65 z) (by simp)⟩
 have nf:b∉frs outer:=fun hb=>by
  have:=e0.frf b hb;rw[CI b o z]at this;cases this
 have g:=(C.cel b o z).1;exact⟨un.free b o g (q65 z) (by simp),un.keep b o g (q65 z) nf (by simp)⟩
end
def FnV(P:Program)(w:World)(K:Fg)(mg:Str->Option Value)(base:Heap)(CX:CXT)(k:Nat)(sp:V->List V->Hp->VK->XK->Prop):Prop:=∀(x:V)(vs:List V)(H:Hp)(Q:VK)(E:XK),sp x vs H Q E ->
 ∃f oc od fd sl u,x=.ref f/\H f=some (.frz ⟨oc,od,.func fd,sl⟩ u)/\∀(A:Around)(outer:List Env)(s:Shared)(us:List Value),Room k A->Env0 P w K mg base A outer s H->Vals vs us ->
  codeAny (model P w) A (.call (.ref f) ⟨us,[]⟩) (CR CX outer P w H s Q E) s
def IsFn(H:Hp)(x:V):Prop:=∃f oc od fd sl u,x=.ref f/\H f=some (.frz ⟨oc,od,.func fd,sl⟩ u)
def tCallV(sp:V->List V->Hp->VK->XK->Prop)(EE:L2.St->XK)(tv:TE)(t:TA):TE:=fun σ H Q=>tv σ H fun x H1=>IsFn H1 x/\t σ H1 fun vs H2=>sp x vs H2 Q (EE σ)
section
variable{CX:CXT}{k:Nat}{sp:V->List V->Hp->VK->XK->Prop}{tv:TE}{t:TA}
theorem x98(F:FnV X.prog X.w X.K X.mg X.base CX k sp)(hr:Room k X.A)(hv:PE X (.Name x p) tv)(hx:PassX CX X EE)(ha:PA X (e::es) t)
  (he:starEach (e::es) X.env=(false,eval e X.env)::starEach es X.env:=by rfl)(hpl:(backTo pos (starEach es X.env)).any (·.1)=false:=by rfl):
  PE X (.Call (.Name x p) (e::es) [] pos) (tCallV sp EE tv t):=by
 intro pins s σ H Q I h;refine wpAny_Call_Name_kw (thn (hv pins s σ H _ I h) fun u s1 ⟨y,H1,I1,ry,⟨f,oc,od,fd,sl,uu,ey,ef⟩,q⟩=>?_)
 subst ey;obtain rfl:u=Value.ref f:=ry;refine PySem.W.callWith_F ⟨oc,od,fd,sl,(show s1.heap.get? f=some _/\_ from I1.hok f _ ef).1⟩ (thn (ha pos pins s1 σ H1 _ I1 q) fun us s2 ⟨vs,H2,I2,r,q2⟩=>?_) he hpl
 obtain⟨f',oc',od',fd',sl',u',ex',ef',run⟩:=F _ _ _ _ _ q2;cases ex';refine⟨⟨oc',od',fd',sl',(show s2.heap.get? f=some _/\_ from I2.hok f _ ef').1⟩,wpAny_call (codeAny_mono (run X.A X.stack s2 us hr I2.env0 r) fun r s' hq=>?_)⟩
 cases r with
 |error e=>exact hx pins σ H2 s2 e s' I2 hq
 |ok fl=>
  cases fl with
  |ret u=>exact I2.after hq
  |next=>exact False.elim hq
  |brk=>exact False.elim hq
  |cont=>exact False.elim hq
end
theorem x5r{pos':Pos}{a b:Int}{c cv:Value}(l:List Value)(h:TriplesOk l)(z:codeAmong pos' (l++[rawInt a,rawInt b,c])=some cv):codeAmong pos' l=some cv\/cv=c:=by
 fun_induction TriplesOk l with
 |case1=>
  simp only[w3k,codeAmong,rawInt]at z;split at z
  ·cases z;exact .inr rfl
  ·cases z
 |case2 x t y u v rest ih=>
  simp only[List.cons_append,codeAmong]at z |-
  split at z
  ·rename_i hc;rw[if_pos hc];exact .inl z
  ·rename_i hc;rw[if_neg hc];exact ih h z
 |case3=>exact h.elim
def BMain(h:Heap)(mg:Str->Option Value):Prop:=∃bm ob,mg "__builtins__"=some (.ref bm)/\bm≠builtinsNs/\h.get? bm=some ob/\ob.cls=.type "module" /\ ob.dict=some builtinsNs/\ob.data=.plain
def LamAt(X:Cx)(params:Arguments)(body:Expr)(scope:Scope)(clos:List (Str×Addr))(f:Addr)(H H':Hp):Prop:=closureFor scope X.env=pure clos/\∃(H1:Hp)(pm ctv:Value)(c':Addr),(H1=H\/∃c oc,H c=none/\H1=upd H c (rawO oc))/\H1 f=none /\
 H'=upd H1 f (fnO (kla_obj "<lambda>" (X.env.qual++"<lambda>") params body scope clos pm c' ctv) (X.env.qual++"<lambda>") c')
def tLam(X:Cx)(params:Arguments)(body:Expr)(scope:Scope):TE:=fun _ H Q=>∀f clos H',LamAt X params body scope clos f H H'->Q (.ref f) H'
structure Maker(X:Cx):Prop where
 ex:∃c P a,X.env.code=.ref c/\codeHdIn X.K c P=true/\(a,markO P (X.env.qual++"<lambda>"))∈X.K
 bm:BMain X.base X.mg
section
variable{params:Arguments}{body:Expr}{scope:Scope}{lpos:Pos}
theorem y8v(M:Maker X)(hdef:defaultsOf params X.env=([],[]))(hfree:∀x∈scope.names,x.2=.free->X.env.kindOf x.1=some .cell\/X.env.kindOf x.1=some .free):
  PE X (.Lambda params body scope lpos) (tLam X params body scope):=by
 intro pins s σ H Q I h;obtain⟨clos,hclos,_,_⟩:=q5c (scope:=scope) (env:=X.env) fun x hx hf=>I.ok.has x.1 (hfree x hx hf)
 obtain⟨c,P,a,hcode,hch,hmk⟩:=M.ex;have hhd:=PySem.W.codeHd_of_K I.mod.kin hch;obtain⟨ps,hP,p0,p1⟩:=I.ok.tab a _ P hmk;obtain⟨more,eP⟩:=I.base.tbls P ps hP
 have q0:(ps++more)[0]?=some (.bool true):=by
  rw[w1s (by obtain⟨z,_⟩:=w2b.mp p0;exact z)];exact p0
 have q1:(ps++more)[1]?=some (.str (X.env.qual++"<lambda>") 0):=by
  rw[w1s (by obtain⟨z,_⟩:=w2b.mp p1;exact z)];exact p1
 have oP:ObjOk X.prog X.w H s.heap P (.tbl (ps++more)):=I.hok P _ eP;rcases oP with⟨q,qs,r0,r1,g1,tr,cd⟩|⟨_,_,_,_,_,_,r0,_⟩
 case inr=>rw[q0]at r0;cases r0
 rw[q1]at r1;cases r1;have nP:∀b,H b=none->b≠P:=fun b n z=>by rw[z,eP]at n;cases n
 have hgP:mainGlobals≠P:=by
  obtain⟨o,es,ep,e,_⟩:=I.mod.glob;exact nP _ (I.bs _ o e).2
 have hB:s.heap.BuiltinsAt X.mg P:=by
  obtain⟨bm,ob,b1,b2,b3,b4,b5,b6⟩:=M.bm;refine⟨bm,ob,b1,b2,fun z=>?_,nP _ (I.bs bm ob b3).2,(I.bs bm ob b3).1,b4,b5,b6⟩
  obtain⟨o,es,ep,e,d,_⟩:=I.mod.glob;rw[z,e]at b3;cases b3;rw[d]at b6;cases b6
 have hns:=I.mod.glob.keeps I.bk;refine PySem.W.kla_eval hdef ?_;cases hc:codeAmong lpos qs.toList with
 |some cv=>
  obtain⟨c',oc,vs,t,rfl,k1,k2,k3⟩:=cd lpos cv hc;refine PySem.W.kla_makeFunctionHit (mg:=X.mg) hclos I.ok.glob hns hcode (hhd.keeps I.bk) g1 tr hc hB fun ctv h' tk hk hsz=>?_
  have fr:H h'.objs.size=none:=I.hok.fresh hsz;refine⟨.ref h'.objs.size,_,I.laid (t':=tk) (fun b u e=>Heap.get?_push_of_some _ (hk b u e)) hsz ?_,rfl,h _ clos _ ⟨hclos,H,(X.mg "__name__").getD .none,ctv,c',.inl rfl,fr,rfl⟩⟩
  exact⟨Heap.get?_push_size _ rfl,.inr ⟨_,c',oc,_,vs,t,rfl,rfl,rfl,by rw[q0b (q0i k1 fr)];exact k1,k2,k3,Heap.get?_push_size _ rfl⟩⟩
 |none=>
  refine PySem.W.kla_makeFunction (mg:=X.mg) hclos I.ok.glob hns hcode (hhd.keeps I.bk) g1 tr hc hgP hB fun c' ctv h' tk hx hge hlt hrec htb=>?_
  obtain⟨c2,oc,vs,t,ec,hoc,hd,hv⟩:=hrec;cases ec;have fc:H c'=none:=I.hok.fresh hge;have hne:∀b u,H b=some u->b≠c':=fun b u z=>q0i z fc
  have kp:∀b o,H b=none->s.heap.get? b=some o->h'.get? b=some o:=fun b o n e=>hx b o (nP b n) e
  have hok1:HOk X.prog X.w (upd H c' (rawO oc)) h':=fun a u e=>by
   by_cases ha:a=c'
   ·subst ha;rw[q0f]at e;cases e;exact⟨hoc,oc,hoc⟩
   ·rw[q0b ha]at e
    by_cases haP:a=P
    ·subst haP;rw[eP]at e;cases e;refine .inl ⟨_,_,q0,q1,htb,?_,fun pos cv z=>?_⟩
     ·rw[w3l];exact TriplesOk_snoc _ _ _ _ tr
     ·rw[w3l]at z;rcases x5r _ tr z with z|z
      ·obtain⟨d,od,vd,td,k0,k1,k2,k3⟩:=cd pos cv z;exact⟨d,od,vd,td,k0,by rw[q0b (hne d _ k1)];exact k1,k2,k3⟩
      ·exact⟨c',oc,vs,t,z,q0f,hd,hv⟩
    ·refine(I.hok a u e).stay (fun b v hb q=>hx b v ?_ q) (fun b q=>by rw[q0b (hne b _ q)];exact q) fun b v _ q=>by rw[q0b (hne b _ q)];exact q
     rcases hb with rfl|hb
     ·exact haP
     ·rintro rfl;rw[eP]at hb;cases hb
  have un:Un X.fs [] H (upd H c' (rawO oc)) s.heap h':=by
   refine⟨fun b o q n _ _=>kp b o n q,fun b o q n _ _=>⟨o.slots,kp b o n q⟩,fun b o q n _=>?_,fun b o q _=>?_,fun b xs q=>by rw[q0b (hne b _ q)];exact q,fun b o u q=>by rw[q0b (hne b _ q)];exact q,fun b qs q=>⟨#[],by rw[q0b (hne b _ q),q];simp⟩⟩
   ·rw[q0b (w0x (w0w (Heap.lt_size q) hge))];exact n
   ·by_cases hb:b=P
    ·subst hb;exact⟨_,htb⟩
    ·exact⟨o,hx b o hb q⟩
  have I1:Inv X pins σ (upd H c' (rawO oc)) {s with heap:=h',toks:=tk}:=I.un un hok1;have f1:upd H c' (rawO oc) h'.objs.size=none:=I1.hok.fresh (w0j _);refine⟨.ref h'.objs.size,_,I1.laid (t':=tk) (fun b u e=>Heap.get?_push_of_some _ e) (w0j _) ?_,rfl,h _ clos _ ⟨hclos,_,(X.mg "__name__").getD .none,ctv,c',.inr ⟨c',oc,fc,rfl⟩,f1,rfl⟩⟩
  exact⟨Heap.get?_push_size _ rfl,.inr ⟨_,c',oc,_,vs,t,rfl,rfl,rfl,by rw[q0b (q0i q0f f1)];exact q0f,hd,hv,Heap.get?_push_size _ rfl⟩⟩
end
theorem q77{α:Type}{k:Addr}{v:α}:∀{l:List (Addr×α)},(k,v)∈l->∃v',l.lookup k=some v'
 |[],h=>nomatch h
 |(a,b)::l,h=>by
  rw[w1a]
  by_cases e:(k==a)=true
  ·rw[e];exact⟨b,rfl⟩
  ·rw[w1t.mpr e];rcases w0h.mp h with z|z
   ·cases z;simp at e
   ·exact q77 z
def celsAt(clos:List (Str×Addr))(h:Heap):Cs:=(clos.map (·.1)).filterMap fun x=>(clos.lookup x).bind fun c=>(h.get? c).map fun o=>(c,o)
theorem q78{clos:List (Str×Addr)}{o:Obj}(e:(celsAt clos h).lookup c=some o):∃x,clos.lookup x=some c/\h.get? c=some o:=by
 obtain⟨x,_,hx⟩:=w2u.mp (PySem.W.mem_of_lookupK e);obtain⟨c',e1,e2⟩:=w1l.mp hx;obtain⟨o',e3,e4⟩:=w0d.mp e2;cases e4;exact⟨x,e1,e3⟩
theorem q81{clos:List (Str×Addr)}{o:Obj}(e:clos.lookup x=some c)(g:h.get? c=some o):(celsAt clos h).lookup c=some o:=by
 have hm:(c,o)∈celsAt clos h:=w2u.mpr ⟨x,w0k.mpr ⟨(x,c),PySem.mem_of_lookup e,rfl⟩,by rw[e];show(h.get? c).map _=_;rw[g];rfl⟩;obtain⟨o',e'⟩:=q77 hm;obtain⟨_,_,g'⟩:=q78 e';rw[g]at g';cases g';exact e'
structure CellsOf(clos:List (Str×Addr))(Nf:List Str)(scope:Scope)(js:List Nat)(σ:St)(H:Hp)(cs:Cs):Prop where
 inj:∀x y c,clos.lookup x=some c->clos.lookup y=some c->x=y
 has:∀x,(x,NameKind.free)∈scope.names->∃c,clos.lookup x=some c
 all:∀x c,clos.lookup x=some c->∃o,cs.lookup c=some o
 cel:∀c o,cs.lookup c=some o->H c=none/\∃v,o.data=.cell v
 val:∀(i:Nat) y j z,Nf[i]?=some y->js[i]?=some j->σ[j]?=some (some z)->∃c o u,clos.lookup y=some c/\cs.lookup c=some o/\o.data=.cell (some u)/\RelV z u
theorem x3y{outer:List Env}{s':Shared}{E:XK}{e:Value}(hc:∀b o,cs.lookup b=some o->H b=none/\s.heap.get? b=some o)
  (x:CX1 P w outer (addC H cs) s (fun c o H'=>E c o (rmC H' cs)) e s'):CX1 P w outer H s E e s':=by
 obtain⟨e,cls,H',B,rfl,hos,hg,un,hok,fly,hE⟩:=x;have CI:CelsIn H' cs:=fun b o z=>un.frzs b o _ (q15 z)
 refine⟨e,cls,rmC H' cs,B,rfl,hos,hg,un.nocells hok hc,hok.rm CI,⟨fly.fl,fun b o q n nb=>?_,fun b u o q z=>fly.trk b u o (x5q q).1 z,fly.all,fly.new⟩,hE⟩
 cases z:cs.lookup b with
 |some o'=>
  have:=(hc b o' z).2;rw[q]at this;cases this;exact fly.trk b _ o (CI b o z) ((show s'.heap.get? b=some o/\_ from hok b _ (CI b o z)).1)
 |none=>exact fly.old b o q (by rw[q0q z];exact n) nb
theorem pure_inj{α:Type}{a b:α}(h:(pure a:Sem α)=pure b):a=b:=by
 first
  |exact PySem.Sem.pure_inj h
  |(injection h)
  |(cases h;rfl)
section
variable{k:Nat}{fd:FuncData}{sp:Sp}
theorem y4u{pins:List (Addr×Obj)}{σ:St}{Q:VK}{us:List Value}{vs:List V}{cs:Cs}(F:FnOk X.prog X.w X.K X.mg X.base (CX1 X.prog X.w) k f fd ps sp)(hr:Room k X.A)(hb:Binds X.K fd ps [])(hx:PassX (CX1 X.prog X.w) X EE)
  (I:Inv X pins σ H s)(hc:∀b o,cs.lookup b=some o->H b=none/\s.heap.get? b=some o)(hv:∀b o,cs.lookup b=some o->b∉frs X.stack)(hn:∀b o,cs.lookup b=some o->X.base.get? b=none)(r:Vals vs us)
  (h:sp vs (addC H cs) (fun v H'=>Q v (rmC H' cs)) fun c o H'=>EE σ c o (rmC H' cs)):wpAny (model X.prog X.w) X.A (call (.ref f) us) (EP X pins σ Q) X.xe s:=by
 have hl:us.length=ps.length:=by rw[<- r.length];exact F.len _ _ _ _ h
 have e0:=I.env0
 have out:∀b,H b=none->(∀o,cs.lookup b≠some o)->addC H cs b=none:=fun b n z=>by
  cases q:cs.lookup b with
  |some o=>exact absurd q (z o)
  |none=>rw[q0q q];exact n
 have e1:Env0 X.prog X.w X.K X.mg X.base X.A X.stack s (addC H cs):=by
  refine⟨e0.frames,e0.mod,fun b o q=>⟨(e0.bs b o q).1,out b (e0.bs b o q).2 fun o' z=>?_⟩,e0.bsz,e0.funs,fun b hb=>out b (e0.frf b hb) fun o z=>?_,e0.hok.add hc,e0.bare,fun a q P m=>?_⟩
  ·rw[hn b o' z]at q;cases q
  ·exact hv b o z hb
  ·obtain⟨ps,e,p⟩:=e0.tab a q P m;refine⟨ps,?_,p⟩;cases z:cs.lookup P with
   |some o=>rw[(hc P o z).1]at e;cases e
   |none=>rw[q0q z];exact e
 have hbb:=hb s us I.kIn (by rw[w1j];exact hl);rw[w1j]at hbb;refine wpAny_call (codeAny_mono (F.run X.A X.stack s (addC H cs) ⟨us,[]⟩ us vs _ _ hr e1 hbb r h) fun r s' hq=>?_)
 cases r with
 |error e=>exact hx pins σ H s e s' I (x3y hc hq)
 |ok fl=>
  cases fl with
  |ret u=>
   obtain⟨v,H',os,bare,un,hok,rv,q⟩:=hq;have CI:CelsIn H' cs:=fun b o z=>un.frzs b o _ (q15 z)
   exact I.after ⟨v,rmC H' cs,os,bare,un.nocells hok hc,hok.rm CI,rv,q⟩
  |next=>exact False.elim hq
  |brk=>exact False.elim hq
  |cont=>exact False.elim hq
def LamQ(sp:Sp)(X:Cx)(scope:Scope)(Nf:List Str)(js:List Nat)(E:XK)(σ:St)(Q:VK)(vs:List V)(H2:Hp):Prop:=∃clos,closureFor scope X.env=pure clos/\∀cs,CellsOf clos Nf scope js σ H2 cs ->
 sp vs (addC H2 cs) (fun v H'=>Q v (rmC H' cs)) fun c o H'=>E c o (rmC H' cs)
def tLamCall(sp:Sp)(X:Cx)(params:Arguments)(body:Expr)(scope:Scope)(Nf:List Str)(js:List Nat)(EE:L2.St->XK)(te:TE):TE:=fun σ H Q=>te σ H fun v1 H1=>∀f clos H2,LamAt X params body scope clos f H1 H2->LamQ sp X scope Nf js (EE σ) σ Q [v1,.ref f] H2
theorem x5s{params:Arguments}{body:Expr}{scope:Scope}{lpos:Pos}{Nf:List Str}{js:List Nat}{te:TE}(F:FnOk X.prog X.w X.K X.mg X.base (CX1 X.prog X.w) k f fd ps sp)(hr:Room k X.A)(hg:Gl X x)(hm:X.mg x=some (.ref f))(hk:keepIn X.K (.ref f)=true)
  (hb:Binds X.K fd ps [])(hx:PassX (CX1 X.prog X.w) X EE)(M:Maker X)(hfn:∀y,X.fn y=true)(he:PE X e te)(hdef:defaultsOf params X.env=([],[]))
  (hfree:∀x∈scope.names,x.2=.free->X.env.kindOf x.1=some .cell\/X.env.kindOf x.1=some .free)
  (hNf:∀(i j:Nat) y,Nf[i]?=some y->js[i]?=some j->X.N[j]?=some y/\(y,NameKind.free)∈scope.names/\Vis X.env.scope y/\X.env.kindOf y≠some .local)
  (hdb:(x==("__debug__":Str))=false:=by decide)(hst:starEach [e,.Lambda params body scope lpos] X.env=(false,eval e X.env)::starEach [.Lambda params body scope lpos] X.env:=by rfl)
  (hst2:starEach [.Lambda params body scope lpos] X.env=(false,eval (.Lambda params body scope lpos) X.env)::starEach [] X.env:=by rfl)(hpl:(backTo pos (starEach [.Lambda params body scope lpos] X.env)).any (·.1)=false:=by rfl):
  PE X (.Call (.Name x p) [e,.Lambda params body scope lpos] [] pos) (tLamCall sp X params body scope Nf js EE te):=by
 intro pins s σ H Q I h;have ha:PA X [e,.Lambda params body scope lpos] (tCons te (tCons (tLam X params body scope) tNil)):=q2u he (q2u (y8v M hdef hfree) q5k hst2) hst;refine wpAny_Call_Name_kw (x4g I hg hm ?_ hdb);refine PySem.W.callWith_K (h₀:=X.base) I.ok.mod.kin hk (thn (ha pos pins s σ H (LamQ sp X scope Nf js (EE σ) σ Q) I h) fun us s1 ⟨vs,H2,I2,r,clos,hclos,q⟩=>⟨I2.kIn,?_⟩) hst hpl
 obtain⟨clos',hclos',hcl,hcf⟩:=q5c (scope:=scope) (env:=X.env) fun x hx hf=>I.ok.has x.1 (hfree x hx hf)
 obtain rfl:clos'=clos:=pure_inj (hclos'.symm.trans hclos)
 have look:∀b o,(celsAt clos' s1.heap).lookup b=some o->∃x,X.env.cells.lookup x=some b/\s1.heap.get? b=some o:=fun b o z=>by
  obtain⟨x,h1,h2⟩:=q78 z;exact⟨x,hcl x b h1,h2⟩
 have hnone:∀b o,(celsAt clos' s1.heap).lookup b=some o->H2 b=none/\s1.heap.get? b=some o:=fun b o z=>by
  obtain⟨x,h1,h2⟩:=look b o z;exact⟨I2.freeC x b h1,h2⟩
 have hab:∀b o,(celsAt clos' s1.heap).lookup b=some o->X.s₀.heap.objs.size<=b:=fun b o z=>by
  obtain⟨x,h1,h2⟩:=look b o z;exact I2.ok.cab x b (hfn x) h1
 refine y4u (cs:=celsAt clos' s1.heap) F hr hb hx I2 hnone (fun b o z hb=>?_) (fun b o z=>Heap.get?_none_of_le (w1d I2.ok.bsz (hab b o z))) r (q _ ⟨fun x y c e1 e2=>I2.ok.inj x y c (hcl x c e1) (hcl y c e2),hcf,fun x c e=>?_,fun c o e=>⟨(hnone c o e).1,?_⟩,fun i y j z e1 e2 e3=>?_⟩)
 ·rcases w0h.mp (I2.stkSub b hb)with e|hb2
  ·obtain⟨x,h1,_⟩:=look b o z;exact I2.cne x b h1 e
  ·obtain⟨_,o',q',_⟩:=I2.ok.funs.mem hb2
   exact absurd (Heap.lt_size q') (w4b.mpr (hab b o z))
 ·obtain⟨v,o,g,_⟩:=I2.cell x c (hcl x c e);exact⟨o,q81 e g⟩
 ·obtain⟨x,h1,h2⟩:=look c o e;obtain⟨v,o',g,d⟩:=I2.cell x c h1;rw[h2]at g;cases g;exact⟨v,d⟩
 ·obtain⟨n1,n2,n3,n4⟩:=hNf i j y e1 e2;obtain⟨m,hm,hl⟩:=I2.loc;obtain⟨u,ru,l⟩:=hl j y z n1 e3 n3;rcases l with⟨k1,_⟩|⟨k1,c,ec,o,g,d⟩
  ·exact absurd k1 n4
  ·obtain⟨c',ec'⟩:=hcf y n2;have e4:=hcl y c' ec';rw[ec]at e4;cases e4;exact⟨c,o,u,ec',q81 ec' g,d,ru⟩
end
set_option maxHeartbeats 1000000
def Sh.isN:Sh->Bool
 |.many .int=>true
 |_=>false
def Sh.isI:Sh->Bool
 |.int=>true
 |_=>false
end L2
namespace D
open PySem L2
variable{a:Addr}{X:Cx}{G G' G1 H H' H1:Hp}{EE:L2.St->XK}{kvs:List (Kx×V)}{kas:List Addr}{es:List Expr}{ks:List Kx}{vs xs:List V}{r:List V->Hp->VK->Prop}{i:Nat}{b:Option Nat}{p pos pos':Pos}{K:Fg}{sh:Sh}{σ:St}{st:Stmt}{x:Str}{α:Type}{v:V}
noncomputable abbrev Sv:=Int ⊕ Bool
inductive Dd where
 |k (kvs:List (Key×Sv))
structure Lm where
 qual:Str
 params:Arguments
 body:Expr
 scope:Scope
 nf:List Str
set_option genInjectivity true in
inductive W where
 |non|bl (b:Bool)|int (i:Int)|str (x:Str)|tup (xs:List W)|lst (xs:List W)|exc (c:Value)|dic (kvs:Dd)|dw (fz:Bool) (sh:Sh) (ks:List Kx) (ws:List W)|fn (i:Nat) (l:Lm) (ws:List W)
variable{ws:List W}{w:W}{f:W->W->Option W}
inductive SK where
 |old (w:W)|new (w:W)|acc (ws:List W)|thro (us ws vs:List W)|tn (us:List W) (wss:List (List W))|pt (us ws:List W) (w:W)|fz (w:W)|fzo (w:W)
inductive S where
 |no|fr (w:W)|own (io:Option Nat) (ws:List W)|dic (kvs:Dd)|thr (us ws vs:List W)|nest (wss:List (List W))|dw (sh:Sh) (ks:List Kx) (ws:List W)|x (k:SK)
variable{e e1:List S}{E:Value->List S->Prop}
def SK.plain:SK->Option W
 |.old w=>some w
 |.new w=>some w
 |_=>none
def SK.look:SK->Option W
 |.old w=>some w
 |.new w=>some w
 |.acc ws=>some (.lst ws)
 |_=>none
def sV:Sv->V
 |.inl i=>.int i
 |.inr b=>.bl b
def kvV{κ:Type}(kvs:List (κ×Sv)):List (κ×V):=kvs.map fun p=>(p.1,sV p.2)
def dO:Dd->HO
 |.k kvs=>.dK (kvV kvs)
def isDic:HO->Bool
 |.dK _=>true
 |_=>false
theorem q2l{d:Dd}{u:HO}(h:isDic u=false):dO d≠u:=fun z=>by
 subst z;cases d<;>cases h
def KeysG(G:Hp):List Kx->List Addr->Prop
 |[],[]=>True
 |k::ks,b::bs=>KRep G k (.ref b)/\KeysG G ks bs
 |[],_::_=>False
 |_::_,[]=>False
theorem KeysG.mono(e:Same G G'):∀{ks:List Kx}{bs:List Addr},KeysG G ks bs->KeysG G' ks bs
 |[],[],_=>trivial
 |k::ks,b::bs,h=>⟨KRep.keeps (fun _ _ _ z=>e _ _ z) k h.1,KeysG.mono e h.2⟩
 |[],_::_,h=>h.elim
 |_::_,[],h=>h.elim
def kxK:Kx->Key
 |.int i=>.inl i
 |_=>.inl 0
def dwO(sh:Sh)(kvs:List (Kx×V))(kas:List Addr):HO:=if sh.isI=true then .dK (kvs.map fun p=>(kxK p.1,p.2))else .dT sh kvs kas
def isDT:HO->Bool
 |.dK _=>true
 |.dT _ _ _=>true
 |_=>false
theorem q18{u:HO}(h:isDT u=false):dwO sh kvs kas≠u:=fun z=>by
 subst z;unfold dwO at h;split at h<;>cases h
theorem q7q(h:sh.isI=false):dwO sh kvs kas=.dT sh kvs kas:=if_neg (by rw[h];exact w0r)
def KeysS(sh:Sh)(G:Hp)(ks:List Kx)(kas:List Addr):Prop:=if sh.isI=true then ∀k∈ks,∃i,k=.int i else KeysG G ks kas
theorem KeysS.mono(e:Same G G'){bs:List Addr}(h:KeysS sh G ks bs):KeysS sh G' ks bs:=by
 unfold KeysS at h |-
 split at h
 ·rename_i hi;rw[if_pos hi];exact h
 ·rename_i hi;rw[if_neg hi];exact h.mono e
theorem KeysS.g{bs:List Addr}(h:KeysS sh G ks bs)(hi:sh.isI=false):KeysG G ks bs:=by
 unfold KeysS at h
 rwa [if_neg (by rw[hi];exact w0r)]at h
theorem KeysS.of{bs:List Addr}(h:KeysG G ks bs)(hi:sh.isI=false):KeysS sh G ks bs:=by
 unfold KeysS
 rwa [if_neg (by rw[hi];exact w0r)]
def DAt(fz:Bool)(G:Hp)(a:Addr)(sh:Sh)(kvs:List (Kx×V))(kas:List Addr):Prop:=if fz=true then ∃o,G a=some (.frz o (dwO sh kvs kas))else G a=some (dwO sh kvs kas)
theorem DAt.ex{fz:Bool}(h:DAt fz G a sh kvs kas):∃o,G a=some o:=by
 unfold DAt at h;split at h
 ·obtain⟨o,h⟩:=h;exact⟨_,h⟩
 ·exact⟨_,h⟩
theorem DAt.mono{fz:Bool}(e:Same G G')(h:DAt fz G a sh kvs kas):DAt fz G' a sh kvs kas:=by
 cases fz with
 |true=>obtain⟨o,h⟩:=h;exact⟨o,e _ _ h⟩
 |false=>exact e _ _ h
structure FnCells(G:Hp)(cl:List (Str×Addr))(l:Lm)(zs:List V)(cs:Cs):Prop where
 inj:∀x y c,cl.lookup x=some c->cl.lookup y=some c->x=y
 has:∀x,(x,NameKind.free)∈l.scope.names->∃c,cl.lookup x=some c
 all:∀x c,cl.lookup x=some c->∃o,cs.lookup c=some o
 cel:∀c o,cs.lookup c=some o->G c=some (celO o)/\∃v,o.data=.cell v
 val:∀(i:Nat) y z,l.nf[i]?=some y->zs[i]?=some z->∃c o u,cl.lookup y=some c/\cs.lookup c=some o/\o.data=.cell (some u)/\RelV z u
 len:zs.length=l.nf.length
theorem FnCells.mono{cl:List (Str×Addr)}{l:Lm}{zs:List V}{cs:Cs}(e:Same G G')(h:FnCells G cl l zs cs):FnCells G' cl l zs cs:=⟨h.inj,h.has,h.all,fun c o q=>⟨e _ _ (h.cel c o q).1,(h.cel c o q).2⟩,h.val,h.len⟩
def FnAtG(G:Hp)(l:Lm)(cl:List (Str×Addr))(f:Addr):Prop:=∃pm c' ctv,G f=some (fnO (kla_obj "<lambda>" l.qual l.params l.body l.scope cl pm c' ctv) l.qual c')
inductive RefTo(v:V)(P Q:Addr->List V->Prop):Prop where
 |mk (a:Addr) (xs:List V) (h:v=.ref a) (p:P a xs) (q:Q a xs):RefTo v P Q
inductive ConsOf(xs:List V)(P:V->Prop)(Q:List V->Prop):Prop where
 |mk (x:V) (r:List V) (h:xs=x::r) (p:P x) (q:Q r):ConsOf xs P Q
mutual
def Rep(K:Fg)(G:Hp):W->V->Prop
 |.non,v=>v=.non
 |.bl b,v=>v=.bl b
 |.int i,v=>v=.int i
 |.str x,v=>v=.str x
 |.tup ws,v=>RefTo v (SqT K G) fun _ xs=>Reps K G ws xs
 |.lst ws,v=>RefTo v (SqL K G) fun _ xs=>Reps K G ws xs
 |.exc c,v=>∃e,v=.ref e/\G e=some (excO e c)
 |.dic kvs,v=>∃e,v=.ref e/\G e=some (dO kvs)
 |.dw fz sh ks ws,v=>∃a kvs kas,v=.ref a/\DAt fz G a sh kvs kas/\kvs.map (·.1)=ks/\KeysS sh G ks kas/\Reps K G ws (kvs.map (·.2))
 |.fn _ l ws,v=>∃f cl zs cs,v=.ref f/\FnAtG G l cl f/\FnCells G cl l zs cs/\Reps K G ws zs
def Reps(K:Fg)(G:Hp):List W->List V->Prop
 |[],xs=>xs=[]
 |w::ws,xs=>ConsOf xs (Rep K G w) (Reps K G ws)
end
mutual
theorem Rep.mono{K:Fg}{G G':Hp}(e:Same G G'):∀(w:W){v:V},Rep K G w v->Rep K G' w v
 |.non,v,h=>h
 |.bl b,v,h=>h
 |.int i,v,h=>h
 |.str x,v,h=>h
 |.tup ws,v,h=>by
  obtain⟨a,xs,rfl,q,r⟩:=h;exact⟨a,xs,rfl,e.tup q,Reps.mono e ws r⟩
 |.lst ws,v,h=>by
  obtain⟨a,xs,rfl,q,r⟩:=h;exact⟨a,xs,rfl,e.seq q,Reps.mono e ws r⟩
 |.exc c,v,h=>by
  obtain⟨a,rfl,q⟩:=h;exact⟨a,rfl,e _ _ q⟩
 |.dic kvs,v,h=>by
  obtain⟨a,rfl,q⟩:=h;exact⟨a,rfl,e _ _ q⟩
 |.dw fz sh ks ws,v,h=>by
  obtain⟨a,kvs,kas,rfl,h1,h2,h3,h4⟩:=h;exact⟨a,kvs,kas,rfl,h1.mono e,h2,h3.mono e,Reps.mono e ws h4⟩
 |.fn i l ws,v,h=>by
  obtain⟨f,cl,zs,cs,rfl,⟨pm,c',ctv,h1⟩,h2,h3⟩:=h;exact⟨f,cl,zs,cs,rfl,⟨pm,c',ctv,e _ _ h1⟩,h2.mono e,Reps.mono e ws h3⟩
theorem Reps.mono{K:Fg}{G G':Hp}(e:Same G G'):∀(ws:List W){xs:List V},Reps K G ws xs->Reps K G' ws xs
 |[],xs,h=>h
 |w::ws,xs,h=>by
  obtain⟨x,r,rfl,h1,h2⟩:=h;exact⟨x,r,rfl,Rep.mono e w h1,Reps.mono e ws h2⟩
end
theorem Reps.length:∀{ws:List W}{xs:List V},Reps K G ws xs->xs.length=ws.length
 |[],xs,h=>by cases h;rfl
 |w::ws,xs,h=>by
  obtain⟨x,r,rfl,_,h2⟩:=h;simp[Reps.length h2]
theorem Reps.get:∀{ws:List W}{xs:List V}{i:Nat}{w:W},Reps K G ws xs->ws[i]?=some w->∃x,xs[i]?=some x/\Rep K G w x
 |[],xs,i,w,h,e=>by simp at e
 |w'::ws,xs,0,w,h,e=>by
  obtain⟨x,r,rfl,h1,h2⟩:=h;simp at e;subst e;exact⟨x,rfl,h1⟩
 |w'::ws,xs,i+1,w,h,e=>by
  obtain⟨x,r,rfl,h1,h2⟩:=h;obtain⟨y,e1,e2⟩:=Reps.get (i:=i) h2 (by simpa using e);exact⟨y,by simpa using e1,e2⟩
theorem Reps.getV:∀{ws:List W}{xs:List V}{i:Nat}{x:V},Reps K G ws xs->xs[i]?=some x->∃w,ws[i]?=some w/\Rep K G w x:=fun {ws xs i x} h e=>by
 have hl:=h.length;have hi:i<xs.length:=(w0b.mp e).1;have e2:ws[i]?=some ws[i]:=w0c (by omega);obtain⟨y,e3,r⟩:=h.get e2;rw[e]at e3;cases e3;exact⟨_,e2,r⟩
theorem Reps.append:∀{ws ws':List W}{xs xs':List V},Reps K G ws xs->Reps K G ws' xs'->Reps K G (ws++ws') (xs++xs')
 |[],ws',xs,xs',h,h'=>by cases h;exact h'
 |w::ws,ws',xs,xs',h,h'=>by
  obtain⟨x,r,rfl,h1,h2⟩:=h;exact⟨x,r++xs',rfl,h1,Reps.append h2 h'⟩
theorem Reps.one{x:V}(h:Rep K G w x):Reps K G [w] [x]:=⟨x,[],rfl,h,rfl⟩
theorem Reps.set:∀(i:Nat){ws:List W}{xs:List V}{w:W}{x:V},Reps K G ws xs->Rep K G w x->Reps K G (ws.set i w) (xs.set i x)
 |_,[],_,_,_,h,_=>by cases h;rfl
 |0,w'::ws,_,w,x,h,q=>by
  obtain⟨y,r,rfl,h1,h2⟩:=h;exact⟨x,r,rfl,q,h2⟩
 |i+1,w'::ws,_,w,x,h,q=>by
  obtain⟨y,r,rfl,h1,h2⟩:=h;exact⟨y,r.set i x,rfl,h1,Reps.set i h2 q⟩
structure Zt where
 H:Hp
 G:Hp
 io:List Addr
variable{Z Z':Zt}
def FzAt(Z:Zt)(G H:Hp)(l:Addr)(o:Obj)(ys:List V):Prop:=H l=some (.frz o (.lst ys))/\G l=none/\Z.H l=none
def NestIn(K:Fg)(Z:Zt)(G H:Hp):List Addr->List (List W)->Prop
 |[],[]=>True
 |l::ls,ws::wss=>(∃o ys,FzAt Z G H l o ys/\Reps K G ws ys)/\NestIn K Z G H ls wss
 |[],_::_=>False
 |_::_,[]=>False
inductive NestOk(K:Fg)(Z:Zt)(G H:Hp)(wss:List (List W))(v:Option V):Prop where
 |mk (a:Addr) (ls:List Addr) (h1:v=some (.ref a)) (h2:G a=some (.lst (ls.map V.ref))) (h3:ls.Nodup) (h4:NestIn K Z G H ls wss):NestOk K Z G H wss v
theorem NestIn.move(sg:Same G G')(hf:∀l o ys,H l=some (.frz o (.lst ys))->G l=none->Z.H l=none->H' l=some (.frz o (.lst ys))/\G' l=none/\Z'.H l=none):∀{ls:List Addr}{wss:List (List W)},NestIn K Z G H ls wss->NestIn K Z' G' H' ls wss
 |[],[],_=>trivial
 |l::ls,ws::wss,⟨⟨o,ys,⟨h1,h2,h3⟩,h4⟩,h⟩=>⟨⟨o,ys,hf l o ys h1 h2 h3,Reps.mono sg ws h4⟩,h.move sg hf⟩
 |[],_::_,h=>h.elim
 |_::_,[],h=>h.elim
theorem NestOk.move{wss:List (List W)}{v:Option V}(q:NestOk K Z G H wss v)(sg:Same G G')(hf:∀l o ys,H l=some (.frz o (.lst ys))->G l=none->Z.H l=none->H' l=some (.frz o (.lst ys))/\G' l=none/\Z'.H l=none):NestOk K Z' G' H' wss v:=by
 obtain⟨a,ls,h1,h2,h3,h4⟩:=q;exact⟨a,ls,h1,sg _ _ h2,h3,h4.move sg hf⟩
def LNd(ws:List W)(xs:List V):Prop:=(∀w∈ws,∃us,w=.lst us)->xs.Nodup
mutual
def RepN(K:Fg)(Z:Zt)(G:Hp):W->V->Prop
 |.non,v=>v=.non
 |.bl b,v=>v=.bl b
 |.int i,v=>v=.int i
 |.str x,v=>v=.str x
 |.tup ws,v=>RefTo v (SqT K G) fun _ xs=>RepNs K Z G ws xs
 |.lst ws,v=>RefTo v (fun a xs=>G a=some (.lst xs)) fun a xs=>Z.H a=none/\RepNs K Z G ws xs/\LNd ws xs
 |.exc _,_=>False
 |.dic _,_=>False
 |.dw fz sh ks ws,v=>∃a kvs kas,v=.ref a/\DAt fz G a sh kvs kas/\Z.H a=none/\kvs.map (·.1)=ks/\KeysS sh G ks kas/\RepNs K Z G ws (kvs.map (·.2))
 |.fn _ _ _,_=>False
def RepNs(K:Fg)(Z:Zt)(G:Hp):List W->List V->Prop
 |[],xs=>xs=[]
 |w::ws,xs=>ConsOf xs (RepN K Z G w) (RepNs K Z G ws)
end
mutual
theorem RepN.rep{K:Fg}{Z:Zt}{G:Hp}:∀(w:W){v:V},RepN K Z G w v->Rep K G w v
 |.non,_,h=>h
 |.bl _,_,h=>h
 |.int _,_,h=>h
 |.str _,_,h=>h
 |.tup ws,_,⟨a,xs,e,q,r⟩=>⟨a,xs,e,q,RepNs.reps ws r⟩
 |.lst ws,_,⟨a,xs,e,q,_,r,_⟩=>⟨a,xs,e,.inl (.inl q),RepNs.reps ws r⟩
 |.exc _,_,h=>h.elim
 |.dic _,_,h=>h.elim
 |.dw _ _ _ ws,_,⟨a,kvs,kas,e,q,_,h1,h2,r⟩=>⟨a,kvs,kas,e,q,h1,h2,RepNs.reps ws r⟩
 |.fn _ _ _,_,h=>h.elim
theorem RepNs.reps{K:Fg}{Z:Zt}{G:Hp}:∀(ws:List W){vs:List V},RepNs K Z G ws vs->Reps K G ws vs
 |[],_,h=>h
 |w::ws,_,⟨x,r,e,p,q⟩=>⟨x,r,e,RepN.rep w p,RepNs.reps ws q⟩
end
mutual
theorem RepN.move{K:Fg}{Z Z':Zt}{G G':Hp}(sg:Same G G')(hz:∀a o,G a=some o->Z.H a=none->Z'.H a=none):∀(w:W){v:V},RepN K Z G w v->RepN K Z' G' w v
 |.non,_,h=>h
 |.bl _,_,h=>h
 |.int _,_,h=>h
 |.str _,_,h=>h
 |.tup ws,_,⟨a,xs,e,q,r⟩=>⟨a,xs,e,sg.tup q,RepNs.move sg hz ws r⟩
 |.lst ws,_,⟨a,xs,e,q,n,r,nd⟩=>⟨a,xs,e,sg _ _ q,hz _ _ q n,RepNs.move sg hz ws r,nd⟩
 |.exc _,_,h=>h.elim
 |.dic _,_,h=>h.elim
 |.dw _ _ _ ws,_,⟨a,kvs,kas,e,q,n,h1,h2,r⟩=>⟨a,kvs,kas,e,q.mono sg,(let ⟨_,z⟩:=q.ex;hz _ _ z n),h1,h2.mono sg,RepNs.move sg hz ws r⟩
 |.fn _ _ _,_,h=>h.elim
theorem RepNs.move{K:Fg}{Z Z':Zt}{G G':Hp}(sg:Same G G')(hz:∀a o,G a=some o->Z.H a=none->Z'.H a=none):∀(ws:List W){vs:List V},RepNs K Z G ws vs->RepNs K Z' G' ws vs
 |[],_,h=>h
 |w::ws,_,⟨x,r,e,p,q⟩=>⟨x,r,e,RepN.move sg hz w p,RepNs.move sg hz ws q⟩
end
def RepsX(K:Fg)(Z:Zt)(G:Hp)(sh:Sh)(ws:List W)(vs:List V):Prop:=if sh.isN=true then RepNs K Z G ws vs else Reps K G ws vs
theorem RepsX.reps(h:RepsX K Z G sh ws vs):Reps K G ws vs:=by
 unfold RepsX at h;split at h
 ·exact RepNs.reps ws h
 ·exact h
theorem RepsX.of(hs:sh.isN=false)(h:Reps K G ws vs):RepsX K Z G sh ws vs:=by
 unfold RepsX;rw[if_neg (by rw[hs];exact w0r)];exact h
theorem RepsX.nil:RepsX K Z G sh [] []:=by
 unfold RepsX;split<;>rfl
theorem RepsX.move(h:RepsX K Z G sh ws vs)(sg:Same G G')(hz:∀a o,G a=some o->Z.H a=none->Z'.H a=none):RepsX K Z' G' sh ws vs:=by
 unfold RepsX at h |-
 split at h
 ·rename_i q;rw[if_pos q];exact RepNs.move sg hz ws h
 ·rename_i q;rw[if_neg q];exact Reps.mono sg ws h
inductive DwOk(K:Fg)(Z:Zt)(G H:Hp)(sh:Sh)(ks:List Kx)(ws:List W)(v:Option V):Prop where
 |mk (a:Addr) (kvs:List (Kx×V)) (kas:List Addr) (h1:v=some (.ref a)) (h2:H a=some (dwO sh kvs kas)) (h3:G a=none) (h4:Z.H a=none) (h5:kvs.map (·.1)=ks) (h6:KeysS sh G ks kas) (h7:RepsX K Z G sh ws (kvs.map (·.2))):DwOk K Z G H sh ks ws v
theorem DwOk.move{v:Option V}(q:DwOk K Z G H sh ks ws v)(sg:Same G G')(hf:∀a kvs kas,H a=some (dwO sh kvs kas)->G a=none->Z.H a=none->H' a=some (dwO sh kvs kas)/\G' a=none/\Z'.H a=none)(hz:∀a o,G a=some o->Z.H a=none->Z'.H a=none:=by intro _ _ _ z;exact z):DwOk K Z' G' H' sh ks ws v:=by
 obtain⟨a,kvs,kas,h1,h2,h3,h4,h5,h6,h7⟩:=q;obtain⟨k1,k2,k3⟩:=hf a kvs kas h2 h3 h4;exact⟨a,kvs,kas,h1,k1,k2,k3,h5,h6.mono sg,h7.move sg hz⟩
inductive AccOk(K:Fg)(Z:Zt)(G H:Hp)(ws:List W)(v:Option V):Prop where
 |mk (a:Addr) (o:Obj) (xs:List V) (h1:v=some (.ref a)) (h2:FzAt Z G H a o xs) (h3:RepNs K Z G ws xs) (h4:LNd ws xs):AccOk K Z G H ws v
inductive ThroOk(K:Fg)(Z:Zt)(G H:Hp)(us ws vs:List W)(v:Option V):Prop where
 |mk (t l:Addr) (o:Obj) (xs ys zs:List V) (h1:v=some (.ref t)) (h2:Z.G t=some (.tup (xs++.ref l::zs))) (h3:G t=some (.tup (xs++.ref l::zs))) (h4:FzAt Z G H l o ys) (h5:Reps K Z.G us xs/\Reps K Z.G ws ys/\Reps K Z.G vs zs) (h6:Reps K G us xs/\Reps K G ws ys/\Reps K G vs zs):ThroOk K Z G H us ws vs v
inductive TnOk(K:Fg)(Z:Zt)(G H:Hp)(us:List W)(wss:List (List W))(v:Option V):Prop where
 |mk (t l:Addr) (o:Obj) (ls:List Addr) (xs:List V) (h1:v=some (.ref t)) (h2:G t=some (.tup (xs++[.ref l]))) (h3:FzAt Z G H l o (ls.map V.ref)) (h4:ls.Nodup/\l∉ls) (h5:Reps K G us xs) (h6:NestIn K Z G H ls wss):TnOk K Z G H us wss v
inductive PtOk(K:Fg)(Z:Zt)(G H:Hp)(us ws:List W)(w:W)(v:Option V):Prop where
 |mk (p t l:Addr) (o:Obj) (xs ys:List V) (x:V) (h1:v=some (.ref p)) (h2:G p=some (.tup [.ref t,x])) (h3:G t=some (.tup (xs++[.ref l]))) (h4:FzAt Z G H l o ys) (h5:Reps K G us xs) (h6:Reps K G ws ys) (h7:Rep K G w x):PtOk K Z G H us ws w v
inductive ConsF(xs:List V)(as:List Addr)(P:V->List Addr->Prop)(Q:List V->List Addr->Prop):Prop where
 |mk (x:V) (r:List V) (b c:List Addr) (h:xs=x::r) (h':as=b++c) (p:P x b) (q:Q r c):ConsF xs as P Q
inductive LstF(as:List Addr)(a:Addr)(Q:List Addr->Prop):Prop where
 |mk (bs:List Addr) (h:as=a::bs) (q:Q bs):LstF as a Q
mutual
def RepF(K:Fg)(Z:Zt)(G H:Hp):W->V->List Addr->Prop
 |.non,v,as=>v=.non/\as=[]
 |.bl b,v,as=>v=.bl b/\as=[]
 |.int i,v,as=>v=.int i/\as=[]
 |.str x,v,as=>v=.str x/\as=[]
 |.tup ws,v,as=>RefTo v (SqT K G) fun _ xs=>RepFs K Z G H ws xs as
 |.lst ws,v,as=>RefTo v (fun a xs=>∃o,FzAt Z G H a o xs) fun a xs=>LstF as a (RepFs K Z G H ws xs)
 |.exc _,_,_=>False
 |.dic _,_,_=>False
 |.dw _ _ _ _,_,_=>False
 |.fn _ _ _,_,_=>False
def RepFs(K:Fg)(Z:Zt)(G H:Hp):List W->List V->List Addr->Prop
 |[],xs,as=>xs=[]/\as=[]
 |w::ws,xs,as=>ConsF xs as (RepF K Z G H w) (RepFs K Z G H ws)
end
mutual
theorem RepF.move{K:Fg}{Z Z':Zt}{G G' H H':Hp}(sg:Same G G'):∀(w:W){v:V}{as:List Addr},(∀l o ys,l∈as->FzAt Z G H l o ys->FzAt Z' G' H' l o ys)->RepF K Z G H w v as->RepF K Z' G' H' w v as
 |.non,_,_,_,h=>h
 |.bl _,_,_,_,h=>h
 |.int _,_,_,_,h=>h
 |.str _,_,_,_,h=>h
 |.tup ws,_,_,hf,⟨a,xs,e,q,r⟩=>⟨a,xs,e,sg.tup q,RepFs.move sg ws hf r⟩
 |.lst ws,_,_,hf,⟨a,xs,e,⟨o,q⟩,⟨bs,e2,r⟩⟩=>by
  subst e2;exact⟨a,xs,e,⟨o,hf _ _ _ (w1f ..) q⟩,bs,rfl,RepFs.move sg ws (fun l o ys z=>hf l o ys (w0t _ z)) r⟩
 |.exc _,_,_,_,h=>h.elim
 |.dic _,_,_,_,h=>h.elim
 |.dw _ _ _ _,_,_,_,h=>h.elim
 |.fn _ _ _,_,_,_,h=>h.elim
theorem RepFs.move{K:Fg}{Z Z':Zt}{G G' H H':Hp}(sg:Same G G'):∀(ws:List W){vs:List V}{as:List Addr},(∀l o ys,l∈as->FzAt Z G H l o ys->FzAt Z' G' H' l o ys)->RepFs K Z G H ws vs as->RepFs K Z' G' H' ws vs as
 |[],_,_,_,h=>h
 |w::ws,_,_,hf,⟨x,r,b,c,e,e2,p,q⟩=>by
  subst e2;exact⟨x,r,b,c,e,rfl,RepF.move sg w (fun l o ys z=>hf l o ys (w1m _ z)) p,RepFs.move sg ws (fun l o ys z=>hf l o ys (w0l _ z)) q⟩
end
mutual
theorem RepF.rep{K:Fg}{Z:Zt}{G G' H:Hp}(sg:Same G G')(hf:∀l o ys,FzAt Z G H l o ys->G' l=some (.frz o (.lst ys))):∀(w:W){v:V}{as:List Addr},RepF K Z G H w v as->Rep K G' w v
 |.non,_,_,h=>h.1
 |.bl _,_,_,h=>h.1
 |.int _,_,_,h=>h.1
 |.str _,_,_,h=>h.1
 |.tup ws,_,_,⟨a,xs,e,q,r⟩=>⟨a,xs,e,sg.tup q,RepFs.reps sg hf ws r⟩
 |.lst ws,_,_,⟨a,xs,e,⟨o,q⟩,⟨bs,_,r⟩⟩=>⟨a,xs,e,.inl (.inr ⟨o,hf _ _ _ q⟩),RepFs.reps sg hf ws r⟩
 |.exc _,_,_,h=>h.elim
 |.dic _,_,_,h=>h.elim
 |.dw _ _ _ _,_,_,h=>h.elim
 |.fn _ _ _,_,_,h=>h.elim
theorem RepFs.reps{K:Fg}{Z:Zt}{G G' H:Hp}(sg:Same G G')(hf:∀l o ys,FzAt Z G H l o ys->G' l=some (.frz o (.lst ys))):∀(ws:List W){vs:List V}{as:List Addr},RepFs K Z G H ws vs as->Reps K G' ws vs
 |[],_,_,h=>h.1
 |w::ws,_,_,⟨x,r,b,c,e,_,p,q⟩=>⟨x,r,e,RepF.rep sg hf w p,RepFs.reps sg hf ws q⟩
end
mutual
theorem RepF.fzs{K:Fg}{Z:Zt}{G H:Hp}:∀(w:W){v:V}{as:List Addr},RepF K Z G H w v as->∀{l:Addr},l∈as->∃o ys,FzAt Z G H l o ys
 |.non,_,_,h,_,m=>by rw[h.2]at m;cases m
 |.bl _,_,_,h,_,m=>by rw[h.2]at m;cases m
 |.int _,_,_,h,_,m=>by rw[h.2]at m;cases m
 |.str _,_,_,h,_,m=>by rw[h.2]at m;cases m
 |.tup ws,_,_,⟨a,xs,e,q,r⟩,_,m=>RepFs.fzs ws r m
 |.lst ws,_,_,⟨a,xs,e,⟨o,q⟩,⟨bs,e2,r⟩⟩,l,m=>by
  subst e2;rcases w0h.mp m with rfl|m
  ·exact⟨o,xs,q⟩
  ·exact RepFs.fzs ws r m
 |.exc _,_,_,h,_,_=>h.elim
 |.dic _,_,_,h,_,_=>h.elim
 |.dw _ _ _ _,_,_,h,_,_=>h.elim
 |.fn _ _ _,_,_,h,_,_=>h.elim
theorem RepFs.fzs{K:Fg}{Z:Zt}{G H:Hp}:∀(ws:List W){vs:List V}{as:List Addr},RepFs K Z G H ws vs as->∀{l:Addr},l∈as->∃o ys,FzAt Z G H l o ys
 |[],_,_,h,_,m=>by rw[h.2]at m;cases m
 |w::ws,_,_,⟨x,r,b,c,e,e2,p,q⟩,l,m=>by
  subst e2;rcases w1p.mp m with m|m
  ·exact RepF.fzs w p m
  ·exact RepFs.fzs ws q m
end
inductive FzOk(K:Fg)(Z:Zt)(G H:Hp)(w:W)(v:Option V):Prop where
 |mk (u:V) (as:List Addr) (h1:v=some u) (h2:as.Nodup) (h3:RepF K Z G H w u as):FzOk K Z G H w v
inductive FzoOk(K:Fg)(Z:Zt)(G H:Hp)(w:W)(v:Option V):Prop where
 |mk (u:V) (as:List Addr) (h1:v=some u) (h2:as.Nodup) (h3:RepF K Z Z.G H w u as) (h4:RepF K Z G H w u as):FzoOk K Z G H w v
def XOk(K:Fg)(Z:Zt)(G H:Hp):SK->Option V->Prop
 |.old w,v=>∃u,v=some u/\Rep K Z.G w u/\Rep K G w u
 |.new w,v=>∃u,v=some u/\RepN K Z G w u
 |.acc ws,v=>AccOk K Z G H ws v
 |.thro us ws vs,v=>ThroOk K Z G H us ws vs v
 |.tn us wss,v=>TnOk K Z G H us wss v
 |.pt us ws w,v=>PtOk K Z G H us ws w v
 |.fz w,v=>FzOk K Z G H w v
 |.fzo w,v=>FzoOk K Z G H w v
theorem XOk.move{k:SK}{v:Option V}(q:XOk K Z G H k v)(sg:Same G G')(hf:∀l o ys,H l=some (.frz o (.lst ys))->G l=none->Z.H l=none->H' l=some (.frz o (.lst ys))/\G' l=none/\Z.H l=none):XOk K Z G' H' k v:=by
 cases k with
 |old w=>obtain⟨u,h1,h2,h3⟩:=q;exact⟨u,h1,h2,Rep.mono sg w h3⟩
 |new w=>obtain⟨u,h1,h2⟩:=q;exact⟨u,h1,RepN.move sg (fun _ _ _ z=>z) w h2⟩
 |acc ws=>obtain⟨a,o,xs,h1,⟨h2,h3,h4⟩,h5,h6⟩:=q;exact⟨a,o,xs,h1,hf _ _ _ h2 h3 h4,RepNs.move sg (fun _ _ _ z=>z) ws h5,h6⟩
 |tn us wss=>obtain⟨t,l,o,ls,xs,h1,h2,⟨h3,h4,h5⟩,h6,h7,h8⟩:=q;exact⟨t,l,o,ls,xs,h1,sg _ _ h2,hf _ _ _ h3 h4 h5,h6,Reps.mono sg us h7,h8.move sg hf⟩
 |pt us ws w=>obtain⟨p,t,l,o,xs,ys,x,h1,h2,h3,⟨h4,h5,h6⟩,h7,h8,h9⟩:=q;exact⟨p,t,l,o,xs,ys,x,h1,sg _ _ h2,sg _ _ h3,hf _ _ _ h4 h5 h6,Reps.mono sg us h7,Reps.mono sg ws h8,Rep.mono sg w h9⟩
 |fz w=>obtain⟨u,as,h1,h2,h3⟩:=q;exact⟨u,as,h1,h2,RepF.move sg w (fun l o ys _ ⟨k1,k2,k3⟩=>hf l o ys k1 k2 k3) h3⟩
 |fzo w=>obtain⟨u,as,h1,h2,h3,h4⟩:=q;exact⟨u,as,h1,h2,RepF.move (.refl _) w (fun l o ys hm k=>⟨(hf l o ys k.1 (let ⟨_,_,z⟩:=RepF.fzs w h4 hm;z.2.1) k.2.2).1,k.2.1,k.2.2⟩) h3,RepF.move sg w (fun l o ys _ ⟨k1,k2,k3⟩=>hf l o ys k1 k2 k3) h4⟩
 |thro us ws vs=>obtain⟨t,l,o,xs,ys,zs,h1,h2,h3,⟨h4,h5,h6⟩,h7,h8,h9,h10⟩:=q;exact⟨t,l,o,xs,ys,zs,h1,h2,sg _ _ h3,hf _ _ _ h4 h5 h6,h7,Reps.mono sg us h8,Reps.mono sg ws h9,Reps.mono sg vs h10⟩
def IoOk(Z:Zt):Option Nat->Addr->Prop
 |none,a=>Z.H a=none
 |some j,a=>Z.io[j]?=some a
theorem IoOk.io(h:IoOk Z b a):a∈Z.io\/Z.H a=none:=by
 cases b with
 |none=>exact .inr h
 |some j=>exact .inl (w0m h)
inductive OwnOk(K:Fg)(Z:Zt)(G H:Hp)(b:Option Nat)(ws:List W)(v:Option V):Prop where
 |mk (a:Addr) (xs:List V) (h1:v=some (.ref a)) (h2:H a=some (.lst xs)) (h3:G a=none) (h4:IoOk Z b a) (h5:Reps K G ws xs):OwnOk K Z G H b ws v
inductive DicOk(Z:Zt)(G H:Hp)(kvs:Dd)(v:Option V):Prop where
 |mk (a:Addr) (h1:v=some (.ref a)) (h2:H a=some (dO kvs)) (h3:G a=none) (h4:Z.H a=none):DicOk Z G H kvs v
inductive ThrOk(K:Fg)(Z:Zt)(G H:Hp)(us ws vs:List W)(v:Option V):Prop where
 |mk (t l:Addr) (o:Obj) (xs ys zs:List V) (h1:v=some (.ref t)) (h2:G t=some (.tup (xs++.ref l::zs))) (h3:H l=some (.frz o (.lst ys))) (h4:G l=none) (h5:Z.H l=none) (h6:Reps K G us xs/\Reps K G ws ys/\Reps K G vs zs):ThrOk K Z G H us ws vs v
def SlotOk(K:Fg)(Z:Zt)(G H:Hp):S->Option V->Prop
 |.no,_=>True
 |.fr w,v=>∃u,v=some u/\Rep K G w u
 |.own b ws,v=>OwnOk K Z G H b ws v
 |.dic kvs,v=>DicOk Z G H kvs v
 |.thr us ws vs,v=>ThrOk K Z G H us ws vs v
 |.nest wss,v=>NestOk K Z G H wss v
 |.dw sh ks ws,v=>DwOk K Z G H sh ks ws v
 |.x k,v=>XOk K Z G H k v
structure Rel(K:Fg)(Z:Zt)(G:Hp)(σ:St)(H:Hp)(e:List S):Prop where
 sub:Same G H
 slot:∀(i:Nat)(s:S),e[i]?=some s->SlotOk K Z G H s (σ[i]?.getD none)
 len:e.length=σ.length
 dis:∀(i j:Nat)(b b':Option Nat)(ws ws':List W)(a:Addr),e[i]?=some (.own b ws)->e[j]?=some (.own b' ws')->σ[i]?=some (some (.ref a))->σ[j]?=some (some (.ref a))->i=j
 ent:∀a o,Z.H a=some o->a∉Z.io->H a=some o
 ion:∀a∈Z.io,H a≠none
 gen:∀a,Z.H a≠none->G a=Z.G a
inductive AtG(K:Fg)(Z:Zt)(σ:St)(H:Hp)(P:Hp->List S->Prop):Prop where
 |mk (G:Hp) (e:List S) (r:Rel K Z G σ H e) (h:P G e):AtG K Z σ H P
structure Grow(G H G' H':Hp):Prop where
 hh:Same H H'
 gg:Same G G'
 sub:Same G' H'
 new:∀a,H a≠none->G' a=G a
theorem Grow.refl(s:Same G H):Grow G H G H:=⟨.refl _,.refl _,s,fun _ _=>rfl⟩
theorem x61(e:Same H H')(h:H a≠none):H' a≠none:=by
 cases q:H a with
 |none=>exact absurd q h
 |some o=>rw[e a o q];simp
theorem Grow.laid(s:Same G H){D:Addr}(h:H D=none)(o:HO):Grow G H (upd G D o) (upd H D o) where
 hh:=q23 h o
 gg:=q23 (s.free h) o
 sub:=fun b u e=>by
  by_cases hb:b=D
  ·subst hb;rw[q0f]at e |-;exact e
  ·rw[q0b hb]at e |-;exact s b u e
 new:=fun a ha=>by rw[q0b (fun z=>ha (by rw[z];exact h))]
theorem Grow.hid(s:Same G H){D:Addr}(h:H D=none)(o:HO):Grow G H G (upd H D o) where
 hh:=q23 h o
 gg:=.refl _
 sub:=fun b u e=>by
  have:=s b u e;rw[q0b (q0i this h)];exact this
 new:=fun a ha=>rfl
theorem Rel.grow(r:Rel K Z G σ H e)(g:Grow G H G' H'):Rel K Z G' σ H' e where
 sub:=g.sub
 slot:=fun i s h=>by
  have q:=r.slot i s h;cases s with
  |no=>trivial
  |fr w=>
   obtain⟨u,h1,h2⟩:=q;exact⟨u,h1,Rep.mono g.gg w h2⟩
  |own b ws=>
   obtain⟨a,xs,h1,h2,h3,h4,h5⟩:=q;exact⟨a,xs,h1,g.hh _ _ h2,by rw[g.new a (by rw[h2];simp)];exact h3,h4,Reps.mono g.gg ws h5⟩
  |dic kvs=>
   obtain⟨a,h1,h2,h3,h4⟩:=q;exact⟨a,h1,g.hh _ _ h2,by rw[g.new a (by rw[h2];simp)];exact h3,h4⟩
  |thr us ws vs=>
   obtain⟨t,l,o,xs,ys,zs,h1,h2,h3,h4,h5,h6,h7,h8⟩:=q;exact⟨t,l,o,xs,ys,zs,h1,g.gg _ _ h2,g.hh _ _ h3,by rw[g.new l (by rw[h3];simp)];exact h4,h5,Reps.mono g.gg us h6,Reps.mono g.gg ws h7,Reps.mono g.gg vs h8⟩
  |nest wss=>exact NestOk.move q g.gg fun l o ys h1 h2 h3=>⟨g.hh _ _ h1,by rw[g.new l (by rw[h1];simp)];exact h2,h3⟩
  |x k=>exact XOk.move q g.gg fun l o ys h1 h2 h3=>⟨g.hh _ _ h1,by rw[g.new l (by rw[h1];simp)];exact h2,h3⟩
  |dw sh ks ws=>exact DwOk.move q g.gg fun l o ys h1 h2 h3=>⟨g.hh _ _ h1,by rw[g.new l (by rw[h1];simp)];exact h2,h3⟩
 len:=r.len
 dis:=r.dis
 ent:=fun a o h n=>g.hh _ _ (r.ent a o h n)
 ion:=fun a h=>x61 g.hh (r.ion a h)
 gen:=fun a h=>by
  have:H a≠none:=by
   cases q:Z.H a with
   |none=>exact absurd q h
   |some o=>
    by_cases hi:a∈Z.io
    ·exact r.ion a hi
    ·rw[r.ent a o q hi];simp
  rw[g.new a this];exact r.gen a h
theorem Rel.own(r:Rel K Z G σ H e)(h:e[i]?=some (.own b ws)):∃a xs,σ[i]?=some (some (.ref a))/\H a=some (.lst xs)/\G a=none/\(IoOk Z b a)/\Reps K G ws xs:=by
 obtain⟨a,xs,h1,h2,h3,h4,h5⟩:=r.slot i _ h;refine⟨a,xs,?_,h2,h3,h4,h5⟩;cases q:σ[i]? with
 |none=>rw[q]at h1;cases h1
 |some z=>rw[q]at h1;rw[show z=some (V.ref a)from h1]
theorem Rel.fr(r:Rel K Z G σ H e)(h:e[i]?=some (.fr w)):∃v,σ[i]?=some (some v)/\Rep K G w v:=by
 obtain⟨v,h1,h2⟩:=r.slot i _ h;refine⟨v,?_,h2⟩;cases q:σ[i]? with
 |none=>rw[q]at h1;cases h1
 |some z=>rw[q]at h1;rw[show z=some v from h1]
theorem Rel.at(r:Rel K Z G σ H e){s:S}(h:e[i]?=some s)(hs:SlotOk K Z G H s (σ[i]?.getD none)->σ[i]?.getD none=some v):σ[i]?=some (some v):=by
 have h1:=hs (r.slot i _ h);cases q:σ[i]? with
 |none=>rw[q]at h1;cases h1
 |some z=>rw[q]at h1;rw[show z=some v from h1]
theorem Rel.plain(r:Rel K Z G σ H e){k:SK}(h:e[i]?=some (.x k))(hk:k.plain=some w):∃v,σ[i]?=some (some v)/\Rep K G w v:=by
 have q:=r.slot i _ h;cases k with
 |old w'=>cases hk;obtain⟨v,h1,_,h2⟩:=q;exact⟨v,r.at h fun _=>h1,h2⟩
 |new w'=>cases hk;obtain⟨v,h1,h2⟩:=q;exact⟨v,r.at h fun _=>h1,RepN.rep _ h2⟩
 |_=>cases hk
theorem Rel.mut(r:Rel K Z G σ H e){ws':List W}{xs':List V}(h:e[i]?=some (.own b ws))(ha:σ[i]?=some (some (.ref a)))(q:Reps K G ws' xs'):Rel K Z G σ (upd H a (.lst xs')) (e.set i (.own b ws')):=by
 obtain⟨a',xs,h1,h2,h3,h4,h5⟩:=r.own h;rw[ha]at h1;cases h1;have hi:i<e.length:=(w0b.mp h).1;refine⟨fun c o z=>?_,fun j s z=>?_,by simpa using r.len,fun j k b1 b2 w1 w2 c z1 z2 z3 z4=>?_,fun c o z n=>?_,fun c z=>?_,r.gen⟩
 ·rw[q0b (q0i z h3)];exact r.sub c o z
 ·by_cases hj:j=i
  ·subst hj;rw[w0g hi]at z;cases z;exact⟨a,xs',by rw[ha];rfl,q0f,h3,h4,q⟩
  ·rw[w0f (fun z=>hj z.symm)]at z
   have y:=r.slot j s z;cases s with
   |no=>trivial
   |fr w=>exact y
   |own b2 w2=>
    obtain⟨c,ys,y1,y2,y3,y4,y5⟩:=y;refine⟨c,ys,y1,?_,y3,y4,y5⟩;rw[q0b];exact y2;rintro rfl;obtain⟨c',_,z1,_⟩:=r.own z;rw[z1]at y1;cases y1;exact hj (r.dis j i _ _ _ _ _ z h z1 ha)
   |dic kvs=>
    obtain⟨c,y1,y2,y3,y4⟩:=y;refine⟨c,y1,?_,y3,y4⟩;rw[q0b (q0o y2 h2 (q2l rfl))];exact y2
   |thr us w2 vs=>
    obtain⟨t,l,o,xs2,ys,zs,y1,y2,y3,y4,y5,y6⟩:=y;refine⟨t,l,o,xs2,ys,zs,y1,y2,?_,y4,y5,y6⟩;rw[q0b (q0o y3 h2 (fun z=>nomatch z))];exact y3
   |nest wss=>exact NestOk.move y (.refl _) fun l o ys k1 k2 k3=>⟨by rw[q0b (q0o k1 h2 (fun z=>nomatch z))];exact k1,k2,k3⟩
   |x k=>exact XOk.move y (.refl _) fun l o ys k1 k2 k3=>⟨by rw[q0b (q0o k1 h2 (fun z=>nomatch z))];exact k1,k2,k3⟩
   |dw sh ks ws=>exact DwOk.move y (.refl _) fun l o ys k1 k2 k3=>⟨by rw[q0b (q0o k1 h2 (q18 rfl))];exact k1,k2,k3⟩
 ·have old:∀(k:Nat)(bb:Option Nat)(ww:List W),(e.set i (S.own b ws'))[k]?=some (.own bb ww)->∃b' w',e[k]?=some (.own b' w'):=fun k bb ww z=>by
   by_cases hk:k=i
   ·subst hk;exact⟨_,_,h⟩
   ·rw[w0f (fun z=>hk z.symm)]at z;exact⟨_,_,z⟩
  obtain⟨_,_,q1⟩:=old _ _ _ z1;obtain⟨_,_,q2⟩:=old _ _ _ z2;exact r.dis _ _ _ _ _ _ _ q1 q2 z3 z4
 ·by_cases hc:c=a
  ·subst hc;exfalso;rcases h4.io with h4|h4
   ·exact n h4
   ·rw[h4]at z;cases z
  ·rw[q0b hc];exact r.ent c o z n
 ·by_cases hc:c=a
  ·subst hc;rw[q0f];simp
  ·rw[q0b hc];exact r.ion c z
theorem Rel.freeze(r:Rel K Z G σ H e)(h:e[i]?=some (.own none ws)):∃v G',σ[i]?=some (some v)/\Same G G'/\Rep K G' (.lst ws) v/\Rel K Z G' σ H (e.set i (.fr (.lst ws))):=by
 obtain⟨a,xs,h1,h2,h3,h4,h5⟩:=r.own h;have h4:Z.H a=none:=h4;have sg:Same G (upd G a (.lst xs)):=q23 h3 _;have hi:i<e.length:=(w0b.mp h).1;have rp:Rep K (upd G a (.lst xs)) (.lst ws) (.ref a):=⟨a,xs,rfl,SqL.of q0f,Reps.mono sg ws h5⟩;refine⟨.ref a,upd G a (.lst xs),h1,sg,rp,⟨fun c o z=>?_,fun j s z=>?_,by simpa using r.len,fun j k b1 b2 w1 w2 c z1 z2 z3 z4=>?_,r.ent,r.ion,fun c z=>?_⟩⟩
 ·by_cases hc:c=a
  ·subst hc;rw[q0f]at z;cases z;exact h2
  ·rw[q0b hc]at z;exact r.sub c o z
 ·by_cases hj:j=i
  ·subst hj;rw[w0g hi]at z;cases z;exact⟨.ref a,by rw[h1];rfl,rp⟩
  ·rw[w0f (fun z=>hj z.symm)]at z
   have y:=r.slot j s z;cases s with
   |no=>trivial
   |fr w=>
    obtain⟨u,y1,y2⟩:=y;exact⟨u,y1,Rep.mono sg w y2⟩
   |own b2 w2=>
    obtain⟨c,ys,y1,y2,y3,y4,y5⟩:=y;refine⟨c,ys,y1,y2,?_,y4,Reps.mono sg w2 y5⟩;rw[q0b];exact y3;rintro rfl;obtain⟨c',_,z1,_⟩:=r.own z;rw[z1]at y1;cases y1;exact hj (r.dis j i _ _ _ _ _ z h z1 h1)
   |dic kvs=>
    obtain⟨c,y1,y2,y3,y4⟩:=y;refine⟨c,y1,y2,?_,y4⟩;rw[q0b (q0o y2 h2 (q2l rfl))];exact y3
   |thr us w2 vs=>
    obtain⟨t,l,o,xs2,ys,zs,y1,y2,y3,y4,y5,y6,y7,y8⟩:=y;refine⟨t,l,o,xs2,ys,zs,y1,sg _ _ y2,y3,?_,y5,Reps.mono sg us y6,Reps.mono sg w2 y7,Reps.mono sg vs y8⟩;rw[q0b (q0o y3 h2 (fun z=>nomatch z))];exact y4
   |nest wss=>exact NestOk.move y sg fun l o ys k1 k2 k3=>⟨k1,by rw[q0b (q0o k1 h2 (fun z=>nomatch z))];exact k2,k3⟩
   |x k=>exact XOk.move y sg fun l o ys k1 k2 k3=>⟨k1,by rw[q0b (q0o k1 h2 (fun z=>nomatch z))];exact k2,k3⟩
   |dw sh ks ws=>exact DwOk.move y sg fun l o ys k1 k2 k3=>⟨k1,by rw[q0b (q0o k1 h2 (q18 rfl))];exact k2,k3⟩
 ·have old:∀(k:Nat)(bb:Option Nat)(ww:List W),(e.set i (S.fr (W.lst ws)))[k]?=some (.own bb ww)->e[k]?=some (.own bb ww):=fun k bb ww z=>by
   by_cases hk:k=i
   ·subst hk;rw[w0g hi]at z;cases z
   ·rw[w0f (fun z=>hk z.symm)]at z;exact z
  exact r.dis _ _ _ _ _ _ _ (old _ _ _ z1) (old _ _ _ z2) z3 z4
 ·by_cases hc:c=a
  ·subst hc;exact absurd h4 z
  ·rw[q0b hc];exact r.gen c z
def Free(σ:St)(e:List S)(a:Addr):Prop:=∀(j:Nat)(b:Option Nat)(ws:List W),e[j]?=some (.own b ws)->σ[j]?≠some (some (.ref a))
theorem Rel.set(r:Rel K Z G σ H e){v:V}(q:Rep K G w v):Rel K Z G (σ.set i (some v)) H (e.set i (.fr w)):=by
 refine⟨r.sub,fun j s z=>?_,by simpa using r.len,fun j k b1 b2 w1 w2 c z1 z2 z3 z4=>?_,r.ent,r.ion,r.gen⟩
 ·by_cases hj:j=i
  ·subst hj
   have hi:j<e.length:=by
    have:=(w0b.mp z).1;simpa using this
   rw[w0g hi]at z;cases z;rw[w0g (by rw[<- r.len];exact hi)];exact⟨v,rfl,q⟩
  ·rw[w0f (fun z=>hj z.symm)]at z |-
   exact r.slot j s z
 ·have old:∀(k:Nat)(bb:Option Nat)(ww:List W),(e.set i (S.fr w))[k]?=some (.own bb ww)->k≠i/\e[k]?=some (.own bb ww):=fun k bb ww z=>by
   by_cases hk:k=i
   ·subst hk
    have hi:k<e.length:=by
     have:=(w0b.mp z).1;simpa using this
    rw[w0g hi]at z;cases z
   ·rw[w0f (fun z=>hk z.symm)]at z;exact⟨hk,z⟩
  obtain⟨n1,q1⟩:=old _ _ _ z1;obtain⟨n2,q2⟩:=old _ _ _ z2;rw[w0f (fun z=>n1 z.symm)]at z3
  rw[w0f (fun z=>n2 z.symm)]at z4
  exact r.dis _ _ _ _ _ _ _ q1 q2 z3 z4
theorem Rel.setOwn(r:Rel K Z G σ H e)(h2:H a=some (.lst xs))(h3:G a=none)(h4:Z.H a=none)(hf:Free σ e a)(q:Reps K G ws xs):Rel K Z G (σ.set i (some (.ref a))) H (e.set i (.own none ws)):=by
 refine⟨r.sub,fun j s z=>?_,by simpa using r.len,fun j k b1 b2 w1 w2 c z1 z2 z3 z4=>?_,r.ent,r.ion,r.gen⟩
 ·by_cases hj:j=i
  ·subst hj
   have hi:j<e.length:=by
    have:=(w0b.mp z).1;simpa using this
   rw[w0g hi]at z;cases z;rw[w0g (by rw[<- r.len];exact hi)];exact⟨a,xs,rfl,h2,h3,h4,q⟩
  ·rw[w0f (fun z=>hj z.symm)]at z |-
   exact r.slot j s z
 ·have both:∀(k:Nat)(bb:Option Nat)(ww:List W),(e.set i (S.own none ws))[k]?=some (.own bb ww)->(σ.set i (some (.ref a)))[k]?=some (some (.ref c))->(k=i/\c=a)\/(k≠i/\e[k]?=some (.own bb ww)/\σ[k]?=some (some (.ref c))/\c≠a):=fun k bb ww z y=>by
   by_cases hk:k=i
   ·subst hk
    have hi:k<e.length:=by
     have:=(w0b.mp z).1;simpa using this
    rw[w0g (by rw[<- r.len];exact hi)]at y;cases y;exact .inl ⟨rfl,rfl⟩
   ·rw[w0f (fun z=>hk z.symm)]at z y
    exact .inr ⟨hk,z,y,fun e=>hf k bb ww z (by rw[y,e])⟩
  rcases both _ _ _ z1 z3 with⟨e1,c1⟩|⟨n1,q1,p1,c1⟩<;>rcases both _ _ _ z2 z4 with⟨e2,c2⟩|⟨n2,q2,p2,c2⟩
  ·rw[e1,e2]
  ·exact absurd c1 c2
  ·exact absurd c2 c1
  ·exact r.dis _ _ _ _ _ _ _ q1 q2 p1 p2
theorem Rel.forget(r:Rel K Z G σ H e){e':List S}(hl:e'.length=e.length)(h:∀(i:Nat)(s:S),e'[i]?=some s->s=.no\/e[i]?=some s):Rel K Z G σ H e':=by
 refine⟨r.sub,fun j s z=>?_,by rw[hl];exact r.len,fun j k b1 b2 w1 w2 c z1 z2 z3 z4=>?_,r.ent,r.ion,r.gen⟩
 ·rcases h j s z with rfl|q
  ·trivial
  ·exact r.slot j s q
 ·rcases h _ _ z1 with q1|q1
  ·cases q1
  ·rcases h _ _ z2 with q2|q2
   ·cases q2
   ·exact r.dis _ _ _ _ _ _ _ q1 q2 z3 z4
inductive R(α:Type) where
 |ok (a:α) (e:List S)|ex (c:Value) (e:List S)|no
noncomputable abbrev Den(α:Type):=List S->R α
variable{dA:Den (List W)}
def R.bind{β:Type}:R α->(α->List S->R β)->R β
 |.ok a e,k=>k a e
 |.ex c e,_=>.ex c e
 |.no,_=>.no
def R.holds(r:R α)(P:α->List S->Prop)(E:Value->List S->Prop):Prop:=match r with
 |.ok a e=>P a e
 |.ex c e=>E c e
 |.no=>False
theorem R.holds_bind{β:Type}{r:R α}{k:α->List S->R β}{P:β->List S->Prop}:(r.bind k).holds P E↔r.holds (fun a e=>(k a e).holds P E) E:=by
 cases r<;>rfl
theorem R.holds.imp{r:R α}{P P':α->List S->Prop}{E':Value->List S->Prop}(h:r.holds P E)(p:∀a e,P a e->P' a e)(x:∀c e,E c e->E' c e):r.holds P' E':=by
 cases r with
 |ok a e=>exact p a e h
 |ex c e=>exact x c e h
 |no=>exact h
def ofOpt(o:Option α)(e:List S):R α:=match o with
 |some a=>.ok a e
 |none=>.no
theorem ofOpt_holds{o:Option α}{P:α->List S->Prop}:(ofOpt o e).holds P E↔∃a,o=some a/\P a e:=by
 cases o with
 |none=>exact⟨fun h=>h.elim,fun⟨_,h,_⟩=>nomatch h⟩
 |some a=>exact⟨fun h=>⟨a,rfl,h⟩,fun⟨_,h,q⟩=>by cases h;exact q⟩
inductive SR where
 |nx (e:List S)|rt (s:S) (e:List S)|bk (e:List S)|ct (e:List S)|ex (c:Value) (e:List S)|no
section
variable(K:Fg)(Z:Zt)(EE:L2.St->XK)
abbrev XH(σ:St)(G:Hp):Value->List S->Prop:=fun c e'=>∀G' H',Rel K Z G' σ H' e'->Same G G'->EE σ c none H'
def liftE(d:Den W):TE:=fun σ H Q=>AtG K Z σ H fun G e=>(d e).holds (fun w e'=>∀G' v H',Rel K Z G' σ H' e'->Same G G'->Rep K G' w v->Q v H') (XH K Z EE σ G)
def liftA(d:Den (List W)):TA:=fun σ H Q=>AtG K Z σ H fun G e=>(d e).holds (fun ws e'=>∀G' vs H',Rel K Z G' σ H' e'->Same G G'->Reps K G' ws vs->Q vs H') (XH K Z EE σ G)
def liftT(d:Den Bool):TT:=fun σ H Q=>AtG K Z σ H fun G e=>(d e).holds (fun b e'=>∀G' H',Rel K Z G' σ H' e'->Same G G'->Q b H') (XH K Z EE σ G)
def liftF(d:Den (List W)):TE:=fun σ H Q=>AtG K Z σ H fun G e=>(d e).holds (fun ws e'=>∀G' a xs H',Rel K Z G' σ H' e'->Same G G'->H' a=some (.lst xs)->G' a=none->Z.H a=none->Free σ e' a->Reps K G' ws xs->Q (.ref a) H') (XH K Z EE σ G)
def PostS(D:Ends)(G:Hp):SR->Prop
 |.nx e'=>∀G' σ' H',Rel K Z G' σ' H' e'->Same G G'->D.nx σ' H'
 |.bk e'=>∀G' σ' H',Rel K Z G' σ' H' e'->Same G G'->D.bk σ' H'
 |.ct e'=>∀G' σ' H',Rel K Z G' σ' H' e'->Same G G'->D.ct σ' H'
 |.rt s e'=>∀G' σ' v H',Rel K Z G' σ' H' e'->Same G G'->SlotOk K Z G' H' s (some v)->D.rt v H'
 |.ex c e'=>∀G' σ' H',Rel K Z G' σ' H' e'->Same G G'->EE σ' c none H'
 |.no=>False
def liftS(d:List S->SR):TS:=fun D σ H=>AtG K Z σ H fun G e=>PostS K Z EE D G (d e)
end
section
variable(Z:Zt)(X:Cx)(EE:L2.St->XK)
def DE(e:Expr)(d:Den W):Prop:=PE X e (liftE X.K Z EE d)
def DF(e:Expr)(d:Den (List W)):Prop:=PE X e (liftF X.K Z EE d)
def DT(e:Expr)(d:Den Bool):Prop:=PT X e (liftT X.K Z EE d)
def DW(e:Expr)(d:Den Bool):Prop:=PW X e (liftT X.K Z EE d)
def DA(es:List Expr)(d:Den (List W)):Prop:=PA X es (liftA X.K Z EE d)
def DS(st:Stmt)(d:List S->SR):Prop:=PS X st (liftS X.K Z EE d)
def DSs(sts:List Stmt)(d:List S->SR):Prop:=PSs X sts (liftS X.K Z EE d)
end
theorem PE.mono{e:Expr}{t t':TE}(h:PE X e t)(i:∀σ H Q,t' σ H Q->t σ H Q):PE X e t':=fun pins s σ H Q I q=>h pins s σ H Q I (i σ H Q q)
theorem PT.mono{e:Expr}{t t':TT}(h:PT X e t)(i:∀σ H Q,t' σ H Q->t σ H Q):PT X e t':=fun pins s σ H Q I q=>h pins s σ H Q I (i σ H Q q)
theorem PW.mono{e:Expr}{t t':TT}(h:PW X e t)(i:∀σ H Q,t' σ H Q->t σ H Q):PW X e t':=fun wh pins s σ H Q I q=>h wh pins s σ H Q I (i σ H Q q)
theorem PA.mono{t t':TA}(h:PA X es t)(i:∀σ H Q,t' σ H Q->t σ H Q):PA X es t':=fun p pins s σ H Q I q=>h p pins s σ H Q I (i σ H Q q)
theorem PS.mono{t t':TS}(h:PS X st t)(i:∀D σ H,t' D σ H->t D σ H):PS X st t':=fun pins s σ H D I q=>h pins s σ H D I (i D σ H q)
theorem PSs.mono{st:List Stmt}{t t':TS}(h:PSs X st t)(i:∀D σ H,t' D σ H->t D σ H):PSs X st t':=fun pins s σ H D I q=>h pins s σ H D I (i D σ H q)
section
variable(K:Fg)
def Op2(r:R2)(f:W->W->Option W):Prop:=∀(G H:Hp)(x y:V)(wx wy w:W)(Q:VK),Same G H->Rep K G wx x->Rep K G wy y->f wx wy=some w->(∀G' v H',Grow G H G' H'->Rep K G' w v->Q v H')->r x y H Q
def Op1(r:V->Hp->VK->Prop)(f:W->Option W):Prop:=∀(G H:Hp)(x:V)(wx w:W)(Q:VK),Same G H->Rep K G wx x->f wx=some w->(∀G' v H',Grow G H G' H'->Rep K G' w v->Q v H')->r x H Q
def OpN(r:List V->Hp->VK->Prop)(f:List W->Option W):Prop:=∀(G H:Hp)(xs:List V)(ws:List W)(w:W)(Q:VK),Same G H->Reps K G ws xs->f ws=some w->(∀G' v H',Grow G H G' H'->Rep K G' w v->Q v H')->r xs H Q
end
def dC(w:W):Den W:=fun e=>.ok w e
def dVar(i:Nat):Den W:=fun e=>match e[i]? with
 |some (.fr w)=>.ok w e
 |some (.own none ws)=>.ok (.lst ws) (e.set i (.fr (.lst ws)))
 |some (.x k)=>match k.plain with
  |some w=>.ok w e
  |none=>.no
 |_=>.no
def dOp(f:W->W->Option W)(da db:Den W):Den W:=fun e=>(da e).bind fun x e1=>(db e1).bind fun y e2=>ofOpt (f x y) e2
def dUn(f:W->Option W)(da:Den W):Den W:=fun e=>(da e).bind fun x e1=>ofOpt (f x) e1
def dTest(da:Den W):Den Bool:=fun e=>(da e).bind fun x e1=>match x with
 |.bl k=>.ok k e1
 |_=>.no
def truW:W->Option Bool
 |.non=>some false
 |.bl b=>some b
 |.int i=>some (i != 0)
 |.str x=>if x.length<=16777216 then some ((x.length:Int) != 0)else none
 |.tup xs=>some (!xs.isEmpty)
 |.lst xs=>some (!xs.isEmpty)
 |.exc _=>none
 |.dic _=>none
 |.dw _ _ _ _=>none
 |.fn _ _ _=>none
def dTru(da:Den W):Den Bool:=fun e=>(da e).bind fun x e1=>ofOpt (truW x) e1
def dAnd(a b:Den Bool):Den Bool:=fun e=>(a e).bind fun x e1=>if x=true then b e1 else .ok false e1
def dOr(a b:Den Bool):Den Bool:=fun e=>(a e).bind fun x e1=>if x=true then .ok true e1 else b e1
def dNot(a:Den Bool):Den Bool:=fun e=>(a e).bind fun x e1=>.ok (!x) e1
def dAndV(a b:Den W):Den W:=fun e=>(a e).bind fun x e1=>match x with
 |.bl true=>b e1
 |.bl false=>.ok (.bl false) e1
 |_=>.no
def dOrV(a b:Den W):Den W:=fun e=>(a e).bind fun x e1=>match x with
 |.bl true=>.ok (.bl true) e1
 |.bl false=>b e1
 |_=>.no
def dNotV(a:Den W):Den W:=fun e=>(a e).bind fun x e1=>match x with
 |.bl k=>.ok (.bl (!k)) e1
 |_=>.no
def dNil:Den (List W):=fun e=>.ok [] e
def dCons(a:Den W)(r:Den (List W)):Den (List W):=fun e=>(a e).bind fun x e1=>(r e1).bind fun xs e2=>.ok (x::xs) e2
def dTup(a:Den (List W)):Den W:=fun e=>(a e).bind fun xs e1=>if xs.length<=16777216 then .ok (.tup xs) e1 else .no
def dLst(a:Den (List W)):Den (List W):=fun e=>(a e).bind fun xs e1=>if xs.length<=16777216 then .ok xs e1 else .no
def dFz(a:Den (List W)):Den W:=fun e=>(a e).bind fun xs e1=>.ok (.lst xs) e1
def dFn(f:List W->Option W)(a:Den (List W)):Den W:=fun e=>(a e).bind fun xs e1=>ofOpt (f xs) e1
section
variable{a b c e:Expr}{da db:Den W}{dc ta tb:Den Bool}
theorem XH.trans(s:Same G G1){c:Value}{e:List S}(h:XH K Z EE σ G c e):XH K Z EE σ G1 c e:=fun G' H' r q=>h G' H' r (s.trans q)
theorem q0d{i:Int}{j pos}:DE Z X EE (.Constant (.int i) j pos) (dC (.int i)):=PE.mono q8x fun σ H Q ⟨G,e,r,h⟩=>h G (.int i) H r (.refl _) rfl
theorem q3n{i:Bool}{j pos}:DE Z X EE (.Constant (.bool i) j pos) (dC (.bl i)):=PE.mono z2g fun σ H Q ⟨G,e,r,h⟩=>h G (.bl i) H r (.refl _) rfl
theorem q66{j pos}:DE Z X EE (.Constant .none j pos) (dC .non):=PE.mono y8d fun σ H Q ⟨G,e,r,h⟩=>h G .non H r (.refl _) rfl
theorem x2d:∀σ H Q,liftE K Z EE (dVar i) σ H Q->tVar i σ H Q:=by
 rintro σ H Q ⟨G,e,r,h⟩;unfold dVar at h;split at h
 ·rename_i w hw;obtain⟨v,h1,h2⟩:=r.fr hw;exact⟨v,h1,h G v H r (.refl _) h2⟩
 ·rename_i ws hw;obtain⟨v,G',h1,h2,h3,h4⟩:=r.freeze hw;exact⟨v,h1,h G' v H h4 h2 h3⟩
 ·rename_i k hw;cases q:k.plain with
  |some w=>
   rw[q]at h;obtain⟨v,h1,h2⟩:=r.plain hw q;exact⟨v,h1,h G v H r (.refl _) h2⟩
  |none=>rw[q]at h;exact h.elim
 ·exact h.elim
theorem dv(i:Nat)(hN:X.N[i]?=some x:=by rfl)(hv:Vis X.env.scope x:=by walk_at "1")(hd:(x==("__debug__":Str))=false:=by decide)
  (hcd:(x==("__classdict__":Str))=false:=by decide):DE Z X EE (.Name x pos) (dVar i):=PE.mono (pv i hN hv hd hcd) x2d
theorem q32{r:R2}(hf:Op2 K r f):∀σ H Q,liftE K Z EE (dOp f da db) σ H Q->tOp r (liftE K Z EE da) (liftE K Z EE db) σ H Q:=by
 rintro σ H Q ⟨G,e,rel,h⟩;simp only[dOp,R.holds_bind,ofOpt_holds]at h;refine⟨G,e,rel,h.imp (fun x e1 h G1 v1 H1 r1 s1 p1=>?_) fun _ _ h=>h⟩
 refine⟨G1,e1,r1,h.imp (fun y e2 h G2 v2 H2 r2 s2 p2=>?_) fun _ _ h=>XH.trans s1 h⟩
 obtain⟨w,hw,h⟩:=h;exact hf G2 H2 v1 v2 x y w Q r2.sub (Rep.mono s2 x p1) p2 hw fun G' v H' g p=>h G' v H' (r2.grow g) ((s1.trans s2).trans g.gg) p
theorem q7r{op:Operator}{r:R2}(ho:OpR X (binaryOp op) r)(hf:Op2 X.K r f)(ha:DE Z X EE a da)(hb:DE Z X EE b db):DE Z X EE (.BinOp a op b pos) (dOp f da db):=PE.mono (x5l ho ha hb) (q32 hf)
theorem q58{op:CmpOp}{r:R2}(ho:OpR X (compareOp op) r)(hf:Op2 X.K r f)(ha:DE Z X EE a da)(hb:DE Z X EE b db)(hm:behindInMarks op b=false):DE Z X EE (.Compare a [op] [b] pos) (dOp f da db):=PE.mono (y4i ho ha hb hm) (q32 hf)
theorem q67{Q:Bool->Hp->Prop}(h:liftT K Z EE (dTest da) σ H Q):liftE K Z EE da σ H (fun x H'=>∃k,x=.bl k/\Q k H'):=by
 obtain⟨G,e,rel,h⟩:=h;simp only[dTest,R.holds_bind]at h;refine⟨G,e,rel,h.imp (fun x e1 h G1 v1 H1 r1 s1 p1=>?_) fun _ _ h=>h⟩
 cases x with
 |bl k=>
  cases(show v1=V.bl k from p1);exact⟨k,rfl,h G1 H1 r1 s1⟩
 |_=>exact h.elim
theorem q5o{op:CmpOp}{r:R2}(ho:OpR X (compareOp op) r)(hf:Op2 X.K r f)(ha:DE Z X EE a da)(hb:DE Z X EE b db)(hm:behindInMarks op b=false):DT Z X EE (.Compare a [op] [b] pos) (dTest (dOp f da db)):=
 PT.mono (y4j ho ha hb hm) fun σ H Q h=>q32 hf σ H _ (q67 h)
theorem y4v{r:V->Hp->VK->Prop}{f:W->Option W}(hf:Op1 K r f):∀σ H Q,liftE K Z EE (dUn f da) σ H Q->tUn r (liftE K Z EE da) σ H Q:=by
 rintro σ H Q ⟨G,e,rel,h⟩;simp only[dUn,R.holds_bind,ofOpt_holds]at h;refine⟨G,e,rel,h.imp (fun x e1 h G1 v1 H1 r1 s1 p1=>?_) fun _ _ h=>h⟩
 obtain⟨w,hw,h⟩:=h;exact hf G1 H1 v1 x w Q r1.sub p1 hw fun G' v H' g p=>h G' v H' (r1.grow g) (s1.trans g.gg) p
theorem z2m{op:UnaryOp}{r:V->Hp->VK->Prop}{f:W->Option W}(ho:UnR X (unaryOp op) r)(hf:Op1 X.K r f)(ha:DE Z X EE a da):DE Z X EE (.UnaryOp op a pos) (dUn f da):=PE.mono (z2k ho ha) (y4v hf)
theorem y8w(s:Same G H){k:Bool}(h:Rep K G w v)(e:truW w=some k):TruV K v H k:=by
 cases w with
 |non=>cases(show v=.non from h);cases e;rfl
 |bl b=>cases(show v=.bl b from h);cases e;rfl
 |int i=>cases(show v=.int i from h);cases e;rfl
 |str x=>
  cases(show v=.str x from h);simp only[truW]at e;split at e
  ·cases e;exact⟨by rw[sizeLine_eq];assumption,rfl⟩
  ·cases e
 |tup ws=>
  obtain⟨p,xs,rfl,q,r⟩:=h;cases e;refine .inr (.inl ⟨xs,s.tup q,?_⟩);have:=r.length;cases ws<;>cases xs<;>simp_all
 |lst ws=>
  obtain⟨p,xs,rfl,q,r⟩:=h;cases e;refine .inl ⟨xs,s.seq q,?_⟩;have:=r.length;cases ws<;>cases xs<;>simp_all
 |exc _=>cases e
 |dic _=>cases e
 |dw _ _ _ _=>cases e
 |fn _ _ _=>cases e
theorem q68(ha:DE Z X EE a da)(he:∀whole,isTrue a X.env whole=(do let v <- whole;standAt a.pos;holding [v] (truthy v)):=by intro _;rfl):DT Z X EE a (dTru da):=by
 refine PT.mono (x92 ha he) ?_;rintro σ H Q ⟨G,e,rel,h⟩;simp only[dTru,R.holds_bind,ofOpt_holds]at h;refine⟨G,e,rel,h.imp (fun x e1 h G1 v1 H1 r1 s1 p1=>?_) fun _ _ h=>h⟩
 obtain⟨k,hk,h⟩:=h;exact⟨k,y8w r1.sub p1 hk,h G1 H1 r1 s1⟩
theorem x99:∀σ H Q,liftT K Z EE (dAnd ta tb) σ H Q->tAnd (liftT K Z EE ta) (liftT K Z EE tb) σ H Q:=by
 rintro σ H Q ⟨G,e,rel,h⟩;simp only[dAnd,R.holds_bind]at h;refine⟨G,e,rel,h.imp (fun x e1 h G1 H1 r1 s1=>?_) fun _ _ h=>h⟩
 cases x with
 |true=>exact⟨G1,e1,r1,R.holds.imp (show(tb e1).holds _ _ from h) (fun y e2 h G2 H2 r2 s2=>h G2 H2 r2 (s1.trans s2)) fun _ _ h=>XH.trans s1 h⟩
 |false=>exact(show ∀G' H',_->_->Q false H' from h) G1 H1 r1 s1
theorem y4w:∀σ H Q,liftT K Z EE (dOr ta tb) σ H Q->tOr (liftT K Z EE ta) (liftT K Z EE tb) σ H Q:=by
 rintro σ H Q ⟨G,e,rel,h⟩;simp only[dOr,R.holds_bind]at h;refine⟨G,e,rel,h.imp (fun x e1 h G1 H1 r1 s1=>?_) fun _ _ h=>h⟩
 cases x with
 |false=>exact⟨G1,e1,r1,R.holds.imp (show(tb e1).holds _ _ from h) (fun y e2 h G2 H2 r2 s2=>h G2 H2 r2 (s1.trans s2)) fun _ _ h=>XH.trans s1 h⟩
 |true=>exact(show ∀G' H',_->_->Q true H' from h) G1 H1 r1 s1
theorem y4x(ha:DT Z X EE a ta):DW Z X EE (.BoolOp .And [a] pos) ta:=y4c ha
theorem q69(ha:DT Z X EE a ta):DW Z X EE (.BoolOp .Or [a] pos) ta:=y8e ha
theorem x62{rest:List Expr}(ha:DT Z X EE a ta)(hb:DW Z X EE (.BoolOp .And (b::rest) pos) tb):DW Z X EE (.BoolOp .And (a::b::rest) pos) (dAnd ta tb):=PW.mono (y8f ha hb) x99
theorem q6k{rest:List Expr}(ha:DT Z X EE a ta)(hb:DW Z X EE (.BoolOp .Or (b::rest) pos) tb):DW Z X EE (.BoolOp .Or (a::b::rest) pos) (dOr ta tb):=PW.mono (z2h ha hb) y4w
theorem dt_w(h:DW Z X EE a ta):DT Z X EE a ta:=PW.pt h
theorem q7a(ha:DT Z X EE a ta):DT Z X EE (.UnaryOp .Not a pos) (dNot ta):=by
 refine PT.mono (y8g ha) ?_;rintro σ H Q ⟨G,e,rel,h⟩;simp only[dNot,R.holds_bind]at h;exact⟨G,e,rel,h.imp (fun x e1 h G1 H1 r1 s1=>h G1 H1 r1 s1) fun _ _ h=>h⟩
theorem x63{op}(h:DE Z X EE a da):DE Z X EE (.BoolOp op [a] pos) da:=y8h h
theorem y8x{rest:List Expr}(ha:DE Z X EE a da)(hb:DE Z X EE (.BoolOp .And (b::rest) pos) db):DE Z X EE (.BoolOp .And (a::b::rest) pos) (dAndV da db):=by
 refine PE.mono (y8i ha hb) ?_;rintro σ H Q ⟨G,e,rel,h⟩;simp only[dAndV,R.holds_bind]at h;refine⟨G,e,rel,h.imp (fun x e1 h G1 v1 H1 r1 s1 p1=>?_) fun _ _ h=>h⟩
 cases x with
 |bl k=>
  cases(show v1=V.bl k from p1);cases k with
  |true=>exact⟨true,rfl,⟨G1,e1,r1,R.holds.imp (show(db e1).holds _ _ from h) (fun y e2 h G2 v2 H2 r2 s2 p2=>h G2 v2 H2 r2 (s1.trans s2) p2) fun _ _ h=>XH.trans s1 h⟩⟩
  |false=>exact⟨false,rfl,(show ∀G' v H',_->_->v=V.bl false->Q v H' from h) G1 _ H1 r1 s1 rfl⟩
 |_=>exact h.elim
theorem z2n{rest:List Expr}(ha:DE Z X EE a da)(hb:DE Z X EE (.BoolOp .Or (b::rest) pos) db):DE Z X EE (.BoolOp .Or (a::b::rest) pos) (dOrV da db):=by
 refine PE.mono (z2i ha hb) ?_;rintro σ H Q ⟨G,e,rel,h⟩;simp only[dOrV,R.holds_bind]at h;refine⟨G,e,rel,h.imp (fun x e1 h G1 v1 H1 r1 s1 p1=>?_) fun _ _ h=>h⟩
 cases x with
 |bl k=>
  cases(show v1=V.bl k from p1);cases k with
  |false=>exact⟨false,rfl,⟨G1,e1,r1,R.holds.imp (show(db e1).holds _ _ from h) (fun y e2 h G2 v2 H2 r2 s2 p2=>h G2 v2 H2 r2 (s1.trans s2) p2) fun _ _ h=>XH.trans s1 h⟩⟩
  |true=>exact⟨true,rfl,(show ∀G' v H',_->_->v=V.bl true->Q v H' from h) G1 _ H1 r1 s1 rfl⟩
 |_=>exact h.elim
theorem y8y(ha:DE Z X EE a da):DE Z X EE (.UnaryOp .Not a pos) (dNotV da):=by
 refine PE.mono (y8j ha) ?_;rintro σ H Q ⟨G,e,rel,h⟩;simp only[dNotV,R.holds_bind]at h;refine⟨G,e,rel,h.imp (fun x e1 h G1 v1 H1 r1 s1 p1=>?_) fun _ _ h=>h⟩
 cases x with
 |bl k=>
  cases(show v1=V.bl k from p1);exact⟨k,rfl,(show ∀G' v H',_->_->v=V.bl (!k)->Q v H' from h) G1 _ H1 r1 s1 rfl⟩
 |_=>exact h.elim
theorem q0c:DA Z X EE [] dNil:=PA.mono q5k fun σ H Q ⟨G,e,r,h⟩=>h G [] H r (.refl _) rfl
theorem q0a(ha:DE Z X EE e da)(hr:DA Z X EE es dA)(hs:starEach (e::es) X.env=(false,eval e X.env)::starEach es X.env:=by rfl):DA Z X EE (e::es) (dCons da dA):=by
 refine PA.mono (q2u ha hr hs) ?_;rintro σ H Q ⟨G,e,rel,h⟩;simp only[dCons,R.holds_bind]at h;refine⟨G,e,rel,h.imp (fun x e1 h G1 v1 H1 r1 s1 p1=>?_) fun _ _ h=>h⟩
 refine⟨G1,e1,r1,h.imp (fun xs e2 h G2 vs H2 r2 s2 p2=>?_) fun _ _ h=>XH.trans s1 h⟩
 exact h G2 (v1::vs) H2 r2 (s1.trans s2) ⟨v1,vs,rfl,Rep.mono s2 x p1,p2⟩
theorem q3j{x1}(h:DA Z X EE es dA):DE Z X EE (.Tuple es x1 pos) (dTup dA):=by
 refine PE.mono (x16 h) ?_;rintro σ H Q ⟨G,e,rel,h⟩;simp only[dTup,R.holds_bind]at h;refine⟨G,e,rel,h.imp (fun ws e1 h G1 vs H1 r1 s1 p1=>?_) fun _ _ h=>h⟩
 split at h
 ·rename_i hl;refine⟨by rw[p1.length,sizeLine_eq];exact hl,fun p hp=>?_⟩
  have g:=Grow.laid r1.sub hp (.tup vs);exact(show ∀G' v H',_->_->Rep X.K G' (.tup ws) v->Q v H' from h) _ (.ref p) _ (r1.grow g) (s1.trans g.gg) ⟨p,vs,rfl,SqT.of q0f,Reps.mono g.gg ws p1⟩
 ·exact h.elim
theorem q4m{e:List S}(r:Rel K Z G σ H e){p:Addr}(hp:H p=none):Free σ e p:=fun j b ws h q=>by
 obtain⟨a,xs,h1,h2,_⟩:=r.own h;rw[q]at h1;cases h1;rw[hp]at h2;cases h2
theorem q1y{e:List S}(r:Rel K Z G σ H e){p:Addr}(hp:H p=none):Z.H p=none:=by
 cases q:Z.H p with
 |none=>rfl
 |some o=>
  by_cases hi:p∈Z.io
  ·exact absurd hp (r.ion p hi)
  ·rw[r.ent p o q hi]at hp;cases hp
theorem q3v{e:List S}{Q:VK}{G0:Hp}(r:Rel K Z G σ H e)(s:Same G0 G)(p1:Reps K G ws vs)
  (h:∀G' a xs H',Rel K Z G' σ H' e->Same G0 G'->H' a=some (.lst xs)->G' a=none->Z.H a=none->Free σ e a->Reps K G' ws xs->Q (.ref a) H'):∀p,H p=none->Q (.ref p) (upd H p (.lst vs)):=fun p hp=>by
 have g:=Grow.hid r.sub hp (.lst vs);exact h G p vs _ (r.grow g) s q0f (r.sub.free hp) (q1y r hp) (q4m r hp) p1
theorem q01(h:DA Z X EE es dA):DF Z X EE (.List es pos) (dLst dA):=by
 refine PE.mono (y8q h) ?_;rintro σ H Q ⟨G,e,rel,h⟩;simp only[dLst,R.holds_bind]at h;refine⟨G,e,rel,h.imp (fun ws e1 h G1 vs H1 r1 s1 p1=>?_) fun _ _ h=>h⟩
 split at h
 ·rename_i hl;exact⟨by rw[p1.length,sizeLine_eq];exact hl,q3v r1 s1 p1 h⟩
 ·exact h.elim
theorem Rel.seen{e:List S}(r:Rel K Z G σ H e){a:Addr}(h:H a=some (.lst xs))(hg:G a=none)(hz:Z.H a=none)(hf:Free σ e a):Same G (upd G a (.lst xs))/\Rel K Z (upd G a (.lst xs)) σ H e:=by
 have sg:Same G (upd G a (.lst xs)):=q23 hg _;refine⟨sg,⟨fun c o z=>?_,fun j s z=>?_,r.len,r.dis,r.ent,r.ion,fun c z=>?_⟩⟩
 ·by_cases hc:c=a
  ·subst hc;rw[q0f]at z;cases z;exact h
  ·rw[q0b hc]at z;exact r.sub c o z
 ·have y:=r.slot j s z;cases s with
  |no=>trivial
  |fr w=>
   obtain⟨u,y1,y2⟩:=y;exact⟨u,y1,Rep.mono sg w y2⟩
  |own b2 w2=>
   obtain⟨c,ys,y1,y2,y3,y4,y5⟩:=y;refine⟨c,ys,y1,y2,?_,y4,Reps.mono sg w2 y5⟩;rw[q0b];exact y3;rintro rfl;obtain⟨c',_,z1,_⟩:=r.own z;rw[z1]at y1;cases y1;exact hf j b2 w2 z z1
  |dic kvs=>
   obtain⟨c,y1,y2,y3,y4⟩:=y;refine⟨c,y1,y2,?_,y4⟩;rw[q0b (q0o y2 h (q2l rfl))];exact y3
  |thr us w2 vs=>
   obtain⟨t,l,o,xs2,ys,zs,y1,y2,y3,y4,y5,y6,y7,y8⟩:=y;refine⟨t,l,o,xs2,ys,zs,y1,sg _ _ y2,y3,?_,y5,Reps.mono sg us y6,Reps.mono sg w2 y7,Reps.mono sg vs y8⟩;rw[q0b (q0o y3 h (fun z=>nomatch z))];exact y4
  |nest wss=>exact NestOk.move y sg fun l o ys k1 k2 k3=>⟨k1,by rw[q0b (q0o k1 h (fun z=>nomatch z))];exact k2,k3⟩
  |x k=>exact XOk.move y sg fun l o ys k1 k2 k3=>⟨k1,by rw[q0b (q0o k1 h (fun z=>nomatch z))];exact k2,k3⟩
  |dw sh ks ws=>exact DwOk.move y sg fun l o ys k1 k2 k3=>⟨k1,by rw[q0b (q0o k1 h (q18 rfl))];exact k2,k3⟩
 ·by_cases hc:c=a
  ·subst hc;exact absurd hz z
  ·rw[q0b hc];exact r.gen c z
theorem q1r(h:DF Z X EE e dA):DE Z X EE e (dFz dA):=by
 refine PE.mono h ?_;rintro σ H Q ⟨G,e,rel,h⟩;simp only[dFz,R.holds_bind]at h;refine⟨G,e,rel,h.imp (fun ws e1 h G1 a xs H1 r1 s1 q1 q2 q3 q4 p1=>?_) fun _ _ h=>h⟩
 obtain⟨sg,rg⟩:=r1.seen q1 q2 q3 q4;exact(show ∀G' v H',_->_->Rep X.K G' (.lst ws) v->Q v H' from h) _ (.ref a) _ rg (s1.trans sg) ⟨a,xs,rfl,SqL.of q0f,Reps.mono sg ws p1⟩
theorem x4h{f:List W->Option W}(hf:OpN K r f):∀σ H Q,liftE K Z EE (dFn f dA) σ H Q->tCB r (liftA K Z EE dA) σ H Q:=by
 rintro σ H Q ⟨G,e,rel,h⟩;simp only[dFn,R.holds_bind,ofOpt_holds]at h;refine⟨G,e,rel,h.imp (fun ws e1 h G1 vs H1 r1 s1 p1=>?_) fun _ _ h=>h⟩
 obtain⟨w,hw,h⟩:=h;exact hf G1 H1 vs ws w Q r1.sub p1 hw fun G' v H' g p=>h G' v H' (r1.grow g) (s1.trans g.gg) p
theorem q59{id:String}{f:List W->Option W}(hc:CallR X (.builtin id) r)(hf:OpN X.K r f)(hv:bootBuiltins x=some (.builtin id))(hm:X.mg x=none)(ha:DA Z X EE (e::es) dA)(hg:Gl X x:=by rfl)(hn:x≠"__name__":=by decide)(hdb:(x==("__debug__":Str))=false:=by decide)
  (he:starEach (e::es) X.env=(false,eval e X.env)::starEach es X.env:=by rfl)(hpl:(backTo pos (starEach es X.env)).any (·.1)=false:=by rfl):DE Z X EE (.Call (.Name x p) (e::es) [] pos) (dFn f dA):=
 PE.mono (x18 hc hg hm hv ha hn hdb he hpl) (x4h hf)
theorem x64{T:String}{f:List W->Option W}(hc:CallR X (.type T) r)(hf:OpN X.K r f)(hv:bootBuiltins x=some (.type T))(hm:X.mg x=none)(ha:DA Z X EE (e::es) dA)(hg:Gl X x:=by rfl)(hn:x≠"__name__":=by decide)(hdb:(x==("__debug__":Str))=false:=by decide)
  (he:starEach (e::es) X.env=(false,eval e X.env)::starEach es X.env:=by rfl)(hpl:(backTo pos (starEach es X.env)).any (·.1)=false:=by rfl):DE Z X EE (.Call (.Name x p) (e::es) [] pos) (dFn f dA):=
 PE.mono (x0u hc hg hm hv ha hn hdb he hpl) (x4h hf)
end
def dNx:List S->SR:=fun e=>.nx e
def dSeq(a b:List S->SR):List S->SR:=fun e=>match a e with
 |.nx e'=>b e'
 |r=>r
def R.stm(r:R α)(k:α->List S->SR):SR:=match r with
 |.ok a e=>k a e
 |.ex c e=>.ex c e
 |.no=>.no
def dDrop(d:Den W):List S->SR:=fun e=>(d e).stm fun _ e'=>.nx e'
def dRet(d:Den W):List S->SR:=fun e=>(d e).stm fun w e'=>.rt (.fr w) e'
def dRetF(d:Den (List W)):List S->SR:=fun e=>(d e).stm fun ws e'=>.rt (.own none ws) e'
def dRetO(i:Nat):List S->SR:=fun e=>match e[i]? with
 |some (.own none ws)=>.rt (.own none ws) e
 |some (.fr w)=>.rt (.fr w) e
 |_=>.no
def dIfS(c:Den Bool)(a b:List S->SR):List S->SR:=fun e=>(c e).stm fun x e1=>if x=true then a e1 else b e1
def dSet(i:Nat)(d:Den W):List S->SR:=fun e=>(d e).stm fun w e'=>.nx (e'.set i (.fr w))
def dSetO(i:Nat)(d:Den (List W)):List S->SR:=fun e=>(d e).stm fun ws e'=>.nx (e'.set i (.own none ws))
def forD(i:Nat)(b:List S->SR):List W->List S->SR
 |[],e=>.nx e
 |w::ws,e=>match b (e.set i (.fr w))with
  |.nx e'=>forD i b ws e'
  |.ct e'=>forD i b ws e'
  |.bk e'=>.nx e'
  |.rt s e'=>.rt s e'
  |.ex c e'=>.ex c e'
  |.no=>.no
def whileD(c:Den Bool)(b:List S->SR):Nat->List S->SR
 |0,_=>.no
 |n+1,e=>(c e).stm fun x e1=>if x=true then(match b e1 with
  |.nx e'=>whileD c b n e'
  |.ct e'=>whileD c b n e'
  |.bk e'=>.nx e'
  |.rt s e'=>.rt s e'
  |.ex c e'=>.ex c e'
  |.no=>.no)else .nx e1
def seqW:W->Option (List W)
 |.tup ws=>some ws
 |.lst ws=>some ws
 |_=>none
def dFor(i:Nat)(d:Den W)(b:List S->SR):List S->SR:=fun e=>(d e).stm fun w e1=>match seqW w with
 |some ws=>forD i b ws e1
 |none=>.no
def rangeW(lo hi:Int):List W:=(List.range (hi-lo).toNat).map fun k=>.int (lo+(k:Nat))
def okI(j:Int):Bool:=Nat.ble j.natAbs 4611686018427387903
theorem q6a{j:Int}(h:okI j=true):-(2^62)<=j/\j<2^62:=by
 have z:j.natAbs<=4611686018427387903:=Nat.le_of_ble_eq_true h;have e:(2:Int)^62=4611686018427387904:=by decide
 rw[e];omega
theorem q2t{j:Int}(h1:-1000000000<=j)(h2:j<=1000000000):okI j=true:=Nat.ble_eq_true_of_le (by omega)
def rng1:List W->Option (List W)
 |[.int j]=>if okI j=true then some (rangeW 0 j)else none
 |_=>none
def rng2:List W->Option (List W)
 |[.int i,.int j]=>if okI i=true/\okI j=true then some (rangeW i j)else none
 |_=>none
def dForR(i:Nat)(g:List W->Option (List W))(d:Den (List W))(b:List S->SR):List S->SR:=fun e=>(d e).stm fun w e1=>match g w with
 |some ws=>forD i b ws e1
 |none=>.no
section
variable{a c e tg:Expr}{rest body:List Stmt}{d:Den W}{dc:Den Bool}{s1 s2:List S->SR}
theorem PostS.trans{D:Ends}(s:Same G G1):∀{r:SR},PostS K Z EE D G r->PostS K Z EE D G1 r
 |.nx e',h=>fun G' σ' H' r q=>h G' σ' H' r (s.trans q)
 |.bk e',h=>fun G' σ' H' r q=>h G' σ' H' r (s.trans q)
 |.ct e',h=>fun G' σ' H' r q=>h G' σ' H' r (s.trans q)
 |.rt w e',h=>fun G' σ' v H' r q=>h G' σ' v H' r (s.trans q)
 |.ex c e',h=>fun G' σ' H' r q=>h G' σ' H' r (s.trans q)
 |.no,h=>h
theorem q0r{D:Ends}{r:R α}{k:α->List S->SR}(h:PostS K Z EE D G (r.stm k)):r.holds (fun a e'=>PostS K Z EE D G (k a e')) (XH K Z EE σ G):=by
 cases r with
 |ok a e=>exact h
 |ex c e=>exact fun G' H' r q=>h G' σ H' r q
 |no=>exact h
theorem q0u:DSs Z X EE [] dNx:=PSs.mono y4d fun D σ H ⟨G,e,r,h⟩=>h G σ H r (.refl _)
theorem y0a:∀D σ H,liftS K Z EE (dSeq s1 s2) D σ H->tSeq (liftS K Z EE s1) (liftS K Z EE s2) D σ H:=by
 rintro D σ H ⟨G,e,rel,h⟩;refine⟨G,e,rel,?_⟩;unfold dSeq at h;cases q:s1 e with
 |nx e'=>rw[q]at h;exact fun G' σ' H' r s=>⟨G',e',r,PostS.trans s h⟩
 |bk e'=>rw[q]at h;exact h
 |ct e'=>rw[q]at h;exact h
 |rt w e'=>rw[q]at h;exact h
 |ex c e'=>rw[q]at h;exact h
 |no=>rw[q]at h;exact h
theorem q0e(h1:DS Z X EE st s1)(h2:DSs Z X EE rest s2):DSs Z X EE (st::rest) (dSeq s1 s2):=PSs.mono (x9y h1 h2) y0a
theorem q0g(h1:DS Z X EE st s1):DSs Z X EE [st] s1:=y4e h1
theorem q9v(he:DE Z X EE e d)(hs:swapsWith e none pos.line X.env=pure false:=by rfl):DS Z X EE (.Expr e pos) (dDrop d):=by
 refine PS.mono (q7p he hs) ?_;rintro D σ H ⟨G,e,rel,h⟩;exact⟨G,e,rel,(q0r h).imp (fun w e1 h G1 v1 H1 r1 s1 p1=>h G1 σ H1 r1 s1) fun _ _ h=>h⟩
theorem q0z(he:DE Z X EE e d):DS Z X EE (.Return (some e) pos) (dRet d):=by
 refine PS.mono (q60 he) ?_;rintro D σ H ⟨G,e,rel,h⟩;exact⟨G,e,rel,(q0r h).imp (fun w e1 h G1 v1 H1 r1 s1 p1=>h G1 σ v1 H1 r1 s1 ⟨v1,rfl,p1⟩) fun _ _ h=>h⟩
theorem y4y(he:DF Z X EE e dA):DS Z X EE (.Return (some e) pos) (dRetF dA):=by
 refine PS.mono (q60 he) ?_;rintro D σ H ⟨G,e,rel,h⟩;exact⟨G,e,rel,(q0r h).imp (fun w e1 h G1 a xs H1 r1 s1 q1 q2 q3 q4 p1=>h G1 σ (.ref a) H1 r1 s1 ⟨a,xs,rfl,q1,q2,q3,p1⟩) fun _ _ h=>h⟩
theorem q9w(i:Nat)(hN:X.N[i]?=some x:=by rfl)(hv:Vis X.env.scope x:=by walk_at "1")(hd:(x==("__debug__":Str))=false:=by decide)
  (hcd:(x==("__classdict__":Str))=false:=by decide):DS Z X EE (.Return (some (.Name x p)) pos) (dRetO i):=by
 refine PS.mono (q60 (pv i hN hv hd hcd)) ?_;rintro D σ H ⟨G,e,rel,h⟩;unfold dRetO at h;split at h
 ·rename_i ws hw;obtain⟨a,xs,h1,h2,h3,h4,h5⟩:=rel.own hw;exact⟨.ref a,h1,h G σ _ H rel (.refl _) ⟨a,xs,rfl,h2,h3,h4,h5⟩⟩
 ·rename_i w hw;obtain⟨v,h1,h2⟩:=rel.fr hw;exact⟨v,h1,h G σ _ H rel (.refl _) ⟨v,rfl,h2⟩⟩
 ·exact h.elim
theorem y0b:∀D σ H,liftS K Z EE (dIfS dc s1 s2) D σ H->tIfS (liftT K Z EE dc) (liftS K Z EE s1) (liftS K Z EE s2) D σ H:=by
 rintro D σ H ⟨G,e,rel,h⟩;refine⟨G,e,rel,(q0r h).imp (fun x e1 h G1 H1 r1 q1=>?_) fun _ _ h=>h⟩
 cases x with
 |true=>exact⟨G1,e1,r1,PostS.trans q1 h⟩
 |false=>exact⟨G1,e1,r1,PostS.trans q1 h⟩
theorem q1a{p q:List Stmt}(hc:DT Z X EE c dc)(ha:DSs Z X EE p s1)(hb:DSs Z X EE q s2):DS Z X EE (.If c p q pos) (dIfS dc s1 s2):=PS.mono (z2j hc ha hb) y0b
theorem q0n(i:Nat)(hN:X.N.Nodup)(he:DE Z X EE e d)(hi:X.N[i]?=some x:=by rfl)(hx:Loc X.env.scope x:=by walk_at "3")(hs:swapsWith e (some (.Name x pos')) pos.line X.env=pure false:=by rfl)(hf:X.fn x=true\/X.env.scope.names.lookup x=some .local:=by walk_at "2"):
  DS Z X EE (.Assign [.Name x pos'] e pos) (dSet i d):=by
 refine PS.mono (q6j i hN he hi hx hs hf) ?_;rintro D σ H ⟨G,e,rel,h⟩;exact⟨G,e,rel,(q0r h).imp (fun w e1 h G1 v1 H1 r1 q1 p1=>h G1 _ H1 (r1.set p1) q1) fun _ _ h=>h⟩
theorem q19(i:Nat)(hN:X.N.Nodup)(he:DF Z X EE e dA)(hi:X.N[i]?=some x:=by rfl)(hx:Loc X.env.scope x:=by walk_at "3")(hs:swapsWith e (some (.Name x pos')) pos.line X.env=pure false:=by rfl)(hf:X.fn x=true\/X.env.scope.names.lookup x=some .local:=by walk_at "2"):
  DS Z X EE (.Assign [.Name x pos'] e pos) (dSetO i dA):=by
 refine PS.mono (q6j i hN he hi hx hs hf) ?_;rintro D σ H ⟨G,e,rel,h⟩;exact⟨G,e,rel,(q0r h).imp (fun w e1 h G1 a xs H1 r1 s1 q1 q2 q3 q4 p1=>h G1 _ H1 (r1.setOwn q1 q2 q3 q4 p1) s1) fun _ _ h=>h⟩
theorem q8c(n:Nat)(hp:PassesOwn (model X.prog X.w) X.A X.env X.xe)(hc:DT Z X EE c dc)(hb:DSs Z X EE body s1):DS Z X EE (.While c body [] pos) (whileD dc s1 n):=by
 refine PS.mono (x9z hp hc hb) ?_;rintro D σ H ⟨G,e,rel,h⟩;refine⟨fun m σ' H'=>∃G' e',Rel X.K Z G' σ' H' e'/\Same G G'/\PostS X.K Z EE D G (whileD dc s1 m e'),⟨n,G,e,rel,.refl _,h⟩,?_⟩
 rintro m σ1 H1 ⟨G1,e1,r1,q1,h⟩;cases m with
 |zero=>exact h.elim
 |succ m=>
  refine⟨G1,e1,r1,(q0r (σ:=σ1) h).imp (fun x e2 h G2 H2 r2 q2=>?_) fun _ _ h=>XH.trans q1 h⟩
  cases x with
  |false=>exact h G2 σ1 H2 r2 (q1.trans q2)
  |true=>
   refine⟨fun σ' H'=>∃G' e',Rel X.K Z G' σ' H' e'/\Same G G'/\PostS X.K Z EE D G (whileD dc s1 m e'),fun σ' H' q=>⟨m,Nat.lt_succ_self _,q⟩,⟨G2,e2,r2,?_⟩⟩
   have sg:=q1.trans q2;have h:PostS X.K Z EE D G (match s1 e2 with|.nx e'=>whileD dc s1 m e'|.ct e'=>whileD dc s1 m e'|.bk e'=>.nx e'|.rt s e'=>.rt s e'|.ex c e'=>.ex c e'|.no=>.no):=h;cases q:s1 e2 with
   |nx e'=>rw[q]at h;exact fun G' σ' H' r s=>⟨G',e',r,sg.trans s,h⟩
   |ct e'=>rw[q]at h;exact fun G' σ' H' r s=>⟨G',e',r,sg.trans s,h⟩
   |bk e'=>rw[q]at h;exact fun G' σ' H' r s=>h G' σ' H' r (sg.trans s)
   |rt w e'=>rw[q]at h;exact fun G' σ' v H' r s=>h G' σ' v H' r (sg.trans s)
   |ex c e'=>rw[q]at h;exact fun G' σ' H' r s=>h G' σ' H' r (sg.trans s)
   |no=>rw[q]at h;exact h
theorem y0c{D:Ends}{x:V}{N:St->Hp->Prop}(r1:Rel K Z G1 σ H e1)(q1:Same G G1)(p:Rep K G1 w x)(h:PostS K Z EE D G (forD i s1 (w::ws) e1))
  (hN:∀G' σ' H' e',Rel K Z G' σ' H' e'->Same G G'->PostS K Z EE D G (forD i s1 ws e')->N σ' H'):gName i x σ H fun σ2 H2=>liftS K Z EE s1 {D with nx:=N,ct:=N,bk:=D.nx} σ2 H2:=by
 refine⟨G1,e1.set i (.fr w),r1.set p,?_⟩;unfold forD at h;cases q:s1 (e1.set i (.fr w))with
 |nx e'=>rw[q]at h;exact fun G' σ' H' r s=>hN G' σ' H' e' r (q1.trans s) h
 |ct e'=>rw[q]at h;exact fun G' σ' H' r s=>hN G' σ' H' e' r (q1.trans s) h
 |bk e'=>rw[q]at h;exact fun G' σ' H' r s=>h G' σ' H' r (q1.trans s)
 |rt w e'=>rw[q]at h;exact fun G' σ' v H' r s=>h G' σ' v H' r (q1.trans s)
 |ex c e'=>rw[q]at h;exact fun G' σ' H' r s=>h G' σ' H' r (q1.trans s)
 |no=>rw[q]at h;exact h
def iSeq(K:Fg)(tl:TE):TI:=fun σ H R=>tl σ H fun x H1=>∃a,x=.ref a/\(((∃xs,SqL K H1 a xs)/\R (Itl K a) H1)\/((∃xs,SqT K H1 a xs)/\R (Itt K a) H1))
theorem q82{l:Expr}{tl:TE}(hl:PE X l tl):PI X tg l (iSeq X.K tl):=by
 intro pins s σ H R I h;refine thn (hl pins s σ H _ I h) fun v s1 ⟨x,H1,I1,r1,q1⟩=>?_
 obtain⟨a,e,q⟩:=q1;subst e;cases r1;rcases q with⟨⟨xs,hq⟩,q⟩|⟨⟨xs,hq⟩,q⟩
 ·obtain⟨its,rv,p,hz⟩:=I1.list hq;refine wpAny_pyIter_list p.isList ?_;refine⟨s1.heap.objs.size,[s1.heap.objs.size],_,_,H1,rfl,I1.kept (t':=s1.toks) fun b o e=>Heap.get?_push_of_some _ e,x6m a _,⟨_,Heap.get?_push_size _ rfl,rfl,rfl⟩,fun b hb=>?_,q⟩
  have e:b=s1.heap.objs.size:=by simpa using hb
  subst e;exact I1.fpOk (w0j _) (I1.hok.fresh (w0j _))
 ·obtain⟨its,rv,p,hz⟩:=I1.tuple hq;refine wpAny_pyIter_tuple (show s1.heap.IsTuple a its.toArray from p) ?_;refine⟨s1.heap.objs.size,[s1.heap.objs.size],_,_,H1,rfl,I1.kept (t':=s1.toks) fun b o e=>Heap.get?_push_of_some _ e,x5j a _,⟨_,Heap.get?_push_size _ rfl,rfl,rfl⟩,fun b hb=>?_,q⟩
  have e:b=s1.heap.objs.size:=by simpa using hb
  subst e;exact I1.fpOk (w0j _) (I1.hok.fresh (w0j _))
theorem q7b{ws:List α}{k:Nat}{w:α}(h:ws[k]?=some w):ws.drop k=w::ws.drop (k+1):=by
 obtain⟨hk,rfl⟩:=w0b.mp h;exact w3q hk
theorem x4i{i:Nat}{D:Ends}(r1:Rel K Z G1 σ H1 e1)(rp:Reps K G1 ws xs)(h:PostS K Z EE D G1 (forD i s1 ws e1))(SQ:Hp->Prop)(hSQ:∀G' H',Same G1 G'->Same G' H'->SQ H'):
  ∃Pv:Nat->St->Hp->Prop,Pv 0 σ H1/\(∀j σ H,j<=xs.length->Pv j σ H->SQ H)/\(∀(j:Nat) x σ H,xs[j]?=some x->Pv j σ H->gName i x σ H fun σ2 H2=>liftS K Z EE s1 {D with nx:=Pv (j+1),ct:=Pv (j+1),bk:=D.nx} σ2 H2)/\∀σ H,Pv xs.length σ H->D.nx σ H:=by
 refine⟨fun j σ' H'=>∃G' e',Rel K Z G' σ' H' e'/\Same G1 G'/\PostS K Z EE D G1 (forD i s1 (ws.drop j) e'),⟨G1,e1,r1,.refl _,h⟩,?_,?_,?_⟩
 ·rintro j σ' H' _ ⟨G',e',r',s',_⟩;exact hSQ G' H' s' r'.sub
 ·rintro j x σ' H' hx ⟨G',e',r',s',h⟩;obtain⟨w,hw,pw⟩:=rp.getV hx;rw[q7b hw]at h;exact y0c r' s' (Rep.mono s' w pw) h fun G'' σ'' H'' e'' r'' s'' h''=>⟨G'',e'',r'',s'',h''⟩
 ·rintro σ' H' ⟨G',e',r',s',h⟩;rw[rp.length,w2n]at h;exact h G' σ' H' r' s'
theorem q7c(i:Nat)(hN:X.N.Nodup)(hp:PassesOwn (model X.prog X.w) X.A X.env X.xe)(hc:X.calm=true)(hl:DE Z X EE e d)(hb:DSs Z X EE body s1)
  (hi:X.N[i]?=some x:=by rfl)(hx:Loc X.env.scope x:=by walk_at "3")(hf:X.fn x=true\/X.env.scope.names.lookup x=some .local:=by walk_at "2")(hs:∀x,foldedSetIterable e X.env x=pure x:=by intro _;rfl):
  DS Z X EE (.For (.Name x pos') e body [] pos) (dFor i d s1):=by
 refine PS.mono (x14 hp hc (q82 hl) (q28 i hN hi hx hf) hb hs) ?_;rintro D σ H ⟨G,e,rel,h⟩;refine⟨G,e,rel,(q0r h).imp (fun w e1 h G1 v1 H1 r1 q1 p1=>?_) fun _ _ h=>h⟩
 have key:=fun ws xs (rp:Reps X.K G1 ws xs) (h:PostS X.K Z EE D G (forD i s1 ws e1))=>x4i (i:=i) (D:=D) r1 rp (PostS.trans q1 h)
 cases w with
 |tup ws=>
  obtain⟨a,xs,rfl,hq,rp⟩:=p1;refine⟨a,rfl,.inr ⟨⟨xs,r1.sub.tup hq⟩,?_⟩⟩;obtain⟨Pv,h0,h1,h2,h3⟩:=key ws xs rp h (fun H'=>SqT X.K H' a xs) (fun G' H' s s'=>Same.tup s' (Same.tup s hq))
  exact y4g Pv h0 h1 h2 h3
 |lst ws=>
  obtain⟨a,xs,rfl,hq,rp⟩:=p1;refine⟨a,rfl,.inl ⟨⟨xs,r1.sub.seq hq⟩,?_⟩⟩;obtain⟨Pv,h0,h1,h2,h3⟩:=key ws xs rp h (fun H'=>SqL X.K H' a xs) (fun G' H' s s'=>Same.seq s' (Same.seq s hq))
  exact x91 Pv h0 h1 h2 h3
 |_=>exact h.elim
theorem q83{lo hi:Int}:Reps K G (rangeW lo hi) ((List.range (hi-lo).toNat).map fun k=>V.int (lo+(k:Nat))):=by
 unfold rangeW;generalize List.range (hi-lo).toNat=l
 induction l with
 |nil=>rfl
 |cons k l ih=>exact⟨_,_,rfl,rfl,ih⟩
theorem y4z{i:Nat}{D:Ends}{lo hi:Int}(r1:Rel K Z G1 σ H1 e1)(h:PostS K Z EE D G1 (forD i s1 (rangeW lo hi) e1)):
  ∃W:Nat->Nat->St->Hp->Prop,(∃m,W 0 m σ H1)/\∀j m σ H,W j m σ H ->
   ((Itr lo (hi-lo).toNat).stop j H/\D.nx σ H)\/((Itr lo (hi-lo).toNat).go j H/\∃N:St->Hp->Prop,(∀σ' H',N σ' H'->∃m',m'<m/\W (j+1) m' σ' H')/\∀x H',(Itr lo (hi-lo).toNat).yld j H x H'->gName i x σ H' fun σ2 H2=>liftS K Z EE s1 {D with nx:=N,ct:=N,bk:=D.nx} σ2 H2):=by
 obtain⟨Pv,h0,h1,h2,h3⟩:=x4i (i:=i) (D:=D) r1 (q83 (lo:=lo) (hi:=hi)) h (fun _=>True) (fun _ _ _ _=>trivial)
 refine x6o Pv h0 (fun j σ' H' hj p=>h2 j _ σ' H' ?_ p) (fun σ' H' p=>h3 σ' H' (by simpa using p))
 simp[hj]
theorem q4n(i:Nat){p1 p2:Pos}(hN:X.N.Nodup)(hp:PassesOwn (model X.prog X.w) X.A X.env X.xe)(hc:X.calm=true)(hm:X.mg "range"=none)(ha:DA Z X EE [a] dA)(hb:DSs Z X EE body s1)
  (hi:X.N[i]?=some x:=by rfl)(hx:Loc X.env.scope x:=by walk_at "3")(hf:X.fn x=true\/X.env.scope.names.lookup x=some .local:=by walk_at "2")(hg:Gl X "range":=by rfl)(hs1:starEach [a] X.env=[(false,eval a X.env)]:=by rfl)(hs:∀x,foldedSetIterable (.Call (.Name "range" p1) [a] [] p2) X.env x=pure x:=by intro _;rfl):
  DS Z X EE (.For (.Name x p) (.Call (.Name "range" p1) [a] [] p2) body [] pos) (dForR i rng1 dA s1):=by
 refine PS.mono (x14 hp hc (q61 hg hm ha hs1) (q28 i hN hi hx hf) hb hs) ?_;rintro D σ H ⟨G,e,rel,h⟩;refine⟨G,e,rel,(q0r h).imp (fun ws e1 h G1 vs H1 r1 q1 p1=>?_) fun _ _ h=>h⟩
 unfold rng1 at h;split at h
 ·rename_i hh;split at hh
  ·rename_i j;split at hh
   ·rename_i hj;cases hh;obtain⟨y,r,rfl,e1,e2⟩:=p1;cases(show y=V.int j from e1);cases(show r=[]from e2);refine⟨j,rfl,(q6a hj).1,(q6a hj).2,?_⟩;have z:=y4z (i:=i) (D:=D) r1 (PostS.trans q1 h)
    rwa [Int.sub_zero]at z
   ·cases hh
  ·cases hh
 ·exact h.elim
end
open PyProof.Rows (envOfC)
inductive FR where
 |ok (s:S)|ex (c:Value)|no
def spF(K:Fg)(F:List W->FR):Sp:=fun vs H Q E=>∃G ws,Same G H/\Reps K G ws vs/\match F ws with
 |.ok s=>∀G' H' v,Grow G H G' H'->SlotOk K ⟨H,G,[]⟩ G' H' s (some v)->Q v H'
 |.ex c=>∀H',Same H H'->E c none H'
 |.no=>False
def SR.fn:SR->FR
 |.nx _=>.ok (.fr .non)
 |.rt s _=>.ok s
 |.ex c _=>.ex c
 |_=>.no
def init(n:Nat)(ws:List W):List S:=ws.map .fr++List.replicate (n-ws.length) .no
theorem q5p{N:List Str}(s:Same G H)(r:Reps K G ws vs):Rel K ⟨H,G,[]⟩ G (L2.start N vs) H (init N.length ws):=by
 have hl:=r.length
 have hfr:∀(i:Nat)(s:S),(init N.length ws)[i]?=some s->(s=.no)\/∃w,s=.fr w/\ws[i]?=some w:=fun i s h=>by
  unfold init at h;rw[List.getElem?_append]at h;split at h
  ·rw[w0i]at h;obtain⟨w,h1,rfl⟩:=w0d.mp h;exact .inr ⟨w,rfl,h1⟩
  ·rw[w2v]at h;split at h
   ·cases h;exact .inl rfl
   ·cases h
 refine⟨s,fun i t h=>?_,?_,fun i j b b' w1 w2 a h1 h2 _ _=>?_,fun a o h _=>h,(fun a h=>nomatch h),fun a _=>rfl⟩
 ·rcases hfr i t h with rfl|⟨w,rfl,h1⟩
  ·trivial
  ·obtain⟨v,h2,h3⟩:=r.get h1;refine⟨v,?_,h3⟩;have hi:i<vs.length:=(w0b.mp h2).1;unfold L2.start;rw[w1c (by simpa using hi),w0i,h2];rfl
 ·unfold init L2.start;simp[hl]
 ·rcases hfr i _ h1 with z|⟨w,z,_⟩<;>cases z
theorem Rel.toGrow(r:Rel K ⟨H,G,[]⟩ G' σ H' e)(s:Same G G'):Grow G H G' H':=
 ⟨fun a o h=>r.ent a o h (by simp),s,r.sub,fun a h=>r.gen a h⟩
section
variable{P:Program}{w:World}{mg:Str->Option Value}{base:Heap}
theorem q7d{F:List W->FR}{Q:VK}{E:XK}(h:spF K F vs H Q E):∃G ws,F ws≠.no/\Reps K G ws vs:=by
 obtain⟨G,ws,_,r,h⟩:=h;refine⟨G,ws,fun z=>?_,r⟩
 rw[z]at h;exact h
theorem q7s{F:List W->FR}{Q:VK}{E:XK}{r:SR}(he:r.fn=F ws)(h:match F ws with
  |.ok s=>∀G' H' v,Grow G H G' H'->SlotOk K ⟨H,G,[]⟩ G' H' s (some v)->Q v H'
  |.ex c=>∀H',Same H H'->E c none H'
  |.no=>False):PostS K ⟨H,G,[]⟩ (fun _=>E) {nx:=fun _ H'=>Q .non H',rt:=Q} G r:=by
 rw[<- he]at h;cases r with
 |nx e=>exact fun G' σ' H' r s=>h G' H' .non (r.toGrow s) ⟨.non,rfl,rfl⟩
 |rt s e=>exact fun G' σ' v H' r q p=>h G' H' v (r.toGrow q) p
 |ex c e=>exact fun G' σ' H' r s=>h H' (r.toGrow s).hh
 |bk e=>exact h.elim
 |ct e=>exact h.elim
 |no=>exact h.elim
theorem con{N ps:List Str}{k:Nat}{F:List W->FR}(A:At K mg x st ps)(sc:FnScope N ps (defScope st))(len:∀ws,F ws≠.no->ws.length=ps.length)
  (hb:∀ws,F ws≠.no->∀(f:Addr)(cdv:Value)(A:Around)(outer:List Env)(s:Shared)(H:Hp)(E:XK)(Z:Zt),Room k (A.deeper (envOfC x (defScope st) s.heap.objs.size f cdv)) ->
   ∃d,DSs Z (cxOf (CX1 P w) P w K mg base N x (defScope st) f cdv A outer s H E) (fun _=>E) (defBody st) d/\(d (init N.length ws)).fn=F ws):Cal P w K mg base (k+1) x ps (spF K F):=by
 refine A.cal sc (fun vs H Q E h=>?_) (fun f cdv A outer s H vs Q E hr h=>?_)
 ·obtain⟨G,ws,hn,r⟩:=q7d h;rw[r.length];exact len ws hn
 ·have hn0:=h;obtain⟨G,ws,sg,rp,h⟩:=h;have hn:F ws≠.no:=fun z=>by rw[z]at h;exact h
  obtain⟨d,hd,he⟩:=hb ws hn f cdv A outer s H E ⟨H,G,[]⟩ hr;exact⟨_,hd,G,init N.length ws,q5p sg rp,q7s he h⟩
end
def dCall(F:List W->FR)(dA:Den (List W)):Den W:=fun e=>(dA e).bind fun ws e1=>match F ws with
 |.ok (.fr w)=>.ok w e1
 |.ok (.own none ws')=>.ok (.lst ws') e1
 |.ok (.dic kvs)=>.ok (.dic kvs) e1
 |.ok (.thr us ws vs)=>.ok (.tup (us++.lst ws::vs)) e1
 |.ok (.x (.new w))=>.ok w e1
 |.ok (.x (.tn us wss))=>.ok (.tup (us++[.lst (wss.map .lst)])) e1
 |.ex c=>.ex c e1
 |_=>.no
section
variable{e:Expr}{k:Nat}{ps:List Str}{F:List W->FR}
theorem x2e{s:S}(r1:Rel K Z G1 σ H1 e1)(g:Grow G1 H1 G' H')(q:SlotOk K ⟨H1,G1,[]⟩ G' H' s (some v))(hs:s=.fr w\/∃ws,s=.own none ws/\w=.lst ws):
  ∃G'',Rel K Z G'' σ H' e1/\Same G1 G''/\Rep K G'' w v:=by
 rcases hs with rfl|⟨ws,rfl,rfl⟩
 ·obtain⟨u,h1,h2⟩:=q;cases h1;exact⟨G',r1.grow g,g.gg,h2⟩
 ·obtain⟨a,xs,h1,h2,h3,h4,h5⟩:=q;cases h1;have hn:H1 a=none:=h4;obtain⟨sg,rg⟩:=(r1.grow g).seen h2 h3 (q1y r1 hn) (q4m r1 hn);exact⟨_,rg,g.gg.trans sg,⟨a,xs,rfl,SqL.of q0f,Reps.mono sg ws h5⟩⟩
theorem x65{kvs:Dd}(r1:Rel K Z G1 σ H1 e1)(g:Grow G1 H1 G' H')(q:SlotOk K ⟨H1,G1,[]⟩ G' H' (.dic kvs) (some v)):
  ∃G'',Rel K Z G'' σ H' e1/\Same G1 G''/\Rep K G'' (.dic kvs) v:=by
 obtain⟨a,h1,h2,h3,h4⟩:=q;cases h1;have hn:H1 a=none:=h4;have r:=r1.grow g;have sg:Same G' (upd G' a (dO kvs)):=q23 h3 _;refine⟨upd G' a (dO kvs),⟨fun c o z=>?_,fun j s z=>?_,r.len,r.dis,r.ent,r.ion,fun c z=>?_⟩,g.gg.trans sg,⟨a,rfl,q0f⟩⟩
 ·by_cases hc:c=a
  ·subst hc;rw[q0f]at z;cases z;exact h2
  ·rw[q0b hc]at z;exact r.sub c o z
 ·have y:=r.slot j s z;have y1:=r1.slot j s z;cases s with
  |no=>trivial
  |fr w=>
   obtain⟨u,y1,y2⟩:=y;exact⟨u,y1,Rep.mono sg w y2⟩
  |own b2 w2=>
   obtain⟨c,ys,x1,x2,x3,x4,x5⟩:=y;refine⟨c,ys,x1,x2,?_,x4,Reps.mono sg w2 x5⟩;rw[q0b (q0o x2 h2 (fun z=>q2l rfl z.symm))];exact x3
  |dic kv=>
   obtain⟨c,x1,x2,x3,x4⟩:=y;obtain⟨c',w1,w2,_⟩:=y1;rw[x1]at w1;cases w1;refine⟨c,x1,x2,?_,x4⟩;rw[q0b (q0i w2 hn)];exact x3
  |thr us w2 vs=>
   obtain⟨t,l,o,xs2,ys,zs,x1,x2,x3,x4,x5,x6,x7,x8⟩:=y;refine⟨t,l,o,xs2,ys,zs,x1,sg _ _ x2,x3,?_,x5,Reps.mono sg us x6,Reps.mono sg w2 x7,Reps.mono sg vs x8⟩;rw[q0b (q0o x3 h2 (fun z=>q2l rfl z.symm))];exact x4
  |nest wss=>exact NestOk.move y sg fun l o ys k1 k2 k3=>⟨k1,by rw[q0b (q0o k1 h2 (fun z=>q2l rfl z.symm))];exact k2,k3⟩
  |x k=>exact XOk.move y sg fun l o ys k1 k2 k3=>⟨k1,by rw[q0b (q0o k1 h2 (fun z=>q2l rfl z.symm))];exact k2,k3⟩
  |dw sh ks ws=>
   obtain⟨c,kv,ka,x1,x2,x3,x4,x5,x6,x7⟩:=y;obtain⟨c',kv',ka',w1,w2,_⟩:=y1;rw[x1]at w1;cases w1;refine⟨c,kv,ka,x1,x2,?_,x4,x5,x6.mono sg,x7.move sg fun _ _ _ z=>z⟩
   rw[q0b (q0i w2 hn)];exact x3
 ·by_cases hc:c=a
  ·subst hc;exact absurd (q1y r1 hn) z
  ·rw[q0b hc];exact r.gen c z
theorem x66{us vs:List W}(r1:Rel K Z G1 σ H1 e1)(g:Grow G1 H1 G' H')(q:SlotOk K ⟨H1,G1,[]⟩ G' H' (.thr us ws vs) (some v)):
  ∃G'',Rel K Z G'' σ H' e1/\Same G1 G''/\Rep K G'' (.tup (us++.lst ws::vs)) v:=by
 obtain⟨t,l,o,xs,ys,zs,h1,h2,h3,h4,h5,h6,h7,h8⟩:=q;cases h1;have hn:H1 l=none:=h5;have r:=r1.grow g;have sg:Same G' (upd G' l (.frz o (.lst ys))):=q23 h4 _;refine⟨upd G' l (.frz o (.lst ys)),⟨fun c u z=>?_,fun j s z=>?_,r.len,r.dis,r.ent,r.ion,fun c z=>?_⟩,g.gg.trans sg,⟨t,_,rfl,SqT.of (sg _ _ h2),(Reps.mono sg us h6).append ⟨.ref l,zs,rfl,⟨l,ys,rfl,.inl (.inr ⟨o,q0f⟩),Reps.mono sg ws h7⟩,Reps.mono sg vs h8⟩⟩⟩
 ·by_cases hc:c=l
  ·subst hc;rw[q0f]at z;cases z;exact h3
  ·rw[q0b hc]at z;exact r.sub c u z
 ·have y:=r.slot j s z;have y1:=r1.slot j s z;cases s with
  |no=>trivial
  |fr w=>
   obtain⟨u,y1,y2⟩:=y;exact⟨u,y1,Rep.mono sg w y2⟩
  |own b2 w2=>
   obtain⟨c,ys,x1,x2,x3,x4,x5⟩:=y;refine⟨c,ys,x1,x2,?_,x4,Reps.mono sg w2 x5⟩;rw[q0b (q0o x2 h3 (fun z=>nomatch z))];exact x3
  |dic kv=>
   obtain⟨c,x1,x2,x3,x4⟩:=y;refine⟨c,x1,x2,?_,x4⟩;rw[q0b (q0o x2 h3 (q2l rfl))];exact x3
  |thr us w2 vs=>
   obtain⟨t1,l1,o1,xs1,ys1,zs1,w1,w2',w3,w4,w5,w6,w7,w8⟩:=y1;have sg2:=g.gg.trans sg;refine⟨t1,l1,o1,xs1,ys1,zs1,w1,sg2 _ _ w2',g.hh _ _ w3,?_,w5,Reps.mono sg2 us w6,Reps.mono sg2 w2 w7,Reps.mono sg2 vs w8⟩;rw[q0b (q0i w3 hn),g.new l1 (by rw[w3];simp)];exact w4
  |nest wss=>exact NestOk.move y1 (g.gg.trans sg) fun l1 o ys k1 k2 k3=>⟨g.hh _ _ k1,by rw[q0b (q0i k1 hn),g.new l1 (by rw[k1];simp)];exact k2,k3⟩
  |x k=>exact XOk.move y1 (g.gg.trans sg) fun l1 o ys k1 k2 k3=>⟨g.hh _ _ k1,by rw[q0b (q0i k1 hn),g.new l1 (by rw[k1];simp)];exact k2,k3⟩
  |dw sh ks ws=>exact DwOk.move y1 (g.gg.trans sg) fun l1 o ys k1 k2 k3=>⟨g.hh _ _ k1,by rw[q0b (q0i k1 hn),g.new l1 (by rw[k1];simp)];exact k2,k3⟩
 ·by_cases hc:c=l
  ·subst hc;exact absurd (q1y r1 hn) z
  ·rw[q0b hc];exact r.gen c z
theorem NestIn.mem0:∀{ls:List Addr}{wss:List (List W)},NestIn K Z G H ls wss->∀l∈ls,∃o ys,FzAt Z G H l o ys
 |[],_,_,_,hl=>nomatch hl
 |l::ls,ws::wss,⟨⟨o,ys,h1,_⟩,h⟩,c,hc=>by
  rcases w0h.mp hc with rfl|hc
  ·exact⟨o,ys,h1⟩
  ·exact h.mem0 c hc
 |_::_,[],h,_,_=>h.elim
theorem NestIn.reps0(sg:Same G G'):∀{ls:List Addr}{wss:List (List W)},(∀l∈ls,G' l=H l)->NestIn K Z G H ls wss->Reps K G' (wss.map W.lst) (ls.map V.ref)
 |[],[],_,_=>rfl
 |l::ls,ws::wss,hf,⟨⟨o,ys,h1,h4⟩,h⟩=>⟨.ref l,ls.map V.ref,rfl,⟨l,ys,rfl,.inl (.inr ⟨o,by rw[hf l (by simp)];exact h1.1⟩),Reps.mono sg ws h4⟩,h.reps0 sg fun c hc=>hf c (by simp[hc])⟩
 |[],_::_,_,h=>h.elim
 |_::_,[],_,h=>h.elim
theorem Rel.addNew(r1:Rel K Z G1 σ H1 e1)(g:Grow G1 H1 G' H')(As:List Addr) [DecidablePred (·∈As)](hA:∀c∈As,(∃o ys,H' c=some (.frz o (.lst ys)))/\G' c=none/\H1 c=none):
  Same G' (fun c=>if c∈As then H' c else G' c)/\Rel K Z (fun c=>if c∈As then H' c else G' c) σ H' e1:=by
 have sg:Same G' (fun c=>if c∈As then H' c else G' c):=fun c o z=>by
  show(if c∈As then H' c else G' c)=some o;rw[if_neg (fun m=>by rw[(hA c m).2.1]at z;cases z)];exact z
 refine⟨sg,r1.grow ⟨g.hh,g.gg.trans sg,fun c o z=>?_,fun c hc=>?_⟩⟩
 ·have z:(if c∈As then H' c else G' c)=some o:=z;split at z
  ·exact z
  ·exact g.sub c o z
 ·show(if c∈As then H' c else G' c)=G1 c;rw[if_neg (fun m=>hc (hA c m).2.2)];exact g.new c hc
theorem y0d{us:List W}{wss:List (List W)}(r1:Rel K Z G1 σ H1 e1)(g:Grow G1 H1 G' H')(q:SlotOk K ⟨H1,G1,[]⟩ G' H' (.x (.tn us wss)) (some v)):
  ∃G'',Rel K Z G'' σ H' e1/\Same G1 G''/\Rep K G'' (.tup (us++[.lst (wss.map .lst)])) v:=by
 classical
 obtain⟨t,l,o,ls,xs,h1,h2,⟨h3,h4,h5⟩,⟨h6,h7⟩,h8,h9⟩:=q;cases h1
 obtain⟨sg,r2⟩:=r1.addNew g (l::ls) fun c hc=>by
  rcases w0h.mp hc with rfl|hc
  ·exact⟨⟨o,_,h3⟩,h4,h5⟩
  ·obtain⟨o',ys,k1,k2,k3⟩:=h9.mem0 c hc;exact⟨⟨o',ys,k1⟩,k2,k3⟩
 refine⟨_,r2,g.gg.trans sg,t,_,rfl,SqT.of (sg _ _ h2),(Reps.mono sg us h8).append ⟨.ref l,[],rfl,⟨l,_,rfl,.inl (.inr ⟨o,?_⟩),h9.reps0 sg fun c hc=>if_pos (w0t _ hc)⟩,rfl⟩⟩
 show(if l∈l::ls then H' l else G' l)=_;rw[if_pos (w1f ..)];exact h3
theorem y3s{c:Value}(r1:Rel K Z G1 σ H1 e1)(s1:Same G G1)(h:XH K Z EE σ G c e1):∀H',Same H1 H'->EE σ c none H':=fun H' sh=>
 h G1 H' (r1.grow ⟨sh,.refl _,r1.sub.trans sh,fun _ _=>rfl⟩) s1
theorem q0s(C:Cal X.prog X.w X.K X.mg X.base k x ps (spF X.K F))(hr:Room k X.A)(hx:PassX (CX1 X.prog X.w) X EE)(ha:DA Z X EE (e::es) dA)(hg:Gl X x:=by rfl)
  (hdb:(x==("__debug__":Str))=false:=by decide)(he:starEach (e::es) X.env=(false,eval e X.env)::starEach es X.env:=by rfl)(hpl:(backTo pos (starEach es X.env)).any (·.1)=false:=by rfl):
  DE Z X EE (.Call (.Name x p) (e::es) [] pos) (dCall F dA):=by
 refine PE.mono (x6z C hr hx ha hg hdb he hpl) ?_;rintro σ H Q ⟨G,e,rel,h⟩;simp only[dCall,R.holds_bind]at h;refine⟨G,e,rel,h.imp (fun ws e1 h G1 vs H1 r1 s1 p1=>?_) fun _ _ h=>h⟩
 refine⟨G1,ws,r1.sub,by rw[w1j];exact p1,?_⟩;cases q:F ws with
 |ok s=>
  rw[q]at h;intro G' H' v g sl;cases s with
  |no=>exact h.elim
  |fr w=>
   obtain⟨G'',r2,s2,p2⟩:=x2e r1 g sl (.inl rfl);exact(show ∀G' v H',_->_->Rep X.K G' w v->Q v H' from h) G'' v H' r2 (s1.trans s2) p2
  |own b ws'=>
   cases b with
   |some _=>exact h.elim
   |none=>
    obtain⟨G'',r2,s2,p2⟩:=x2e r1 g sl (.inr ⟨ws',rfl,rfl⟩);exact(show ∀G' v H',_->_->Rep X.K G' (.lst ws') v->Q v H' from h) G'' v H' r2 (s1.trans s2) p2
  |dic kvs=>
   obtain⟨G'',r2,s2,p2⟩:=x65 r1 g sl;exact(show ∀G' v H',_->_->Rep X.K G' (.dic kvs) v->Q v H' from h) G'' v H' r2 (s1.trans s2) p2
  |thr us ws' vs'=>
   obtain⟨G'',r2,s2,p2⟩:=x66 r1 g sl;exact(show ∀G' v H',_->_->Rep X.K G' (.tup (us++.lst ws'::vs')) v->Q v H' from h) G'' v H' r2 (s1.trans s2) p2
  |nest _=>exact h.elim
  |x k=>
   cases k with
   |new w=>
    obtain⟨u,h1,h2⟩:=sl;cases h1;exact(show ∀G' v H',_->_->Rep X.K G' w v->Q v H' from h) G' _ H' (r1.grow g) (s1.trans g.gg) (RepN.rep _ h2)
   |tn us wss=>
    obtain⟨G'',r2,s2,p2⟩:=y0d r1 g sl;exact(show ∀G' v H',_->_->Rep X.K G' (.tup (us++[.lst (wss.map .lst)])) v->Q v H' from h) G'' v H' r2 (s1.trans s2) p2
   |_=>exact h.elim
  |dw _ _ _=>exact h.elim
 |ex c=>
  rw[q]at h;exact y3s r1 s1 h
 |no=>rw[q]at h;exact h.elim
end
end D
namespace L2
open PySem PySem.Spec PyProof.Rows
section
variable{X:Cx}{elt target iter:Expr}{ifs:List Expr}{scope:Scope}{pos:Pos}{wi:TI}{g:TG}{tc:TT}{te:TE}
theorem y0e{Nl Nf:List Str}{js:List Nat}{y:Str}{py spos:Pos}{gy:TG}(hc:X.calm=true)(hi:PI X target iter wi)
  (hk:scope.kind=.function)(hcell:∀y∈scope.names,y.2≠.cell)(hnames:∀x∈scope.names,x.2=.local->scope.names.lookup x.1=some .local)
  (hfree:∀x∈scope.names,x.2=.free->X.env.kindOf x.1=some .cell\/X.env.kindOf x.1=some .free)
  (hj:∀(i j:Nat) y,Nf[i]?=some y->js[i]?=some j->X.N[j]?=some y)(hlen:js.length=Nf.length)
  (hNf:∀y∈Nf,(y,NameKind.free)∈scope.names/\Vis X.env.scope y/\X.env.kindOf y≠some .local)
  (hvis:∀y∈Nf,(relabel scope X.env).names.lookup y=some .cell\/(relabel scope X.env).names.lookup y=some .free)
  (hg:∀cl C s₀ H₀ ex,PG (X.cp (Nl++Nf) scope cl C s₀ H₀ ex) target g)(ht:∀cl C s₀ H₀ ex,PTs (X.cp (Nl++Nf) scope cl C s₀ H₀ ex) ifs tc)(he:∀cl C s₀ H₀ ex,PE (X.cp (Nl++Nf) scope cl C s₀ H₀ ex) elt te)
  (hgy:PG X (.Name y py) gy)(hsw:swapsWith (.ListComp elt [⟨target,iter,ifs,0⟩] scope pos) (some (.Name y py)) spos.line X.env=pure true)
  (hs:∀x,foldedSetIterable iter X.env x=pure x:=by intro _;rfl):
  PS X (.Assign [.Name y py] (.ListComp elt [⟨target,iter,ifs,0⟩] scope pos) spos) (tAsg (tComp wi Nl.length js g tc te) gy):=by
 intro pins s σ H D I h;obtain⟨cl,hclos,hcl,hcf⟩:=q5c (scope:=scope) (env:=X.env) fun x hx hf=>I.ok.has x.1 (hfree x hx hf)
 rw[exec_Assign_Name_used _ _ _ _ hsw];refine wpAny_bind (wpAny_standAt (wpAny_bind ?_));show wpAny _ _ (do let _ <- comprehension _ _ _ _ _ _ _ _) _ _ _;refine wpAny_bind (wpAny_comprehension_free (Q:=fun _ s''=>wpAny (model X.prog X.w) X.A (pure ()) (fun _ s3=>wpAny (model X.prog X.w) X.A (pure Flow.next) (SP X pins D) X.xe s3) X.xe s'') (use:=some (assign (.Name y py) X.env)) rfl hs hclos hk hnames (thn (hi pins s σ H _ I h) fun v s1 h1=>thn h1 fun itv s2 h2=>?_))
 obtain⟨it,fp,tn,J,H2,e,I2,T,st2,f2,rd⟩:=h2;subst e;refine wpAny_newObj_type (wpAny_newFunctionEnv hcell (by intro y hy;simp at hy) (fun h₁ hns₁ hsb₁=>?_) hk)
 dsimp only at hns₁ hsb₁ |-
 have szp:(s2.heap.push {cls:=.type "list", dict:=none,data:=.seq ([]:List Value).toArray}).objs.size=s2.heap.objs.size+1:=Heap.size_push ..;rw[szp]at hns₁ hsb₁ |-
 have fD:H2 s2.heap.objs.size=none:=I2.hok.fresh (w0j _);obtain⟨W,⟨m0,w0⟩,turn⟩:=rd s2.heap.objs.size fD;have obj2:=T.obj 0 s2.heap st2;have IS:=x2c (Nl:=Nl) (Nf:=Nf) (js:=js) (cl:=cl) (tk:=s2.toks+([]:List (Str×Value)).length) I2 f2 obj2 hk hcell hcl hcf hj hlen hNf hvis hns₁ hsb₁
 have upS:∀b u,s2.heap.get? b=some u->h₁.get? b=some u:=fun b u q=>by
  have hlt:=Heap.lt_size q;exact(hsb₁.2 b (w0x (w2l hlt))).trans (Heap.get?_push_of_some _ (Heap.get?_push_of_some _ q))
 have stS:tn 0 h₁:=T.keep 0 s2.heap h₁ st2 fun b hb o q=>upS b o q
 have noD:∀b∈fp,upd H2 s2.heap.objs.size (.lst []) b=none:=fun b hb=>by
  obtain⟨o,q,_⟩:=obj2 b hb;rw[q0b (w0x (Heap.lt_size q))];exact(f2 b hb).1
 have stat:∀{H':Hp},(∀b∈fp,H' b=none)->∀b∈fp,FpOk (X.cp (Nl++Nf) scope cl (s2.heap.objs.size+1) {s2 with heap:=s2.heap.push {cls:=.type "list", dict:=none,data:=.seq ([]:List Value).toArray}} (upd H2 s2.heap.objs.size (.lst [])) fp) [] H' b:=fun hn b hb=>by
  refine⟨hn b hb,(IS.ok.exf b hb).1,IS.ok.exfs b hb,.inl hb,(IS.ok.exf b hb).2,fun p hp=>(by cases hp)⟩
 have loop:∀s4:Shared,s4={s2 with heap:=h₁,toks:=s2.toks+([]:List (Str×Value)).length} ->
   codeAny (model X.prog X.w) X.A (.compLoop (.ListComp elt [⟨target,iter,ifs,0⟩] scope pos) 0 (.ref it) (.ref s2.heap.objs.size) (compEnvC scope cl (s2.heap.objs.size+1) X.env))
    (compPost (model X.prog X.w) X.A X.xe (some (assign (.Name y py) X.env)) (fun _ s''=>wpAny (model X.prog X.w) X.A (pure ()) (fun _ s3=>wpAny (model X.prog X.w) X.A (pure Flow.next) (SP X pins D) X.xe s3) X.xe s'') (.ref s2.heap.objs.size) (s2.heap.objs.size+1)) s4:=by
  rintro s4 rfl;refine x0x (fun n s'=>∃i H',Inv (X.cp (Nl++Nf) scope cl (s2.heap.objs.size+1) {s2 with heap:=s2.heap.push {cls:=.type "list", dict:=none,data:=.seq ([]:List Value).toArray}} (upd H2 s2.heap.objs.size (.lst [])) fp) [] (List.replicate Nl.length none++pj js σ) H' s'/\tn i s'.heap/\(∀b∈fp,H' b=none)/\W i n H') ?_ m0 ⟨0,_,IS,stS,noD,w0⟩
  rintro n s3 ⟨i,H3,I3,st3,fr3,w3⟩;rcases turn i n H3 w3 with⟨stop,qn⟩|⟨go,step⟩
  ·refine thn (T.done (X.cp (Nl++Nf) scope cl (s2.heap.objs.size+1) {s2 with heap:=s2.heap.push {cls:=.type "list", dict:=none,data:=.seq ([]:List Value).toArray}} (upd H2 s2.heap.objs.size (.lst [])) fp) rfl rfl rfl hc i [] s3 _ H3 _ I3 (stat fr3) st3 stop) fun r s5 ⟨hr,I5⟩=>?_
   subst hr;obtain⟨m5,hn5,_⟩:=I5.loc;obtain⟨o5,es5,ep5,ho5,hd5,hk5,hf5⟩:=id hn5;have J5:Inv X pins σ H3 s5:=x6y I2 f2 I5 (h':=s5.heap) ⟨rfl,fun _ _=>rfl⟩
   have fC:FpOk X pins H3 (s2.heap.objs.size+1):=I2.fpOk (w4o _) I5.free;have f1:∀b∈[s2.heap.objs.size+1],FpOk X pins H3 b:=fun b hb=>by rw[w0u.mp hb];exact fC
   have J6:=J5.pinned f1 (fun b hb=>by rw[w0u.mp hb];exact⟨o5,ho5,fun v z=>by rw[hd5]at z;cases z⟩)
   refine thn (hgy _ s5 σ H3 (.ref s2.heap.objs.size) _ _ J6 rfl qn) fun _ s6 ⟨σ6,H6,I6,q6⟩=>?_
   have pC:=I6.pin (s2.heap.objs.size+1,o5) (w0l _ (w0l _ (q2k (w0u.mpr rfl) ho5)));refine⟨m5,⟨o5,es5,ep5,pC.1,hd5,hk5,hf5⟩,fun h' hs'=>wpAny_pure (wpAny_pure ⟨σ6,H6,?_,q6⟩)⟩
   obtain⟨g0,g1,g2,g3,g4,g5⟩:=fC;exact I6.unpinned.turned (t':=s6.toks) (fun b o hb e=>(hs'.2 b hb).trans e) pC.2.1 g1 g3 g4 g5
  ·refine thn (T.item (X.cp (Nl++Nf) scope cl (s2.heap.objs.size+1) {s2 with heap:=s2.heap.push {cls:=.type "list", dict:=none,data:=.seq ([]:List Value).toArray}} (upd H2 s2.heap.objs.size (.lst [])) fp) rfl rfl rfl hc i [] s3 _ H3 _ I3 (stat fr3) st3 go) fun r s5 ⟨u,hr,h5⟩=>?_
   subst hr;refine thn h5 fun _ s6 ⟨x,H6,I6,r6,y6,st6,fr6⟩=>?_
   have I6':=I6.pinned (stat fr6) (T.obj _ _ st6);refine thn (hg _ _ _ _ _ _ s6 _ H6 x u _ I6' r6 (step x H6 y6)) fun _ s7 ⟨σ7,H7,I7,kp,q7⟩=>?_
   refine thn (ht _ _ _ _ _ _ s7 σ7 H7 _ I7 q7) fun ok s8 ⟨H8,I8,q8⟩=>?_
   have again:∀{σ9:St}{H9:Hp}{s9:Shared},Inv (X.cp (Nl++Nf) scope cl (s2.heap.objs.size+1) {s2 with heap:=s2.heap.push {cls:=.type "list", dict:=none,data:=.seq ([]:List Value).toArray}} (upd H2 s2.heap.objs.size (.lst [])) fp) ([]++pinsAt fp s6.heap) σ9 H9 s9 ->
     Kp (List.replicate Nl.length none++pj js σ) σ9->(∃m',m'<n/\W (i+1) m' H9)->∃m,m<n/\∃i H',Inv (X.cp (Nl++Nf) scope cl (s2.heap.objs.size+1) {s2 with heap:=s2.heap.push {cls:=.type "list", dict:=none,data:=.seq ([]:List Value).toArray}} (upd H2 s2.heap.objs.size (.lst [])) fp) [] (List.replicate Nl.length none++pj js σ) H' s9/\tn i s9.heap/\(∀b∈fp,H' b=none)/\W i m H':=fun {σ9 H9 s9} I9 hw ⟨m',hm,w9⟩=>by
    refine⟨m',hm,i+1,H9,I9.unpinned.weak (by rw[I9.len,<- IS.len]) hw,T.keep _ _ _ st6 fun b hb o q=>(I9.pin (b,o) (w0l _ (w0l _ (q2k hb q)))).1,fun b hb=>?_,w9⟩
    obtain⟨o,q,d⟩:=T.obj _ _ st6 b hb;exact(I9.pin (b,o) (w0l _ (w0l _ (q2k hb q)))).2.1
   cases ok with
   |false=>exact again I8 kp (by simpa using q8)
   |true=>
    have q8':=by simpa only[if_true]using q8
    refine thn (he _ _ _ _ _ _ s8 σ7 H8 _ I8 q8') fun y s9 ⟨yv,H9,I9,r9,ys,hD,hz,q9⟩=>?_
    refine thn (q62 _ s9 σ7 H9 (.ref s2.heap.objs.size) [yv] (.ref s2.heap.objs.size) [y] (fun v H'=>v=.non/\H'=upd H9 s2.heap.objs.size (.lst (ys++[yv]))) I9 rfl (.cons r9 .nil) ⟨_,ys,yv,rfl,rfl,hD,hz,rfl,rfl⟩) fun _ s10 ⟨_,H10,I10,_,_,e10⟩=>?_
    subst e10;exact again I10 kp q9
 exact codeAny_compStart_list (loop _ rfl) (T.self X.A 0 _ _ _ stS (loop _ rfl))
end
variable{X:Cx}
theorem x67{y:Str}{py spos:Pos}{gy:TG}{elt target iter:Expr}{ifs:List Expr}{scope sc:Scope}{pos:Pos}{wi:TI}{g:TG}{tc:TT}{te:TE}{Nl Nf N:List Str}{js:List Nat}(hc:X.calm=true)(hi:PI X target iter wi)
  (ok:compOk sc scope N Nf js=true)
  (hg:∀cl C s₀ H₀ ex,PG (X.cp (Nl++Nf) scope cl C s₀ H₀ ex) target g)(ht:∀cl C s₀ H₀ ex,PTs (X.cp (Nl++Nf) scope cl C s₀ H₀ ex) ifs tc)(he:∀cl C s₀ H₀ ex,PE (X.cp (Nl++Nf) scope cl C s₀ H₀ ex) elt te)
  (hgy:PG X (.Name y py) gy)(hsw:swapsWith (.ListComp elt [⟨target,iter,ifs,0⟩] scope pos) (some (.Name y py)) spos.line X.env=pure true)
  (hsc:X.env.scope=sc:=by rfl)(hN:X.N=N:=by rfl)(hs:∀x,foldedSetIterable iter X.env x=pure x:=by intro _;rfl):
  PS X (.Assign [.Name y py] (.ListComp elt [⟨target,iter,ifs,0⟩] scope pos) spos) (tAsg (tComp wi Nl.length js g tc te) gy):=by
 unfold compOk at ok;simp only[w0y,w0s,beq_iff_eq,bne_iff_ne,w3j,w0o]at ok;obtain⟨⟨⟨⟨⟨⟨k1,k2⟩,k3⟩,k4⟩,k5⟩,k6⟩,k7⟩:=ok;have kind:∀x,X.env.kindOf x=sc.names.lookup x:=fun x=>by rw[<- hsc];rfl
 refine y0e hc hi k1 k2 (fun x hx hl=>(k3 x hx).resolve_left fun z=>z hl) (fun x hx hf=>?_) (fun i j y e1 e2=>?_) k5 (fun y hy=>?_) (fun y hy=>?_) hg ht he hgy hsw hs
 ·rw[kind];rcases k4 x hx with(z|z)|z
  ·exact absurd hf z
  ·exact .inl z
  ·exact .inr z
 ·have hlt:i<js.length:=(w0b.mp e2).1;have z:=k6 i hlt;rw[e1,e2]at z;rw[hN]
  simpa using z
 ·obtain⟨z1,z2⟩:=k7 y hy;refine⟨PySem.mem_of_lookup z1,?_,?_⟩
  ·rw[hsc];rcases z2 with z|z
   ·exact .inr (.inl z)
   ·exact .inr (.inr z)
  ·rw[kind];rcases z2 with z|z<;>(rw[z];decide)
 ·exact q5m (k7 y hy).1
def rCatS(K:Fg):R2:=fun x y H Q=>∃l b xs zs,x=.ref l/\y=.ref b/\SqL K H l xs/\SqL K H b zs/\xs.length+zs.length<=sizeLine/\∀p,H p=none->Q (.ref p) (upd H p (.lst (xs++zs)))
theorem x4j:OpR X (binaryOp .Add) (rCatS X.K):=by
 intro pins s σ H x y v u Q I rx ry h;obtain⟨l,b,xs,zs,rfl,rfl,h1,h2,hz,q⟩:=h;cases rx;cases ry;obtain⟨its,r1,p1,_⟩:=I.list h1;obtain⟨its2,r2,p2,_⟩:=I.list h2;obtain⟨⟨cls,dd,data,sl⟩,ho,hc,n,hd⟩:=id p1.isList;obtain⟨⟨cls2,dd2,data2,sl2⟩,ho2,hc2,n2,hd2⟩:=id p2.isList;simp only at hc hd hc2 hd2;subst hc hd hc2 hd2;have l1:=r1.length;have l2:=r2.length;refine concat_meets ⟨_,ho,rfl⟩ ⟨_,ho2,rfl⟩ noFill_list_add seq_list_add PySem.F.slot_list_add PySem.F.entry_list_add (PySem.F.args_list_add_2 _ _) (list_addW l b its.toArray its2.toArray n n2 dd dd2 sl sl2 (by simp only[w0e];omega)) ⟨ho,ho2,?_⟩;have ea:its.toArray++its2.toArray=(its++its2).toArray:=by simp
 rw[ea];exact⟨.ref _,_,I.lnew (t':=s.toks) (r1.append r2) (by rw[w1o];omega),rfl,q _ I.fresh⟩
end L2
namespace D
open PySem L2
variable{a:Addr}{A:Around}{vs ys:Array Value}{X:Cx}{dA p:Den (List W)}{c cc:Den Bool}{d da db dk:Den W}{h h':Heap}{G G' G1 H:Hp}{lo:Int}{EE:L2.St->XK}{pins:List (Addr×Obj)}{ps:List (W×W)}{elts es:List Expr}{js:List Nat}{e pe:List S}{q s1:List S->SR}{xs:List V}{us ws:List W}{f:List W->Option W}{i j kt n:Nat}{b:Option Nat}{apos cpos p1 p2 pn pos:Pos}{P:Program}{K:Fg}{s:Shared}{σ:St}{st:Stmt}{x y:Str}{α:Type}{v v':V}{u u':Value}{w w':W}{Z:Zt}
def addW:W->W->Option W
 |.int i,.int j=>some (.int (i+j))
 |.str x,.str y=>if x.length+y.length<=16777216 then some (.str (x++y))else none
 |.tup xs,.tup ys=>if xs≠[]/\xs.length+ys.length<=16777216 then some (.tup (xs++ys))else none
 |.lst xs,.lst ys=>if xs.length+ys.length<=16777216 then some (.lst (xs++ys))else none
 |_,_=>none
def subW:W->W->Option W
 |.int i,.int j=>some (.int (i-j))
 |_,_=>none
def mulW:W->W->Option W
 |.int i,.int j=>if(-(2^64)<i/\i<2^64)\/(-(2^64)<j/\j<2^64)then some (.int (i*j))else none
 |_,_=>none
def fdivW:W->W->Option W
 |.int i,.int j=>if 0<j/\j<1073741824 then some (.int (i / j))else none
 |_,_=>none
def modW:W->W->Option W
 |.int i,.int j=>if 0<j then some (.int (i%j))else none
 |_,_=>none
def ltW:W->W->Option W
 |.int i,.int j=>some (.bl (decide (i<j)))
 |_,_=>none
def leW:W->W->Option W
 |.int i,.int j=>some (.bl (decide (i<=j)))
 |_,_=>none
def gtW:W->W->Option W
 |.int i,.int j=>some (.bl (decide (j<i)))
 |_,_=>none
def negW:W->Option W
 |.int i=>some (.int (-i))
 |_=>none
theorem x68:Op2 K (fun x y H Q=>rI0 (fun i j=>.int (i+j)) x y H Q\/((∃i j,x=.str i/\y=.str j/\i.length+j.length<=sizeLine/\Q (.str (i++j)) H)\/(rCatT K x y H Q\/rCatS K x y H Q))) addW:=by
 intro G H x y wx wy w Q s px py hf h;unfold addW at hf;split at hf
 ·cases hf;cases px;cases py;exact .inl ⟨_,_,rfl,rfl,h G _ H (.refl s) rfl⟩
 ·split at hf
  ·rename_i hl;cases hf;cases px;cases py;exact .inr (.inl ⟨_,_,rfl,rfl,by rw[sizeLine_eq];exact hl,h G _ H (.refl s) rfl⟩)
  ·cases hf
 ·rename_i us ws;split at hf
  ·rename_i hl;cases hf;obtain⟨a,xs,rfl,ha,ra⟩:=px;obtain⟨b,ys,rfl,hb,rb⟩:=py;have l1:=ra.length;have l2:=rb.length;refine .inr (.inr (.inl ⟨a,b,xs,ys,rfl,rfl,s.tup ha,s.tup hb,fun z=>hl.1 ?_,by rw[l1,l2,sizeLine_eq];exact hl.2,fun z=>?_,fun z p hp=>?_⟩))
   ·subst z;cases us with
    |nil=>rfl
    |cons _ _=>simp at l1
   ·subst z
    have:ws=[]:=by cases ws with
     |nil=>rfl
     |cons _ _=>simp at l2
    subst this;exact h G _ H (.refl s) ⟨a,xs,rfl,ha,by simpa using ra⟩
   ·have g:=Grow.laid s hp (.tup (xs++ys));exact h _ _ _ g ⟨p,_,rfl,SqT.of q0f,Reps.append (Reps.mono g.gg _ ra) (Reps.mono g.gg _ rb)⟩
  ·cases hf
 ·split at hf
  ·rename_i hl;cases hf;obtain⟨a,xs,rfl,ha,ra⟩:=px;obtain⟨b,ys,rfl,hb,rb⟩:=py;have l1:=ra.length;have l2:=rb.length;refine .inr (.inr (.inr ⟨a,b,xs,ys,rfl,rfl,s.seq ha,s.seq hb,by rw[l1,l2,sizeLine_eq];exact hl,fun p hp=>?_⟩))
   have g:=Grow.laid s hp (.lst (xs++ys));exact h _ _ _ g ⟨p,_,rfl,SqL.of q0f,Reps.append (Reps.mono g.gg _ ra) (Reps.mono g.gg _ rb)⟩
  ·cases hf
 ·cases hf
theorem y8z:Op2 K (rI0 fun i j=>.int (i-j)) subW:=by
 intro G H x y wx wy w Q s px py hf h;unfold subW at hf;split at hf
 ·cases hf;cases px;cases py;exact⟨_,_,rfl,rfl,h G _ H (.refl s) rfl⟩
 ·cases hf
theorem y80:Op2 K (rI CMul fun i j=>.int (i*j)) mulW:=by
 intro G H x y wx wy w Q s px py hf h;unfold mulW at hf;split at hf
 ·split at hf
  ·rename_i hc;cases hf;cases px;cases py;exact⟨_,_,rfl,rfl,hc,h G _ H (.refl s) rfl⟩
  ·cases hf
 ·cases hf
theorem y40:Op2 K (rI CDiv fun i j=>.int (i / j)) fdivW:=by
 intro G H x y wx wy w Q s px py hf h;unfold fdivW at hf;split at hf
 ·split at hf
  ·rename_i hc;cases hf;cases px;cases py;exact⟨_,_,rfl,rfl,hc,h G _ H (.refl s) rfl⟩
  ·cases hf
 ·cases hf
theorem y81:Op2 K (rI (fun _ j=>0<j) fun i j=>.int (i%j)) modW:=by
 intro G H x y wx wy w Q s px py hf h;unfold modW at hf;split at hf
 ·split at hf
  ·rename_i hc;cases hf;cases px;cases py;exact⟨_,_,rfl,rfl,hc,h G _ H (.refl s) rfl⟩
  ·cases hf
 ·cases hf
theorem y3t:Op2 K (rI0 fun i j=>.bl (decide (i<j))) ltW:=by
 intro G H x y wx wy w Q s px py hf h;unfold ltW at hf;split at hf
 ·cases hf;cases px;cases py;exact⟨_,_,rfl,rfl,h G _ H (.refl s) rfl⟩
 ·cases hf
theorem z2o:Op2 K (rI0 fun i j=>.bl (decide (i<=j))) leW:=by
 intro G H x y wx wy w Q s px py hf h;unfold leW at hf;split at hf
 ·cases hf;cases px;cases py;exact⟨_,_,rfl,rfl,h G _ H (.refl s) rfl⟩
 ·cases hf
theorem y3u:Op2 K (rI0 fun i j=>.bl (decide (j<i))) gtW:=by
 intro G H x y wx wy w Q s px py hf h;unfold gtW at hf;split at hf
 ·cases hf;cases px;cases py;exact⟨_,_,rfl,rfl,h G _ H (.refl s) rfl⟩
 ·cases hf
theorem y82:Op1 K (rU fun i=>.int (-i)) negW:=by
 intro G H x wx w Q s px hf h;unfold negW at hf;split at hf
 ·cases hf;cases px;exact⟨_,rfl,h G _ H (.refl s) rfl⟩
 ·cases hf
mutual
def eqW:W->W->Option Bool
 |.non,.non=>some true
 |.non,.bl _=>some false|.non,.int _=>some false|.non,.str _=>some false|.non,.tup _=>some false|.non,.lst _=>some false
 |.bl a,.bl b=>some (a==b)
 |.bl a,.int b=>some ((if a then 1 else 0)==b)
 |.bl _,.non=>some false|.bl _,.str _=>some false|.bl _,.tup _=>some false|.bl _,.lst _=>some false
 |.int a,.int b=>some (a==b)
 |.int a,.bl b=>some (a==(if b then 1 else 0))
 |.int _,.non=>some false|.int _,.str _=>some false|.int _,.tup _=>some false|.int _,.lst _=>some false
 |.str a,.str b=>some (a==b)
 |.str _,.non=>some false|.str _,.bl _=>some false|.str _,.int _=>some false|.str _,.tup _=>some false|.str _,.lst _=>some false
 |.tup _,.non=>some false|.tup _,.bl _=>some false|.tup _,.int _=>some false|.tup _,.str _=>some false|.tup _,.lst _=>some false
 |.lst _,.non=>some false|.lst _,.bl _=>some false|.lst _,.int _=>some false|.lst _,.str _=>some false|.lst _,.tup _=>some false
 |.tup xs,.tup ys=>eqWs xs ys
 |.lst xs,.lst ys=>eqWs xs ys
 |.exc _,_=>none
 |_,.exc _=>none
 |.dic _,_=>none
 |_,.dic _=>none
 |.dw _ _ _ _,_=>none
 |.fn _ _ _,_=>none
 |_,.dw _ _ _ _=>none
 |_,.fn _ _ _=>none
def eqWs:List W->List W->Option Bool
 |[],[]=>some true
 |[],_::_=>some false
 |_::_,[]=>some false
 |x::xs,y::ys=>match eqW x y,eqWs xs ys with
  |some a,some b=>some (a&&b)
  |_,_=>none
end
def ixW:W->W->Option W
 |.tup ws,.int i=>atI ws i
 |.lst ws,.int i=>atI ws i
 |.str z,.int i=>if z.length<=16777216 then(atI z.cps.toList i).map fun c=>.str ⟨#[c]⟩else none
 |_,_=>none
theorem Reps.atI{i:Int}(r:Reps K G ws xs)(h:L2.atI ws i=some w):∃x,L2.atI xs i=some x/\Rep K G w x:=by
 unfold L2.atI at h |-
 rw[r.length];cases q:ixN ws.length i with
 |none=>rw[q]at h;cases h
 |some j=>
  rw[q]at h;exact r.get h
theorem y3v:Op2 K (rIx K) ixW:=by
 intro G H x y wx wy w Q s px py hf h;unfold ixW at hf;split at hf
 ·obtain⟨a,xs,rfl,ha,ra⟩:=px;cases py;obtain⟨v,hv,rv⟩:=ra.atI hf;exact .inr (.inl ⟨a,xs,_,v,rfl,rfl,s.tup ha,hv,h G v H (.refl s) rv⟩)
 ·obtain⟨a,xs,rfl,ha,ra⟩:=px;cases py;obtain⟨v,hv,rv⟩:=ra.atI hf;exact .inl ⟨a,xs,_,v,rfl,rfl,s.seq ha,hv,h G v H (.refl s) rv⟩
 ·cases px;cases py;split at hf
  ·rename_i hl;obtain⟨c,hc,rfl⟩:=w0d.mp hf;exact .inr (.inr ⟨_,_,c,rfl,rfl,by rw[sizeLine_eq];exact hl,hc,h G _ H (.refl s) rfl⟩)
  ·cases hf
 ·cases hf
def S.look:S->Option W
 |.fr w=>some w
 |.own _ ws=>some (.lst ws)
 |.no=>none
 |.dic _=>none
 |.thr _ _ _=>none
 |.nest _=>none
 |.x k=>k.look
 |.dw _ _ _=>none
def dIxV(i:Nat)(d:Den W):Den W:=fun e=>match e[i]?.bind S.look with
 |none=>.no
 |some _=>(d e).bind fun k e1=>match e1[i]?.bind S.look with
  |none=>.no
  |some w=>ofOpt (ixW w k) e1
def lenW:W->Option W
 |.str z=>if z.length<=16777216 then some (.int z.length)else none
 |.tup ws=>some (.int ws.length)
 |.lst ws=>some (.int ws.length)
 |_=>none
def len1:List W->Option W
 |[w]=>lenW w
 |_=>none
theorem x69:OpN K (fun xs H Q=>∃x n,xs=[x]/\LenV K x H n/\Q (.int n) H) len1:=by
 intro G H xs ws w Q s pr hf h;unfold len1 at hf;split at hf
 ·obtain⟨x,r,rfl,px,pr⟩:=pr;cases(show r=[]from pr);unfold lenW at hf;split at hf
  ·split at hf
   ·rename_i hl;cases hf;cases px;exact⟨_,_,rfl,⟨by rw[sizeLine_eq];exact hl,rfl⟩,h G _ H (.refl s) rfl⟩
   ·cases hf
  ·cases hf;obtain⟨a,xs,rfl,ha,ra⟩:=px;exact⟨_,_,rfl,.inr ⟨xs,s.tup ha,rfl⟩,h G _ H (.refl s) (by rw[ra.length];rfl)⟩
  ·cases hf;obtain⟨a,xs,rfl,ha,ra⟩:=px;exact⟨_,_,rfl,.inl ⟨xs,s.seq ha,rfl⟩,h G _ H (.refl s) (by rw[ra.length];rfl)⟩
  ·cases hf
 ·cases hf
def scalW:W->Bool
 |.non=>true|.bl _=>true|.int _=>true|.str _=>true|_=>false
theorem y0f(h:scalW w=true)(p:Rep K G w v):Rep K G' w v:=by
 cases w with
 |non=>exact p
 |bl b=>exact p
 |int i=>exact p
 |str x=>exact p
 |_=>cases h
def dFnV(i:Nat)(f:List W->Option W):Den W:=fun e=>match e[i]?.bind S.look with
 |none=>.no
 |some w=>match f [w]with
  |none=>.no
  |some v=>match e[i]? with
   |some (.fr _)=>.ok v e
   |_=>if scalW v=true then .ok v e else .no
section
variable{a b e:Expr}{p:Pos}
theorem q0h(ha:DE Z X EE a d)(hb:DE Z X EE b db)(hs:PlainIx b:=by intro _ _;rfl):DE Z X EE (.Subscript a b pos) (dOp ixW d db):=PE.mono (q8z x6t ha hb hs) (q32 y3v)
theorem Rel.look{e:List S}(r:Rel K Z G σ H e)(h:e[i]?.bind S.look=some w):∃v,σ[i]?=some (some v) /\
  (Rep K G w v\/∃ws a xs u,(∀z,e[i]?≠some (.fr z))/\w=.lst ws/\v=.ref a/\H a=some u/\(u=.lst xs\/∃o,u=.frz o (.lst xs))/\G a=none/\Reps K G ws xs):=by
 obtain⟨s,h1,h2⟩:=w1l.mp h;cases s with
 |no=>cases h2
 |dic _=>cases h2
 |thr _ _ _=>cases h2
 |nest _=>cases h2
 |dw _ _ _=>cases h2
 |fr w'=>
  cases h2;obtain⟨v,h3,h4⟩:=r.fr h1;exact⟨v,h3,.inl h4⟩
 |x k=>
  have q:=r.slot i _ h1;cases k with
  |old w'=>cases h2;obtain⟨v,h1',h3⟩:=r.plain h1 rfl;exact⟨v,h1',.inl h3⟩
  |new w'=>cases h2;obtain⟨v,h1',h3⟩:=r.plain h1 rfl;exact⟨v,h1',.inl h3⟩
  |acc ws=>cases h2;obtain⟨a,o,xs,k1,⟨k2,k3,_⟩,k5⟩:=q;exact⟨.ref a,r.at h1 fun _=>k1,.inr ⟨ws,a,xs,_,(fun z y=>by rw[h1]at y;cases y),rfl,rfl,k2,.inr ⟨o,rfl⟩,k3,RepNs.reps _ k5⟩⟩
  |_=>cases h2
 |own b ws=>
  cases h2;obtain⟨a,xs,h3,h4,h5,h6,h7⟩:=r.own h1;exact⟨.ref a,h3,.inr ⟨ws,a,xs,_,(fun z y=>by rw[h1]at y;cases y),rfl,rfl,h4,.inl rfl,h5,h7⟩⟩
theorem x7a{K:Fg}{a:Addr}{u:HO}(s:Same G H)(h:H a=some u)(hg:G a=none):Same G (upd G a u)/\Same (upd G a u) H:=
 ⟨q23 hg _,fun c o z=>by
  by_cases hc:c=a
  ·subst hc;rw[q0f]at z;cases z;exact h
  ·rw[q0b hc]at z;exact s c o z⟩
theorem q6b(i:Nat)(hb:DE Z X EE b d)(hN:X.N[i]?=some x:=by rfl)(hv:Vis X.env.scope x:=by walk_at "1")(hd:(x==("__debug__":Str))=false:=by decide)
  (hcd:(x==("__classdict__":Str))=false:=by decide)(hs:PlainIx b:=by intro _ _;rfl):DE Z X EE (.Subscript (.Name x p) b pos) (dIxV i d):=by
 refine PE.mono (q8z x6t (pv i hN hv hd hcd) hb hs) ?_;rintro σ H Q ⟨G,e,rel,h⟩;unfold dIxV at h;split at h
 ·exact h.elim
 ·rename_i w0 hw0;obtain⟨v,hv,_⟩:=rel.look hw0;refine⟨v,hv,G,e,rel,(R.holds_bind.mp h).imp (fun k e1 h G1 u H1 r1 s1 p1=>?_) fun _ _ h=>h⟩
  split at h
  ·exact h.elim
  ·rename_i w hw;obtain⟨w',hf,h2⟩:=ofOpt_holds.mp h;obtain⟨v',hv',q⟩:=r1.look hw;rw[hv]at hv';cases hv';rcases q with q|⟨ws,a,xs,u,he,rfl,rfl,q1,qu,q2,q3⟩
   ·exact y3v G1 H1 v u w k w' Q r1.sub q p1 hf fun G' v H' g p=>h2 G' v H' (r1.grow g) (s1.trans g.gg) p
   ·-- an item of one's own list
    unfold ixW at hf;split at hf
    ·rename_i heq;cases heq
    ·rename_i heq;cases heq;cases p1;obtain⟨y,hy,ry⟩:=q3.atI hf;refine .inl ⟨a,xs,_,y,rfl,rfl,?_,hy,h2 G1 y H1 r1 s1 ry⟩;rcases qu with rfl|⟨o,rfl⟩
     ·exact SqL.of q1
     ·exact .inl (.inr ⟨o,q1⟩)
    ·rename_i heq;cases heq
    ·cases hf
theorem y83{r:List V->Hp->VK->Prop}(i:Nat){id:String}{fn:Str}(hc:CallR X (.builtin id) r)(hf:OpN X.K r f)(hv:bootBuiltins fn=some (.builtin id))(hm:X.mg fn=none)
  (hN:X.N[i]?=some x:=by rfl)(hvis:Vis X.env.scope x:=by walk_at "1")(hd:(x==("__debug__":Str))=false:=by decide)(hcd:(x==("__classdict__":Str))=false:=by decide)
  (hg:Gl X fn:=by rfl)(hn:fn≠"__name__":=by decide)(hdb:(fn==("__debug__":Str))=false:=by decide)(hs:starEach [.Name x p] X.env=(false,eval (.Name x p) X.env)::starEach [] X.env:=by rfl)(hpl:(backTo pos (starEach [] X.env)).any (·.1)=false:=by rfl):
  DE Z X EE (.Call (.Name fn pn) [.Name x p] [] pos) (dFnV i f):=by
 refine PE.mono (x18 hc hg hm hv (q2u (pv i hN hvis hd hcd) q5k hs) hn hdb hs hpl) ?_;rintro σ H Q ⟨G,e,rel,h⟩;unfold dFnV at h;split at h
 ·exact h.elim
 ·rename_i w hw;split at h
  ·exact h.elim
  ·rename_i y hy;obtain⟨v,hv,q⟩:=rel.look hw;refine⟨v,hv,?_⟩;rcases q with q|⟨ws,a,xs,u,he,rfl,rfl,q1,qu,q2,q3⟩
   ·refine hf G H [v] [w] y Q rel.sub (.one q) hy fun G' v H' g p=>?_
    split at h
    ·exact h G' v H' (rel.grow g) g.gg p
    ·split at h
     ·exact h G' v H' (rel.grow g) g.gg p
     ·exact h.elim
   ·split at h
    ·rename_i hz;exact absurd hz (he _)
    split at h
    ·rename_i hsc;obtain⟨s1,s2⟩:=x7a (K:=X.K) rel.sub q1 q2
     have hsq:SqL X.K (upd G a u) a xs:=by
      rcases qu with rfl|⟨o,rfl⟩
      ·exact SqL.of q0f
      ·exact .inl (.inr ⟨o,q0f⟩)
     refine hf (upd G a u) H [.ref a] [.lst ws] y Q s2 (.one ⟨a,xs,rfl,hsq,Reps.mono s1 ws q3⟩) hy fun G' v H' g p=>?_
     have g':Grow G H G H':=⟨g.hh,.refl _,rel.sub.trans g.hh,fun _ _=>rfl⟩
     exact(show ∀G' v H',_->_->Rep X.K G' y v->Q v H' from h) G v H' (rel.grow g') (.refl _) (y0f hsc p)
    ·exact h.elim
def dApp(i:Nat)(d:Den (List W)):List S->SR:=fun e=>match e[i]? with
 |some (.own _ _)=>(d e).stm fun ws e1=>match ws,e1[i]? with
  |[w],some (.own b xs)=>if xs.length<16777216 then .nx (e1.set i (.own b (xs++[w])))else .no
  |_,_=>.no
 |_=>.no
theorem q24(i:Nat)(ha:DA Z X EE (e::es) dA)(hN:X.N[i]?=some x:=by rfl)(hv:Vis X.env.scope x:=by walk_at "1")(hd:(x==("__debug__":Str))=false:=by decide)(hcd:(x==("__classdict__":Str))=false:=by decide)
  (hbase:attributeBase (.Name x p) "append" X.env (eval (.Name x p) X.env)=eval (.Name x p) X.env:=by rfl)
  (hfew:((backTo cpos (starEach (e::es) X.env)).all (fun x=>!x.1)&&(backToKw cpos (keywordEach [] X.env)).all (fun x=>x.1.isSome)&&decide ((e::es).length+([]:List Keyword).length+(if([]:List Keyword).isEmpty then 0 else 1)<30))=true:=by rfl)
  (hline:(apos.endLine==cpos.line)=true:=by rfl)(hs:starEach (e::es) X.env=(false,eval e X.env)::starEach es X.env:=by rfl)(hplain:(backTo cpos (starEach es X.env)).any (·.1)=false:=by rfl)
  (hsw:swapsWith (.Call (.Attribute (.Name x p) "append" apos) (e::es) [] cpos) none pos.line X.env=pure false:=by rfl):
  DS Z X EE (.Expr (.Call (.Attribute (.Name x p) "append" apos) (e::es) [] cpos) pos) (dApp i dA):=by
 refine PS.mono (q7p (x60 (pv i hN hv hd hcd) ha hbase hfew hline hs hplain) hsw) ?_;rintro D σ H ⟨G,e,rel,h⟩;unfold dApp at h;split at h
 ·rename_i b0 ws0 he0;obtain⟨a,xs,h1,h2,h3,h4,h5⟩:=rel.own he0;refine⟨.ref a,h1,.inl ⟨rfl,xs,SqL.of h2⟩,G,e,rel,(q0r h).imp (fun ws e1 h G1 vs H1 r1 s1 p1=>?_) fun _ _ h=>h⟩
  split at h
  ·rename_i w b ys he1;obtain⟨a',zs,g1,g2,g3,g4,g5⟩:=r1.own he1;rw[h1]at g1;cases g1;obtain⟨y,r,rfl,py,pr⟩:=p1;cases(show r=[]from pr);split at h
   ·rename_i hl;refine⟨a,zs,y,rfl,rfl,g2,by rw[g5.length,sizeLine_eq];exact hl,?_⟩;exact h G1 σ _ (r1.mut he1 h1 (g5.append (.one py))) s1
   ·exact h.elim
  ·exact h.elim
 ·exact h.elim
end
def compD(c:Den Bool)(d:Den W)(pe:List S):List W->Option (List W)
 |[]=>some []
 |w::ws=>match c (.fr w::pe)with
  |.ok true e1=>match d e1 with
   |.ok y _=>(compD c d pe ws).map (y::·)
   |_=>none
  |.ok false _=>compD c d pe ws
  |_=>none
def frz1(e:List S)(j:Nat):List S:=match e[j]? with
 |some (.own none ws)=>e.set j (.fr (.lst ws))
 |_=>e
def frzs(js:List Nat)(e:List S):List S:=js.foldl frz1 e
def pj1(e:List S)(j:Nat):S:=match e[j]? with
 |some (.fr w)=>.fr w
 |_=>.no
def pjS(js:List Nat)(e:List S):List S:=js.map (pj1 e)
def compK(js:List Nat)(c:Den Bool)(d:Den W)(ws:List W)(e1:List S):R (List W):=
 if ws.length<=16777216 then(match compD c d (pjS js (frzs js e1)) ws with
  |some out=>.ok out (frzs js e1)
  |none=>.no)else .no
def dComp(js:List Nat)(di:Den W)(c:Den Bool)(d:Den W):Den (List W):=fun e=>(di e).bind fun w e1=>match seqW w with
 |some ws=>compK js c d ws e1
 |none=>.no
def dCompR(g:List W->Option (List W))(js:List Nat)(di:Den (List W))(c:Den Bool)(d:Den W):Den (List W):=fun e=>(di e).bind fun w e1=>match g w with
 |some ws=>compK js c d ws e1
 |none=>.no
def dYes:Den Bool:=fun e=>.ok true e
section
variable{H1:Hp}{e1:List S}
theorem Rel.frzs(r:Rel K Z G σ H e):∀(js:List Nat),∃G',Same G G'/\Rel K Z G' σ H (frzs js e):=by
 intro js
 induction js generalizing G e with
 |nil=>exact⟨G,.refl _,r⟩
 |cons j js ih=>
  have one:∃G',Same G G'/\Rel K Z G' σ H (frz1 e j):=by
   unfold frz1;split
   ·rename_i ws hw;obtain⟨v,G',_,s,_,r'⟩:=r.freeze hw;exact⟨G',s,r'⟩
   ·exact⟨G,.refl _,r⟩
  obtain⟨G1,s1,r1⟩:=one;obtain⟨G2,s2,r2⟩:=ih r1;exact⟨G2,s1.trans s2,r2⟩
theorem Rel.block(r:Rel K Z G σ H e)(js:List Nat){x:V}(p:Rep K G w x):Rel K ⟨H,G,[]⟩ G (some x::pj js σ) H (.fr w::pjS js e):=by
 have hfr:∀(i:Nat)(s:S),(S.fr w::pjS js e)[i]?=some s->s=.no\/∃u,s=.fr u/\((i=0/\u=w)\/∃k j,i=k+1/\js[k]?=some j/\e[j]?=some (.fr u)):=fun i s h=>by
  cases i with
  |zero=>cases h;exact .inr ⟨w,rfl,.inl ⟨rfl,rfl⟩⟩
  |succ k=>
   rw[w0q]at h;unfold pjS at h;rw[w0i]at h;obtain⟨j,h1,h2⟩:=w0d.mp h;unfold pj1 at h2;split at h2
   ·rename_i u hu;subst h2;exact .inr ⟨u,rfl,.inr ⟨k,j,rfl,h1,hu⟩⟩
   ·subst h2;exact .inl rfl
 refine⟨r.sub,fun i s h=>?_,?_,fun i j b b' w1 w2 a h1 h2 _ _=>?_,fun a o h _=>h,(fun a h=>nomatch h),fun a _=>rfl⟩
 ·rcases hfr i s h with rfl|⟨u,rfl,⟨rfl,rfl⟩|⟨k,j,rfl,h1,h2⟩⟩
  ·trivial
  ·exact⟨x,rfl,p⟩
  ·obtain⟨v,h3,h4⟩:=r.fr h2;refine⟨v,?_,h4⟩;rw[w0q];unfold pj;rw[w0i,h1];simp[h3]
 ·simp[pjS,pj]
 ·rcases hfr i _ h1 with z|⟨u,z,_⟩<;>cases z
theorem Rel.mutFree(r:Rel K Z G σ H e){o:HO}(hg:G a=none)(hz:Z.H a=none)(hi:a∉Z.io)(hf:Free σ e a){ls:List V}(hls:H a=some (.lst ls)):Rel K Z G σ (upd H a o) e:=by
 refine⟨fun c u z=>?_,fun j s z=>?_,r.len,r.dis,fun c u z n=>?_,fun c z=>?_,r.gen⟩
 ·rw[q0b (q0i z hg)];exact r.sub c u z
 ·have y:=r.slot j s z;cases s with
  |no=>trivial
  |fr w=>exact y
  |own b2 w2=>
   obtain⟨c,ys,y1,y2,y3,y4,y5⟩:=y;refine⟨c,ys,y1,?_,y3,y4,y5⟩;rw[q0b];exact y2;rintro rfl;obtain⟨c',_,z1,_⟩:=r.own z;rw[z1]at y1;cases y1;exact hf j b2 w2 z z1
  |dic kvs=>
   obtain⟨c,y1,y2,y3,y4⟩:=y;refine⟨c,y1,?_,y3,y4⟩;rw[q0b (q0o y2 hls (q2l rfl))];exact y2
  |thr us w2 vs=>
   obtain⟨t,l,o,xs2,ys,zs,y1,y2,y3,y4,y5,y6⟩:=y;refine⟨t,l,o,xs2,ys,zs,y1,y2,?_,y4,y5,y6⟩;rw[q0b (q0o y3 hls (fun z=>nomatch z))];exact y3
  |nest wss=>exact NestOk.move y (.refl _) fun l o ys k1 k2 k3=>⟨by rw[q0b (q0o k1 hls (fun z=>nomatch z))];exact k1,k2,k3⟩
  |x k=>exact XOk.move y (.refl _) fun l o ys k1 k2 k3=>⟨by rw[q0b (q0o k1 hls (fun z=>nomatch z))];exact k1,k2,k3⟩
  |dw sh ks ws=>exact DwOk.move y (.refl _) fun l o ys k1 k2 k3=>⟨by rw[q0b (q0o k1 hls (q18 rfl))];exact k1,k2,k3⟩
 ·rw[q0b (q0i z hz)];exact r.ent c u z n
 ·by_cases hc:c=a
  ·subst hc;exact absurd z hi
  ·rw[q0b hc];exact r.ion c z
structure Walk(J:It)(xs:List V)(SQ:Hp->Prop):Prop where
 go:∀i H,SQ H->i<xs.length->J.go i H
 yld:∀i H x H',SQ H->J.yld i H x H'->i<xs.length->H'=H/\xs[i]?=some x
 stop:∀i H,SQ H->xs.length<=i->J.stop i H
theorem x2f:Walk (Itl K a) xs (fun H=>SqL K H a xs):=
 ⟨fun i H q h=>⟨xs,xs[i],q,by simp[h]⟩,fun i H x H' q ⟨e,y⟩ h=>⟨e,y xs q⟩,fun i H q h=>⟨xs,q,h⟩⟩
theorem x2g:Walk (Itt K a) xs (fun H=>SqT K H a xs):=
 ⟨fun i H q h=>⟨xs,xs[i],q,by simp[h]⟩,fun i H x H' q ⟨e,y⟩ h=>⟨e,y xs q⟩,fun i H q h=>⟨xs,q,h⟩⟩
theorem y84:Walk (Itr lo n) ((List.range n).map fun k=>V.int (lo+(k:Nat))) (fun _=>True):=
 ⟨fun i H q h=>show i<n by simpa using h,fun i H x H' q ⟨e,y⟩ h=>⟨e,by simp at h;simp[h,y]⟩,fun i H q h=>show n<=i by simpa using h⟩
theorem q9x{J:It}{SQ:Hp->Prop}{out:List W}{Q:VK}{G0:Hp}(W0:Walk J xs SQ)(r1:Rel K Z G1 σ H1 e1)(s1:Same G0 G1)(rp:Reps K G1 ws xs)(hSQ:∀G' H',Same G1 G'->Same G' H'->SQ H')(hl:ws.length<=16777216)
  (hz:∀p,H1 p=none->p∉Z.io)(hc:compD c d (pjS js e1) ws=some out)
  (h:∀G' a xs H',Rel K Z G' σ H' e1->Same G0 G'->H' a=some (.lst xs)->G' a=none->Z.H a=none->Free σ e1 a->Reps K G' out xs->Q (.ref a) H'):
  ∀D,H1 D=none->∃W:Nat->Nat->Hp->Prop,(∃m,W 0 m (upd H1 D (.lst [])))/\∀i m H2,W i m H2 ->
   (J.stop i H2/\Q (.ref D) H2)\/(J.go i H2/\∀x H3,J.yld i H2 x H3->gName 0 x (List.replicate 1 none++pj js σ) H3 fun σ4 H4=>Kp (List.replicate 1 none++pj js σ) σ4/\(fun σ H Q=>∃Z',liftT K Z' (fun _=>E0) c σ H Q) σ4 H4 fun b H5=>
    if b=true then(fun σ H Q=>∃Z',AtG K Z' σ H fun G e=>(d e).holds (fun w e'=>∀G' v H',Rel K Z' G' σ H' e'->Same G G'->Rep K G' w v->Q v H') (XH K Z' (fun _=>E0) σ G)) σ4 H5 fun y H6=>∃ys,H6 D=some (.lst ys)/\ys.length<sizeLine/\∃m',m'<m/\W (i+1) m' (upd H6 D (.lst (ys++[y])))else ∃m',m'<m/\W (i+1) m' H5):=by
 intro D hD;have hlen:=rp.length
 refine⟨fun i m H2=>m=ws.length-i/\i<=ws.length/\∃G2 ys done rest,Rel K Z G2 σ H2 e1/\Same G1 G2/\H2 D=some (.lst ys)/\G2 D=none/\Reps K G2 done ys/\done.length<=i/\compD c d (pjS js e1) (ws.drop i)=some rest/\done++rest=out,
  ⟨ws.length,by omega,w1k _,G1,[],[],out,r1.grow (Grow.hid r1.sub hD _),.refl _,q0f,r1.sub.free hD,rfl,w0j _,hc,rfl⟩,?_⟩
 rintro i m H2 ⟨rfl,hi,G2,ys,done,rest,r2,s2,hd2,hg2,rp2,hdl,hc2,ho⟩;have hfree:Free σ e1 D:=q4m r1 hD;have hzh:Z.H D=none:=q1y r1 hD
 by_cases hlt:i<ws.length
 ·refine .inr ⟨W0.go i H2 (hSQ G2 H2 s2 r2.sub) (by omega),fun x H3 hy=>?_⟩
  obtain⟨rfl,hx⟩:=W0.yld i H2 x H3 (hSQ G2 H2 s2 r2.sub) hy (by omega);obtain⟨w,hw,pw⟩:=rp.getV hx;rw[q7b hw]at hc2;refine⟨Kp.one,⟨H3,G2,[]⟩,G2,.fr w::pjS js e1,r2.block js (Rep.mono s2 w pw),?_⟩;unfold compD at hc2;cases qc:c (.fr w::pjS js e1)with
  |no=>rw[qc]at hc2;cases hc2
  |ex _ _=>rw[qc]at hc2;cases hc2
  |ok k e2=>
   rw[qc]at hc2;intro G3 H5 r3 s3;have g3:=r3.toGrow s3;cases k with
   |false=>
    exact⟨ws.length-(i+1),by omega,rfl,hlt,G3,ys,done,rest,r2.grow g3,s2.trans s3,g3.hh _ _ hd2,by rw[g3.new D (by rw[hd2];simp)];exact hg2,Reps.mono s3 _ rp2,by omega,hc2,ho⟩
   |true=>
    refine⟨⟨H3,G2,[]⟩,G3,e2,r3,?_⟩;dsimp only at hc2;cases qd:d e2 with
    |no=>rw[qd]at hc2;cases hc2
    |ex _ _=>rw[qd]at hc2;cases hc2
    |ok y e3=>
     rw[qd]at hc2;intro G4 v H6 r4 s4 p4;have g4:=r4.toGrow (s3.trans s4);obtain⟨rest',hr,rfl⟩:=w0d.mp hc2;have hd6:H6 D=some (.lst ys):=g4.hh _ _ hd2;have hg6:G4 D=none:=by rw[g4.new D (by rw[hd2];simp)];exact hg2
     refine⟨ys,hd6,?_,ws.length-(i+1),by omega,rfl,hlt,G4,ys++[v],done++[y],rest',(r2.grow g4).mutFree hg6 hzh (hz D hD) hfree hd6,s2.trans (s3.trans s4),q0f,hg6,(Reps.mono (s3.trans s4) _ rp2).append (.one p4),by simp;omega,hr,by rw[w0p];exact ho⟩;rw[rp2.length,sizeLine_eq];omega
 ·have:i=ws.length:=by omega
  subst this;rw[w2n]at hc2;cases hc2;rw[w1j]at ho;subst ho;exact .inl ⟨W0.stop _ H2 (hSQ G2 H2 s2 r2.sub) (by omega),h G2 D ys H2 r2 (s1.trans s2) hd2 hg2 hzh hfree rp2⟩
end
section
variable{elt iter a b:Expr}{ifs:List Expr}{scope sc:Scope}{pt:Pos}{Nf N:List Str}{di:Den W}
def DTs(Z:Zt)(X:Cx)(EE:L2.St->XK)(ifs:List Expr)(c:Den Bool):Prop:=PTs X ifs (liftT X.K Z EE c)
theorem q5f:DTs Z X EE [] dYes:=fun pins s σ H Q I ⟨G,e,r,h⟩=>y4o pins s σ H Q I (h G H r (.refl _))
theorem y41(h:DT Z X EE a c):DTs Z X EE [a] c:=y4p h
def cT(K:Fg)(c:Den Bool):TT:=fun σ H Q=>∃Z',liftT K Z' (fun _=>E0) c σ H Q
def cE(K:Fg)(d:Den W):TE:=fun σ H Q=>∃Z',AtG K Z' σ H fun G e=>(d e).holds (fun w e'=>∀G' v H',Rel K Z' G' σ H' e'->Same G G'->Rep K G' w v->Q v H') (XH K Z' (fun _=>E0) σ G)
theorem x7b{D:Ends}{r:R (List W)}{k:W->List S->SR}(h:PostS K Z EE D G ((r.bind fun ws e'=>.ok (.lst ws) e').stm k)):r.holds (fun ws e'=>PostS K Z EE D G (k (.lst ws) e')) (XH K Z EE σ G):=by
 cases r with
 |ok a e=>exact h
 |ex c e=>exact fun G' H' r q=>h G' σ H' r q
 |no=>exact h
theorem q84{Y:List Str}(ht:∀Z' cl C s₀ H₀ ex,DTs Z' (X.cp Y scope cl C s₀ H₀ ex) (fun _=>E0) ifs c):∀cl C s₀ H₀ ex,PTs (X.cp Y scope cl C s₀ H₀ ex) ifs (cT X.K c):=fun cl C s₀ H₀ ex pins s σ H Q I ⟨Z',h⟩=>ht Z' cl C s₀ H₀ ex pins s σ H Q I h
theorem x1t{Y:List Str}(he:∀Z' cl C s₀ H₀ ex,DE Z' (X.cp Y scope cl C s₀ H₀ ex) (fun _=>E0) elt d):∀cl C s₀ H₀ ex,PE (X.cp Y scope cl C s₀ H₀ ex) elt (cE X.K d):=fun cl C s₀ H₀ ex pins s σ H Q I ⟨Z',h⟩=>he Z' cl C s₀ H₀ ex pins s σ H Q I h
theorem ionone(r:Rel K Z G σ H e):∀p,H p=none->p∉Z.io:=fun p hp hi=>r.ion p hi hp
theorem x7c:∀σ H Q,liftF K Z EE (dComp js di c d) σ H Q->tComp (iSeq K (liftE K Z EE di)) 1 js (gName 0) (cT K c) (cE K d) σ H Q:=by
 rintro σ H Q ⟨G,e,rel,h⟩;simp only[dComp,R.holds_bind]at h;refine⟨G,e,rel,h.imp (fun w e1 h G1 v1 H1 r1 s1 p1=>?_) fun _ _ h=>h⟩
 split at h
 ·rename_i ws hw;unfold compK at h;split at h
  ·rename_i hl;split at h
   ·rename_i out ho;obtain⟨G2,s2,r2⟩:=r1.frzs js;have p2:=Rep.mono s2 w p1;have io:=ionone r2;cases w with
    |tup us=>
     cases hw;obtain⟨a,xs,rfl,hq,rp⟩:=p2;exact⟨a,rfl,.inr ⟨⟨xs,r2.sub.tup hq⟩,q9x x2g r2 (s1.trans s2) rp (fun G' H' s s'=>Same.tup s' (Same.tup s hq)) hl io ho h⟩⟩
    |lst us=>
     cases hw;obtain⟨a,xs,rfl,hq,rp⟩:=p2;exact⟨a,rfl,.inl ⟨⟨xs,r2.sub.seq hq⟩,q9x x2f r2 (s1.trans s2) rp (fun G' H' s s'=>Same.seq s' (Same.seq s hq)) hl io ho h⟩⟩
    |_=>cases hw
   ·exact h.elim
  ·exact h.elim
 ·exact h.elim
theorem y42(hc:X.calm=true)(hi:DE Z X EE iter di)(ok:compOk sc scope N Nf js=true)
  (ht:∀Z' cl C s₀ H₀ ex,DTs Z' (X.cp ([x]++Nf) scope cl C s₀ H₀ ex) (fun _=>E0) ifs c)(he:∀Z' cl C s₀ H₀ ex,DE Z' (X.cp ([x]++Nf) scope cl C s₀ H₀ ex) (fun _=>E0) elt d)
  (hg:∀cl C s₀ H₀ ex,PG (X.cp ([x]++Nf) scope cl C s₀ H₀ ex) (.Name x pt) (gName 0))
  (hsc:X.env.scope=sc:=by rfl)(hN:X.N=N:=by rfl)(hs:∀x,foldedSetIterable iter X.env x=pure x:=by intro _;rfl):
  DF Z X EE (.ListComp elt [⟨.Name x pt,iter,ifs,0⟩] scope pos) (dComp js di c d):=by
 exact PE.mono (q6i (Nl:=[x]) (tc:=cT X.K c) (te:=cE X.K d) hc (q82 hi) ok hg (q84 ht) (x1t he) hsc hN hs) x7c
theorem q85:∀σ H Q,liftF K Z EE (dCompR rng1 js dA c d) σ H Q->tComp (iRng1 (liftA K Z EE dA)) 1 js (gName 0) (cT K c) (cE K d) σ H Q:=by
 rintro σ H Q ⟨G,e,rel,h⟩;simp only[dCompR,R.holds_bind]at h;refine⟨G,e,rel,h.imp (fun ws e1 h G1 vs H1 r1 s1 p1=>?_) fun _ _ h=>h⟩
 unfold rng1 at h;split at h
 ·rename_i us hh;split at hh
  ·rename_i j;split at hh
   ·rename_i hj;cases hh;obtain⟨y,r,rfl,e1,e2⟩:=p1;cases(show y=V.int j from e1);cases(show r=[]from e2);refine⟨j,rfl,(q6a hj).1,(q6a hj).2,?_⟩;unfold compK at h;split at h
    ·rename_i hl;split at h
     ·rename_i out ho;obtain⟨G2,s2,r2⟩:=r1.frzs js;have z:=q9x (J:=Itr 0 (j-0).toNat) y84 r2 (s1.trans s2) (q83 (lo:=0) (hi:=j)) (fun _ _ _ _=>trivial) hl (ionone r2) ho h
      rwa [Int.sub_zero]at z
     ·exact h.elim
    ·exact h.elim
   ·cases hh
  ·cases hh
 ·exact h.elim
theorem y0g(hc:X.calm=true)(hm:X.mg "range"=none)(ha:DA Z X EE [a] dA)(ok:compOk sc scope N Nf js=true)
  (ht:∀Z' cl C s₀ H₀ ex,DTs Z' (X.cp ([x]++Nf) scope cl C s₀ H₀ ex) (fun _=>E0) ifs c)(he:∀Z' cl C s₀ H₀ ex,DE Z' (X.cp ([x]++Nf) scope cl C s₀ H₀ ex) (fun _=>E0) elt d)
  (hg:∀cl C s₀ H₀ ex,PG (X.cp ([x]++Nf) scope cl C s₀ H₀ ex) (.Name x pt) (gName 0))
  (hgr:Gl X "range":=by rfl)(hs1:starEach [a] X.env=[(false,eval a X.env)]:=by rfl)(hsc:X.env.scope=sc:=by rfl)(hN:X.N=N:=by rfl)(hs:∀x,foldedSetIterable (.Call (.Name "range" p1) [a] [] p2) X.env x=pure x:=by intro _;rfl):
  DF Z X EE (.ListComp elt [⟨.Name x pt,.Call (.Name "range" p1) [a] [] p2,ifs,0⟩] scope pos) (dCompR rng1 js dA c d):=by
 exact PE.mono (q6i (Nl:=[x]) (tc:=cT X.K c) (te:=cE X.K d) hc (q61 hgr hm ha hs1) ok hg (q84 ht) (x1t he) hsc hN hs) q85
theorem x3z(i:Nat){py spos:Pos}(hNd:X.N.Nodup)(hc:X.calm=true)(hm:X.mg "range"=none)(ha:DA Z X EE [a] dA)(ok:compOk sc scope N Nf js=true)
  (ht:∀Z' cl C s₀ H₀ ex,DTs Z' (X.cp ([x]++Nf) scope cl C s₀ H₀ ex) (fun _=>E0) ifs c)(he:∀Z' cl C s₀ H₀ ex,DE Z' (X.cp ([x]++Nf) scope cl C s₀ H₀ ex) (fun _=>E0) elt d)
  (hg:∀cl C s₀ H₀ ex,PG (X.cp ([x]++Nf) scope cl C s₀ H₀ ex) (.Name x pt) (gName 0))
  (hgr:Gl X "range":=by rfl)(hs1:starEach [a] X.env=[(false,eval a X.env)]:=by rfl)(hsc:X.env.scope=sc:=by rfl)(hN:X.N=N:=by rfl)(hs:∀x,foldedSetIterable (.Call (.Name "range" p1) [a] [] p2) X.env x=pure x:=by intro _;rfl)(hiy:X.N[i]?=some y:=by rfl)(hxy:Loc X.env.scope y:=by walk_at "3")(hfy:X.fn y=true\/X.env.scope.names.lookup y=some .local:=by walk_at "2")(hsw:swapsWith (.ListComp elt [⟨.Name x pt,.Call (.Name "range" p1) [a] [] p2,ifs,0⟩] scope pos) (some (.Name y py)) spos.line X.env=pure true:=by rfl):
  DS Z X EE (.Assign [.Name y py] (.ListComp elt [⟨.Name x pt,.Call (.Name "range" p1) [a] [] p2,ifs,0⟩] scope pos) spos) (dSet i (dFz (dCompR rng1 js dA c d))):=by
 refine PS.mono (x67 (Nl:=[x]) (tc:=cT X.K c) (te:=cE X.K d) hc (q61 hgr hm ha hs1) ok hg (q84 ht) (x1t he) (q28 i hNd hiy hxy hfy) hsw hsc hN hs) ?_;rintro D σ H ⟨G,e,rel,h⟩;refine q85 σ H _ ⟨G,e,rel,?_⟩;refine(x7b h).imp (fun w e1 h G1 a xs H1 r1 s1 q1 q2 q3 q4 p1=>?_) fun _ _ h=>h
 obtain⟨sg,rg⟩:=r1.seen q1 q2 q3 q4;exact h _ _ H1 (rg.set (v:=.ref a) ⟨a,xs,rfl,SqL.of q0f,Reps.mono sg w p1⟩) (s1.trans sg)
end
mutual
def depW:W->Nat
 |.tup ws=>depWs ws+1
 |.lst ws=>depWs ws+1
 |_=>0
def depWs:List W->Nat
 |[]=>0
 |w::ws=>max (depW w) (depWs ws)
end
mutual
theorem q9y(I:Inv X pins σ H s)(sg:Same G H):∀(w:W){w':W}{v:V}{k:Bool},Rep X.K G w v->Rep X.K G w' v->eqW w w'=some k->k=true
 |.non,w',v,k,h,h',e=>by
  cases(show v=.non from h);cases w'<;>first|(cases e;done)|(cases h';cases e;rfl)|(exfalso;obtain⟨_,_,z,_⟩:=h';first|done|cases z)|(exfalso;obtain⟨_,z,_⟩:=h';first|done|cases z)
 |.bl b,w',v,k,h,h',e=>by
  cases(show v=.bl b from h);cases w'<;>first|(cases e;done)|(cases h';cases e;exact beq_self_eq_true _)|(exfalso;obtain⟨_,_,z,_⟩:=h';first|done|cases z)|(exfalso;obtain⟨_,z,_⟩:=h';first|done|cases z)
 |.int b,w',v,k,h,h',e=>by
  cases(show v=.int b from h);cases w'<;>first|(cases e;done)|(cases h';cases e;exact beq_self_eq_true _)|(exfalso;obtain⟨_,_,z,_⟩:=h';first|done|cases z)|(exfalso;obtain⟨_,z,_⟩:=h';first|done|cases z)
 |.str b,w',v,k,h,h',e=>by
  cases(show v=.str b from h);cases w'<;>first|(cases e;done)|(cases h';cases e;exact beq_self_eq_true _)|(exfalso;obtain⟨_,_,z,_⟩:=h';first|done|cases z)|(exfalso;obtain⟨_,z,_⟩:=h';first|done|cases z)
 |.tup ws,w',v,k,h,h',e=>by
  obtain⟨a,xs,rfl,q,r⟩:=h;cases w' with
  |tup ws'=>
   obtain⟨a',xs',z,q',r'⟩:=h';cases z;have:=I.tuple_inj (sg.tup q) (sg.tup q');subst this;exact q8d I sg ws r r' (e)
  |lst ws'=>
   obtain⟨a',xs',z,q',r'⟩:=h';cases z;obtain⟨its,_,p1,_⟩:=I.tuple (sg.tup q);obtain⟨its2,_,p2,_⟩:=I.list (sg.seq q');exact absurd rfl (SeqAt.ne_of_list_tuple p2.isList (show s.heap.IsTuple a _ from p1))
  |non=>cases h'
  |bl _=>cases h'
  |int _=>cases h'
  |str _=>cases h'
  |exc _=>cases e
  |dic _=>cases e
  |dw _ _ _ _=>cases e
  |fn _ _ _=>cases e
 |.lst ws,w',v,k,h,h',e=>by
  obtain⟨a,xs,rfl,q,r⟩:=h;cases w' with
  |lst ws'=>
   obtain⟨a',xs',z,q',r'⟩:=h';cases z;have:=I.list_inj (sg.seq q) (sg.seq q');subst this;exact q8d I sg ws r r' (e)
  |tup ws'=>
   obtain⟨a',xs',z,q',r'⟩:=h';cases z;obtain⟨its,_,p1,_⟩:=I.tuple (sg.tup q');obtain⟨its2,_,p2,_⟩:=I.list (sg.seq q);exact absurd rfl (SeqAt.ne_of_list_tuple p2.isList (show s.heap.IsTuple a _ from p1))
  |non=>cases h'
  |bl _=>cases h'
  |int _=>cases h'
  |str _=>cases h'
  |exc _=>cases e
  |dic _=>cases e
  |dw _ _ _ _=>cases e
  |fn _ _ _=>cases e
 |.exc c,w',v,k,h,h',e=>by cases w'<;>cases e
 |.dic c,w',v,k,h,h',e=>by cases w'<;>cases e
 |.dw _ _ _ _,w',v,k,h,h',e=>by cases w'<;>cases e
 |.fn _ _ _,w',v,k,h,h',e=>by cases w'<;>cases e
theorem q8d(I:Inv X pins σ H s)(sg:Same G H):∀(ws:List W){ws':List W}{vs:List V}{k:Bool},Reps X.K G ws vs->Reps X.K G ws' vs->eqWs ws ws'=some k->k=true
 |[],ws',vs,k,h,h',e=>by
  cases h;cases ws' with
  |nil=>cases e;rfl
  |cons _ _=>obtain⟨_,_,z,_⟩:=h';cases z
 |w::ws,ws',vs,k,h,h',e=>by
  obtain⟨x,r,rfl,h1,h2⟩:=h;cases ws' with
  |nil=>cases h'
  |cons w' ws'=>
   obtain⟨x',r',z,h1',h2'⟩:=h';cases z;have e:(match eqW w w',eqWs ws ws' with|some a,some b=>some (a&&b)|_,_=>none)=some k:=e;cases q1:eqW w w' with
   |none=>rw[q1]at e;cases e
   |some b1=>
    cases q2:eqWs ws ws' with
    |none=>rw[q1,q2]at e;cases e
    |some b2=>
     rw[q1,q2]at e;rw[q9y I sg w h1 h1' q1,q8d I sg ws h2 h2' q2]at e;cases e;rfl
end
theorem q4o:∀{xs ys:List W}{b:Bool},eqWs xs ys=some b->(∀(j:Nat) x y,xs[j]?=some x->ys[j]?=some y->∃k,eqW x y=some k)/\b=((List.range (min xs.length ys.length)).all (fun j=>((eqW (xs.getD j .non) (ys.getD j .non)).getD false))&&xs.length==ys.length):=by
 intro xs
 induction xs with
 |nil=>
  intro ys b h;refine⟨fun j x y hx=>by simp at hx,?_⟩
  cases ys<;>(cases h;simp)
 |cons x xs ih=>
  intro ys b h;cases ys with
  |nil=>refine⟨fun j x y hx hy=>by simp at hy,?_⟩;cases h;simp
  |cons y ys=>
   have h:(match eqW x y,eqWs xs ys with|some a,some b=>some (a&&b)|_,_=>none)=some b:=h;cases q1:eqW x y with
   |none=>rw[q1]at h;cases h
   |some b1=>
    cases q2:eqWs xs ys with
    |none=>rw[q1,q2]at h;cases h
    |some b2=>
     rw[q1,q2]at h;cases h;obtain⟨h1,h2⟩:=ih q2;refine⟨fun j x' y' hx hy=>?_,?_⟩
     ·cases j with
      |zero=>simp at hx hy;subst hx hy;exact⟨_,q1⟩
      |succ j=>exact h1 j x' y' (by simpa using hx) (by simpa using hy)
     ·rw[h2];simp only[w0z,Nat.succ_min_succ,List.range_succ_eq_map,w1z,w3y]
      have e0:(eqW ((x::xs).getD 0 .non) ((y::ys).getD 0 .non)).getD false=b1:=by
       show(eqW x y).getD false=b1;rw[q1];rfl
      rw[e0,Bool.and_assoc];congr 1;congr 1;simp
theorem q7e:∀{xs:List W}{j:Nat}{x:W},xs[j]?=some x->depW x<=depWs xs
 |[],_,_,h=>by simp at h
 |y::ys,0,x,h=>by simp at h;subst h;simp only[depWs];omega
 |y::ys,j+1,x,h=>by
  have:=q7e (xs:=ys) (j:=j) (by simpa using h);simp only[depWs];omega
theorem q7t{xs:List α}{x d:α}(h:xs[j]?=some x):xs.getD j d=x:=by
 simp[List.getD,h]
theorem x2h(I:Inv X pins σ H s)(sg:Same G H){b:Bool}(hu:A.units<cLine)(n1:∀ws,w=.tup ws->∀ws',w'≠.tup ws')(n2:∀ws,w=.lst ws->∀ws',w'≠.lst ws')(h:Rep X.K G w v)(h':Rep X.K G w' v')(r:RelV v u)(r':RelV v' u')(e:eqW w w'=some b):SeqAt.RcAt A s u u' b:=by
 have tl:∀{ws:List W}{v:V}{u:Value},Rep X.K G (.lst ws) v->RelV v u->∃l items,u=.ref l/\s.heap.IsList l items:=fun h r=>by
  obtain⟨a,xs,rfl,q,_⟩:=h;cases r;obtain⟨its,_,p,_⟩:=I.list (sg.seq q);exact⟨a,_,rfl,p.isList⟩
 have tt:∀{ws:List W}{v:V}{u:Value},Rep X.K G (.tup ws) v->RelV v u->∃l items,u=.ref l/\s.heap.IsTuple l items:=fun h r=>by
  obtain⟨a,xs,rfl,q,_⟩:=h;cases r;obtain⟨its,_,p,_⟩:=I.tuple (sg.tup q);exact⟨a,_,rfl,p⟩
 have tn:∀{v:V}{u:Value},Rep X.K G .non v->RelV v u->u=.none:=fun h r=>by cases h;exact r
 have tb:∀{k:Bool}{v:V}{u:Value},Rep X.K G (.bl k) v->RelV v u->u=.bool k:=fun h r=>by cases h;exact r
 have ti:∀{k:Int}{v:V}{u:Value},Rep X.K G (.int k) v->RelV v u->∃t,u=.int k t:=fun h r=>by cases h;exact r
 have ts:∀{k:Str}{v:V}{u:Value},Rep X.K G (.str k) v->RelV v u->∃t,u=.str k t:=fun h r=>by cases h;exact r
 cases w with
 |non=>
  obtain rfl:=tn h r;cases w' with
  |non=>obtain rfl:=tn h' r';cases e;exact .none_none
  |bl k=>obtain rfl:=tb h' r';cases e;exact .none_bool k
  |int k=>obtain⟨t,rfl⟩:=ti h' r';cases e;exact .none_int k t
  |str k=>obtain⟨t,rfl⟩:=ts h' r';cases e;exact .none_str k t
  |tup k=>obtain⟨l,it,rfl,p⟩:=tt h' r';cases e;exact .none_tuple p hu
  |lst k=>obtain⟨l,it,rfl,p⟩:=tl h' r';cases e;exact .none_list p hu
  |exc k=>cases e
  |dic k=>cases e
  |dw _ _ _ _=>cases e
  |fn _ _ _=>cases e
 |bl j=>
  obtain rfl:=tb h r;cases w' with
  |non=>obtain rfl:=tn h' r';cases e;exact .bool_none j
  |bl k=>obtain rfl:=tb h' r';cases e;exact .bool_bool j k
  |int k=>obtain⟨t,rfl⟩:=ti h' r';cases e;exact .bool_int j k t
  |str k=>obtain⟨t,rfl⟩:=ts h' r';cases e;exact .bool_str j k t
  |tup k=>obtain⟨l,it,rfl,p⟩:=tt h' r';cases e;exact .bool_tuple j p hu
  |lst k=>obtain⟨l,it,rfl,p⟩:=tl h' r';cases e;exact .bool_list j p hu
  |exc k=>cases e
  |dic k=>cases e
  |dw _ _ _ _=>cases e
  |fn _ _ _=>cases e
 |int j=>
  obtain⟨t1,rfl⟩:=ti h r;cases w' with
  |non=>obtain rfl:=tn h' r';cases e;exact .int_none j t1
  |bl k=>obtain rfl:=tb h' r';cases e;exact .int_bool j t1 k
  |int k=>obtain⟨t,rfl⟩:=ti h' r';cases e;exact .int_int j t1 k t
  |str k=>obtain⟨t,rfl⟩:=ts h' r';cases e;exact .int_str j t1 k t
  |tup k=>obtain⟨l,it,rfl,p⟩:=tt h' r';cases e;exact .int_tuple j t1 p hu
  |lst k=>obtain⟨l,it,rfl,p⟩:=tl h' r';cases e;exact .int_list j t1 p hu
  |exc k=>cases e
  |dic k=>cases e
  |dw _ _ _ _=>cases e
  |fn _ _ _=>cases e
 |str j=>
  obtain⟨t1,rfl⟩:=ts h r;cases w' with
  |non=>obtain rfl:=tn h' r';cases e;exact .str_none j t1
  |bl k=>obtain rfl:=tb h' r';cases e;exact .str_bool j t1 k
  |int k=>obtain⟨t,rfl⟩:=ti h' r';cases e;exact .str_int j t1 k t
  |str k=>obtain⟨t,rfl⟩:=ts h' r';cases e;exact .str_str j t1 k t
  |tup k=>obtain⟨l,it,rfl,p⟩:=tt h' r';cases e;exact .str_tuple j t1 p hu
  |lst k=>obtain⟨l,it,rfl,p⟩:=tl h' r';cases e;exact .str_list j t1 p hu
  |exc k=>cases e
  |dic k=>cases e
  |dw _ _ _ _=>cases e
  |fn _ _ _=>cases e
 |tup j=>
  obtain⟨l1,it1,rfl,p1⟩:=tt h r;cases w' with
  |non=>obtain rfl:=tn h' r';cases e;exact .tuple_none p1 hu
  |bl k=>obtain rfl:=tb h' r';cases e;exact .tuple_bool k p1 hu
  |int k=>obtain⟨t,rfl⟩:=ti h' r';cases e;exact .tuple_int k t p1 hu
  |str k=>obtain⟨t,rfl⟩:=ts h' r';cases e;exact .tuple_str k t p1 hu
  |tup k=>exact absurd rfl (n1 j rfl k)
  |lst k=>obtain⟨l,it,rfl,p⟩:=tl h' r';cases e;exact .tuple_list p1 p hu
  |exc k=>cases e
  |dic k=>cases e
  |dw _ _ _ _=>cases e
  |fn _ _ _=>cases e
 |lst j=>
  obtain⟨l1,it1,rfl,p1⟩:=tl h r;cases w' with
  |non=>obtain rfl:=tn h' r';cases e;exact .list_none p1 hu
  |bl k=>obtain rfl:=tb h' r';cases e;exact .list_bool k p1 hu
  |int k=>obtain⟨t,rfl⟩:=ti h' r';cases e;exact .list_int k t p1 hu
  |str k=>obtain⟨t,rfl⟩:=ts h' r';cases e;exact .list_str k t p1 hu
  |lst k=>exact absurd rfl (n2 j rfl k)
  |tup k=>obtain⟨l,it,rfl,p⟩:=tt h' r';cases e;exact .list_tuple p1 p hu
  |exc k=>cases e
  |dic k=>cases e
  |dw _ _ _ _=>cases e
  |fn _ _ _=>cases e
 |exc j=>cases w'<;>cases e
 |dic j=>cases w'<;>cases e
 |dw _ _ _ _=>cases w'<;>cases e
 |fn _ _ _=>cases w'<;>cases e
theorem x4k(I:Inv X pins σ H s)(sg:Same G H){b:Bool}(hd:depW w<=0)(hu:A.units<cLine)(h:Rep X.K G w v)(h':Rep X.K G w' v')(r:RelV v u)(r':RelV v' u')(e:eqW w w'=some b):SeqAt.RcAt A s u u' b:=
 x2h I sg hu (fun ws z=>by subst z;simp[depW]at hd) (fun ws z=>by subst z;simp[depW]at hd) h h' r r' e
theorem x2i(h:Rep K G w v):∀x,v≠.flt x:=fun x z=>by
 subst z;cases w with
 |tup ws=>obtain⟨_,_,z,_⟩:=h;cases z
 |lst ws=>obtain⟨_,_,z,_⟩:=h;cases z
 |exc c=>obtain⟨_,z,_⟩:=h;cases z
 |dic c=>obtain⟨_,z,_⟩:=h;cases z
 |dw _ _ _ _=>obtain⟨_,_,_,z,_⟩:=h;cases z
 |fn _ _ _=>obtain⟨_,_,_,_,z,_⟩:=h;cases z
 |_=>cases h
theorem x2j{b:Bool}(rv:RelV v u)(hf:∀x,v≠.flt x)(h:SeqAt.RcAt A s u u' b)(hs:u=u'->b=true):SeqAt.EqAt A s u u' b:=fun prog w E Q hq=>by
 unfold eqBool;refine wpAny_holding ?_;refine wpAny_ite_split (fun hab=>?_) (fun _=>?_)
 ·have hb:=hs (eq_of_beq hab);subst hb;exact wpAny_bind (wpAny_rule (wpAny_pure hq))
 ·have z:=wpAny_bind (h prog w E (fun a s'=>wpAny (model prog w) A (truthOfDropped a) Q E s') (wpAny_truthy_bool hq))
  cases v with
  |flt x=>exact absurd rfl (hf x)
  |non=>cases rv;exact z
  |bl _=>cases rv;exact z
  |int _=>obtain⟨t,rfl⟩:=rv;exact z
  |str _=>obtain⟨t,rfl⟩:=rv;exact z
  |byt _=>obtain⟨t,rfl⟩:=rv;exact z
  |ref _=>cases rv;exact z
  |ty _=>cases rv;exact z
theorem y3w(I:Inv X pins σ H s)(sg:Same G H):∀(n:Nat){w w':W}{v v':V}{u u':Value}{b:Bool}{A:Around},depW w<=n->A.units+n<cLine->Rep X.K G w v->Rep X.K G w' v'->RelV v u->RelV v' u'->eqW w w'=some b->SeqAt.RcAt A s u u' b:=by
 intro n
 induction n with
 |zero=>
  intro w w' v v' u u' b A hd hu h h' r r' e;exact x4k I sg hd (by omega) h h' r r' e
 |succ n ih=>
  intro w w' v v' u u' b A hd hu h h' r r' e
  have items:∀{ws ws':List W}{xs xs':List V}{its its':List Value}{k:Bool},depWs ws<=n->Reps X.K G ws xs->Reps X.K G ws' xs'->Vals xs its->Vals xs' its'->eqWs ws ws'=some k ->
    ∀j (h1:j<its.toArray.size) (h2:j<its'.toArray.size),SeqAt.EqAt A.in1 s its.toArray[j] its'.toArray[j] ((eqW (ws.getD j .non) (ws'.getD j .non)).getD false):=by
   intro ws ws' xs xs' its its' k hd r1 r2 v1 v2 he j h1 h2;have l1:=r1.length;have l2:=r2.length;have m1:=v1.length;have m2:=v2.length;have i1:j<xs.length:=by rw[m1];simpa using h1
   have i2:j<xs'.length:=by rw[m2];simpa using h2
   obtain⟨u1,e1,ru1⟩:=v1.get (w0c i1);obtain⟨u2,e2,ru2⟩:=v2.get (w0c i2);obtain⟨w1,f1,p1⟩:=r1.getV (w0c i1);obtain⟨w2,f2,p2⟩:=r2.getV (w0c i2);obtain⟨b',hb'⟩:=(q4o he).1 j w1 w2 f1 f2;rw[q7t f1,q7t f2,hb']
   have g1:its.toArray[j]=u1:=by
    obtain⟨_,z⟩:=w0b.mp e1
    simpa using z
   have g2:its'.toArray[j]=u2:=by
    obtain⟨_,z⟩:=w0b.mp e2
    simpa using z
   rw[g1,g2];have hdw:depW w1<=n:=w1d (q7e f1) hd
   have hun:A.in1.units+n<cLine:=by
    have:A.in1.units=A.units+1:=rfl;omega
   refine x2j ru1 (x2i p1) (ih hdw hun p1 p2 ru1 ru2 hb') fun z=>?_
   subst z;have:=ru1.inj ru2;rw[this]at p1;exact q9y I sg w1 p1 p2 hb'
  cases w with
  |tup ws=>
   cases w' with
   |tup ws'=>
    obtain⟨a,xs,rfl,q1,r1⟩:=h;obtain⟨a',xs',rfl,q2,r2⟩:=h';cases r;cases r';obtain⟨its,v1,p1,_⟩:=I.tuple (sg.tup q1);obtain⟨its',v2,p2,_⟩:=I.tuple (sg.tup q2);have e:eqWs ws ws'=some b:=e;have z:=SeqAt.RcAt.tuples (show s.heap.IsTuple a _ from p1) (show s.heap.IsTuple a' _ from p2) (show A.units<cLine by omega) (items (by simp only[depW]at hd;omega) r1 r2 v1 v2 e);have l1:=r1.length;have l2:=r2.length;have m1:=v1.length;have m2:=v2.length;have eb:=(q4o e).2;have n1:its.length=ws.length:=by omega
    have n2:its'.length=ws'.length:=by omega
    rw[eb];simp only[w0e,n1,n2]at z;exact z
   |_=>exact x2h I sg (by omega) (by intro ws';simp) (by intro ws';simp) h h' r r' e
  |lst ws=>
   cases w' with
   |lst ws'=>
    obtain⟨a,xs,rfl,q1,r1⟩:=h;obtain⟨a',xs',rfl,q2,r2⟩:=h';cases r;cases r';obtain⟨its,v1,p1,_⟩:=I.list (sg.seq q1);obtain⟨its',v2,p2,_⟩:=I.list (sg.seq q2);have e:eqWs ws ws'=some b:=e;have l1:=r1.length;have l2:=r2.length;have m1:=v1.length;have m2:=v2.length;have eb:=(q4o e).2;have n1:its.length=ws.length:=by omega
    have n2:its'.length=ws'.length:=by omega
    by_cases hl:ws.length=ws'.length
    ·have z:=SeqAt.RcAt.lists p1.isList p2.isList (by simp only[w0e];omega) (show A.units<cLine by omega) (items (by simp only[depW]at hd;omega) r1 r2 v1 v2 e);rw[eb,hl];simp only[w0e,n1,hl,Nat.min_self,beq_self_eq_true,Bool.and_true]at z |-
     exact z
    ·have z:=SeqAt.RcAt.lists_lengths (A:=A) p1.isList p2.isList (by simp only[w0e,bne_iff_ne];omega) (show A.units<cLine by omega)
     have:b=false:=by
      rw[eb];have:(ws.length==ws'.length)=false:=by simp[hl]
      rw[this,Bool.and_false]
     rw[this];exact z
   |_=>exact x2h I sg (by omega) (by intro ws';simp) (by intro ws';simp) h h' r r' e
  |_=>exact x4k I sg (by simp[depW]) (by omega) h h' r r' e
theorem q8e(I:Inv X pins σ H s)(sg:Same G H){b:Bool}(hu:A.units<cLine)(n1:∀ws,w=.tup ws->∀ws',w'≠.tup ws')(n2:∀ws,w=.lst ws->∀ws',w'≠.lst ws')(h:Rep X.K G w v)(h':Rep X.K G w' v')(r:RelV v u)(r':RelV v' u')(e:eqW w w'=some b):SeqAt.RcNeAt A s u u' (!b):=by
 have tl:∀{ws:List W}{v:V}{u:Value},Rep X.K G (.lst ws) v->RelV v u->∃l items,u=.ref l/\s.heap.IsList l items:=fun h r=>by
  obtain⟨a,xs,rfl,q,_⟩:=h;cases r;obtain⟨its,_,p,_⟩:=I.list (sg.seq q);exact⟨a,_,rfl,p.isList⟩
 have tt:∀{ws:List W}{v:V}{u:Value},Rep X.K G (.tup ws) v->RelV v u->∃l items,u=.ref l/\s.heap.IsTuple l items:=fun h r=>by
  obtain⟨a,xs,rfl,q,_⟩:=h;cases r;obtain⟨its,_,p,_⟩:=I.tuple (sg.tup q);exact⟨a,_,rfl,p⟩
 have tn:∀{v:V}{u:Value},Rep X.K G .non v->RelV v u->u=.none:=fun h r=>by cases h;exact r
 have tb:∀{k:Bool}{v:V}{u:Value},Rep X.K G (.bl k) v->RelV v u->u=.bool k:=fun h r=>by cases h;exact r
 have ti:∀{k:Int}{v:V}{u:Value},Rep X.K G (.int k) v->RelV v u->∃t,u=.int k t:=fun h r=>by cases h;exact r
 have ts:∀{k:Str}{v:V}{u:Value},Rep X.K G (.str k) v->RelV v u->∃t,u=.str k t:=fun h r=>by cases h;exact r
 cases w with
 |non=>
  obtain rfl:=tn h r;cases w' with
  |non=>obtain rfl:=tn h' r';cases e;exact .none_none
  |bl k=>obtain rfl:=tb h' r';cases e;exact .none_bool k
  |int k=>obtain⟨t,rfl⟩:=ti h' r';cases e;exact .none_int k t
  |str k=>obtain⟨t,rfl⟩:=ts h' r';cases e;exact .none_str k t
  |tup k=>obtain⟨l,it,rfl,p⟩:=tt h' r';cases e;exact .none_tuple p hu
  |lst k=>obtain⟨l,it,rfl,p⟩:=tl h' r';cases e;exact .none_list p hu
  |exc k=>cases e
  |dic k=>cases e
  |dw _ _ _ _=>cases e
  |fn _ _ _=>cases e
 |bl j=>
  obtain rfl:=tb h r;cases w' with
  |non=>obtain rfl:=tn h' r';cases e;exact .bool_none j
  |bl k=>obtain rfl:=tb h' r';cases e;exact .bool_bool j k
  |int k=>obtain⟨t,rfl⟩:=ti h' r';cases e;exact .bool_int j k t
  |str k=>obtain⟨t,rfl⟩:=ts h' r';cases e;exact .bool_str j k t
  |tup k=>obtain⟨l,it,rfl,p⟩:=tt h' r';cases e;exact .bool_tuple j p hu
  |lst k=>obtain⟨l,it,rfl,p⟩:=tl h' r';cases e;exact .bool_list j p hu
  |exc k=>cases e
  |dic k=>cases e
  |dw _ _ _ _=>cases e
  |fn _ _ _=>cases e
 |int j=>
  obtain⟨t1,rfl⟩:=ti h r;cases w' with
  |non=>obtain rfl:=tn h' r';cases e;exact .int_none j t1
  |bl k=>obtain rfl:=tb h' r';cases e;exact .int_bool j t1 k
  |int k=>obtain⟨t,rfl⟩:=ti h' r';cases e;exact .int_int j t1 k t
  |str k=>obtain⟨t,rfl⟩:=ts h' r';cases e;exact .int_str j t1 k t
  |tup k=>obtain⟨l,it,rfl,p⟩:=tt h' r';cases e;exact .int_tuple j t1 p hu
  |lst k=>obtain⟨l,it,rfl,p⟩:=tl h' r';cases e;exact .int_list j t1 p hu
  |exc k=>cases e
  |dic k=>cases e
  |dw _ _ _ _=>cases e
  |fn _ _ _=>cases e
 |str j=>
  obtain⟨t1,rfl⟩:=ts h r;cases w' with
  |non=>obtain rfl:=tn h' r';cases e;exact .str_none j t1
  |bl k=>obtain rfl:=tb h' r';cases e;exact .str_bool j t1 k
  |int k=>obtain⟨t,rfl⟩:=ti h' r';cases e;exact .str_int j t1 k t
  |str k=>obtain⟨t,rfl⟩:=ts h' r';cases e;exact .str_str j t1 k t
  |tup k=>obtain⟨l,it,rfl,p⟩:=tt h' r';cases e;exact .str_tuple j t1 p hu
  |lst k=>obtain⟨l,it,rfl,p⟩:=tl h' r';cases e;exact .str_list j t1 p hu
  |exc k=>cases e
  |dic k=>cases e
  |dw _ _ _ _=>cases e
  |fn _ _ _=>cases e
 |tup j=>
  obtain⟨l1,it1,rfl,p1⟩:=tt h r;cases w' with
  |non=>obtain rfl:=tn h' r';cases e;exact .tuple_none p1 hu
  |bl k=>obtain rfl:=tb h' r';cases e;exact .tuple_bool k p1 hu
  |int k=>obtain⟨t,rfl⟩:=ti h' r';cases e;exact .tuple_int k t p1 hu
  |str k=>obtain⟨t,rfl⟩:=ts h' r';cases e;exact .tuple_str k t p1 hu
  |tup k=>exact absurd rfl (n1 j rfl k)
  |lst k=>obtain⟨l,it,rfl,p⟩:=tl h' r';cases e;exact .tuple_list p1 p hu
  |exc k=>cases e
  |dic k=>cases e
  |dw _ _ _ _=>cases e
  |fn _ _ _=>cases e
 |lst j=>
  obtain⟨l1,it1,rfl,p1⟩:=tl h r;cases w' with
  |non=>obtain rfl:=tn h' r';cases e;exact .list_none p1 hu
  |bl k=>obtain rfl:=tb h' r';cases e;exact .list_bool k p1 hu
  |int k=>obtain⟨t,rfl⟩:=ti h' r';cases e;exact .list_int k t p1 hu
  |str k=>obtain⟨t,rfl⟩:=ts h' r';cases e;exact .list_str k t p1 hu
  |lst k=>exact absurd rfl (n2 j rfl k)
  |tup k=>obtain⟨l,it,rfl,p⟩:=tt h' r';cases e;exact .list_tuple p1 p hu
  |exc k=>cases e
  |dic k=>cases e
  |dw _ _ _ _=>cases e
  |fn _ _ _=>cases e
 |exc j=>cases w'<;>cases e
 |dic j=>cases w'<;>cases e
 |dw _ _ _ _=>cases w'<;>cases e
 |fn _ _ _=>cases w'<;>cases e
theorem x7d(I:Inv X pins σ H s)(sg:Same G H){b:Bool}(hd:depW w<=0)(hu:A.units<cLine)(h:Rep X.K G w v)(h':Rep X.K G w' v')(r:RelV v u)(r':RelV v' u')(e:eqW w w'=some b):SeqAt.RcNeAt A s u u' (!b):=
 q8e I sg hu (fun ws z=>by subst z;simp[depW]at hd) (fun ws z=>by subst z;simp[depW]at hd) h h' r r' e
theorem x2k(I:Inv X pins σ H s)(sg:Same G H)(hu:A.units+(n+1)<cLine){ws':List W}{xs':List V}{its its':List Value}{k:Bool}(hd:depWs ws<=n)(r1:Reps X.K G ws xs)(r2:Reps X.K G ws' xs')(v1:Vals xs its)(v2:Vals xs' its')(he:eqWs ws ws'=some k):
  ∀j (h1:j<its.toArray.size) (h2:j<its'.toArray.size),SeqAt.EqAt A.in1 s its.toArray[j] its'.toArray[j] ((eqW (ws.getD j .non) (ws'.getD j .non)).getD false):=by
 intro j h1 h2;have l1:=r1.length;have l2:=r2.length;have m1:=v1.length;have m2:=v2.length;have i1:j<xs.length:=by rw[m1];simpa using h1
 have i2:j<xs'.length:=by rw[m2];simpa using h2
 obtain⟨u1,e1,ru1⟩:=v1.get (w0c i1);obtain⟨u2,e2,ru2⟩:=v2.get (w0c i2);obtain⟨w1,f1,p1⟩:=r1.getV (w0c i1);obtain⟨w2,f2,p2⟩:=r2.getV (w0c i2);obtain⟨b',hb'⟩:=(q4o he).1 j w1 w2 f1 f2;rw[q7t f1,q7t f2,hb']
 have g1:its.toArray[j]=u1:=by
  obtain⟨_,z⟩:=w0b.mp e1
  simpa using z
 have g2:its'.toArray[j]=u2:=by
  obtain⟨_,z⟩:=w0b.mp e2
  simpa using z
 rw[g1,g2];have hdw:depW w1<=n:=w1d (q7e f1) hd
 have hun:A.in1.units+n<cLine:=by
  have:A.in1.units=A.units+1:=rfl;omega
 refine x2j ru1 (x2i p1) (y3w I sg n hdw hun p1 p2 ru1 ru2 hb') fun z=>?_
 subst z;have:=ru1.inj ru2;rw[this]at p1;exact q9y I sg w1 p1 p2 hb'
theorem y43(I:Inv X pins σ H s)(sg:Same G H)(n:Nat){b:Bool}(hd:depW w<=n+1)(hu:A.units+(n+1)<cLine)(h:Rep X.K G w v)(h':Rep X.K G w' v')(r:RelV v u)(r':RelV v' u')(e:eqW w w'=some b):SeqAt.RcNeAt A s u u' (!b):=by
 cases w with
 |tup ws=>
  cases w' with
  |tup ws'=>
   obtain⟨a,xs,rfl,q1,r1⟩:=h;obtain⟨a',xs',rfl,q2,r2⟩:=h';cases r;cases r';obtain⟨its,v1,p1,_⟩:=I.tuple (sg.tup q1);obtain⟨its',v2,p2,_⟩:=I.tuple (sg.tup q2);have e:eqWs ws ws'=some b:=e;have z:=SeqAt.RcNeAt.tuples (show s.heap.IsTuple a _ from p1) (show s.heap.IsTuple a' _ from p2) (show A.units<cLine by omega) (x2k I sg hu (by simp only[depW]at hd;omega) r1 r2 v1 v2 e);have l1:=r1.length;have l2:=r2.length;have m1:=v1.length;have m2:=v2.length;have eb:=(q4o e).2;have n1:its.length=ws.length:=by omega
   have n2:its'.length=ws'.length:=by omega
   rw[eb];simp only[w0e,n1,n2]at z;exact z
  |_=>exact q8e I sg (by omega) (by intro ws';simp) (by intro ws';simp) h h' r r' e
 |lst ws=>
  cases w' with
  |lst ws'=>
   obtain⟨a,xs,rfl,q1,r1⟩:=h;obtain⟨a',xs',rfl,q2,r2⟩:=h';cases r;cases r';obtain⟨its,v1,p1,_⟩:=I.list (sg.seq q1);obtain⟨its',v2,p2,_⟩:=I.list (sg.seq q2);have e:eqWs ws ws'=some b:=e;have l1:=r1.length;have l2:=r2.length;have m1:=v1.length;have m2:=v2.length;have eb:=(q4o e).2;have n1:its.length=ws.length:=by omega
   have n2:its'.length=ws'.length:=by omega
   by_cases hl:ws.length=ws'.length
   ·have z:=SeqAt.RcNeAt.lists p1.isList p2.isList (by simp only[w0e];omega) (show A.units<cLine by omega) (x2k I sg hu (by simp only[depW]at hd;omega) r1 r2 v1 v2 e);rw[eb,hl];simp only[w0e,n1,hl,Nat.min_self,beq_self_eq_true,Bool.and_true]at z |-
    exact z
   ·have z:=SeqAt.RcNeAt.lists_lengths (A:=A) p1.isList p2.isList (by simp only[w0e,bne_iff_ne];omega) (show A.units<cLine by omega)
    have:b=false:=by
     rw[eb];have:(ws.length==ws'.length)=false:=by simp[hl]
     rw[this,Bool.and_false]
    rw[this];exact z
  |_=>exact q8e I sg (by omega) (by intro ws';simp) (by intro ws';simp) h h' r r' e
 |_=>exact x7d I sg (by simp[depW]) (by omega) h h' r r' e
def eq2(x y:W):Option W:=if depW x<=150 then(eqW x y).map .bl else none
def rEqD(K:Fg):R2:=fun x y H Q=>∃G wx wy b,Same G H/\depW wx<=150/\Rep K G wx x/\Rep K G wy y/\eqW wx wy=some b/\Q (.bl b) H
theorem x7e(hu:X.A.units+150<cLine):OpR X (compareOp .Eq) (rEqD X.K):=by
 intro pins s σ H x y v u Q I rx ry h;obtain⟨G,wx,wy,b,sg,hd,hx,hy,e,q⟩:=h;exact y3w I sg 150 hd hu hx hy rx ry e _ _ _ _ ⟨.bl b,H,I,rfl,q⟩
theorem y3x:Op2 K (rEqD K) eq2:=by
 intro G H x y wx wy w Q s px py hf h;unfold eq2 at hf;split at hf
 ·rename_i hd;obtain⟨b,hb,rfl⟩:=w0d.mp hf;exact⟨G,wx,wy,b,s,hd,px,py,hb,h G _ H (.refl s) rfl⟩
 ·cases hf
def ne2(x y:W):Option W:=if depW x<=150 then(eqW x y).map fun b=>.bl (!b)else none
def rNeD(K:Fg):R2:=fun x y H Q=>∃G wx wy b,Same G H/\depW wx<=150/\Rep K G wx x/\Rep K G wy y/\eqW wx wy=some b/\Q (.bl (!b)) H
theorem x7f(hu:X.A.units+150<cLine):OpR X (compareOp .NotEq) (rNeD X.K):=by
 intro pins s σ H x y v u Q I rx ry h;obtain⟨G,wx,wy,b,sg,hd,hx,hy,e,q⟩:=h;exact y43 I sg 149 hd hu hx hy rx ry e _ _ _ _ ⟨.bl (!b),H,I,rfl,q⟩
theorem y3y:Op2 K (rNeD K) ne2:=by
 intro G H x y wx wy w Q s px py hf h;unfold ne2 at hf;split at hf
 ·rename_i hd;obtain⟨b,hb,rfl⟩:=w0d.mp hf;exact⟨G,wx,wy,b,s,hd,px,py,hb,h G _ H (.refl s) rfl⟩
 ·cases hf
def isW:W->W->Option W
 |.non,.non=>some (.bl true)
 |_,.non=>some (.bl false)
 |.bl a,.bl b=>some (.bl (a==b))
 |_,.bl _=>some (.bl false)
 |_,_=>none
def nisW:W->W->Option W
 |.non,.non=>some (.bl false)
 |_,.non=>some (.bl true)
 |.bl a,.bl b=>some (.bl (!(a==b)))
 |_,.bl _=>some (.bl true)
 |_,_=>none
def rIs:R2:=fun x y H Q=>(y=.non\/∃b,y=.bl b)/\Q (.bl (decide (x=y))) H
def rNis:R2:=fun x y H Q=>(y=.non\/∃b,y=.bl b)/\Q (.bl (!decide (x=y))) H
theorem x2l{x y:V}{v:Value}(rx:RelV x v)(ry:RelV y u)(h:y=.non\/∃b,y=.bl b):plainIs v u=true/\(v==u)=decide (x=y):=by
 rcases h with rfl|⟨b,rfl⟩
 ·cases ry
  cases x<;>first
   |(cases rx;exact⟨rfl,by first|rfl|(rw[w2w];simp)⟩)
   |(obtain⟨t,rfl⟩:=rx;exact⟨rfl,by rw[w2w];simp⟩)
 ·cases ry
  cases x<;>first
   |(cases rx;exact⟨rfl,by first|rfl|(rw[w2w];simp)⟩)
   |(obtain⟨t,rfl⟩:=rx;exact⟨rfl,by rw[w2w];simp⟩)
theorem x7g:OpR X (compareOp .Is) rIs:=by
 intro pins s σ H x y v u Q I rx ry h;obtain⟨hy,q⟩:=h;obtain⟨h1,h2⟩:=x2l rx ry hy;exact wpAny_is_plain h1 (x6p I q h2.symm)
theorem y44:OpR X (compareOp .IsNot) rNis:=by
 intro pins s σ H x y v u Q I rx ry h;obtain⟨hy,q⟩:=h;obtain⟨h1,h2⟩:=x2l rx ry hy;exact wpAny_isNot_plain h1 (x6p I q (by rw[h2]))
theorem z2p{x y:V}{wx wy:W}(px:Rep K G wx x)(py:Rep K G wy y)(h:isW wx wy=some w):(y=.non\/∃b,y=.bl b)/\w=.bl (decide (x=y)):=by
 cases wy with
 |non=>
  cases(show y=.non from py);refine⟨.inl rfl,?_⟩;cases wx with
  |tup ws=>obtain⟨_,_,rfl,_⟩:=px;cases h;simp
  |lst ws=>obtain⟨_,_,rfl,_⟩:=px;cases h;simp
  |exc c=>obtain⟨_,rfl,_⟩:=px;cases h;simp
  |dic c=>obtain⟨_,rfl,_⟩:=px;cases h;simp
  |dw _ _ _ _=>obtain⟨_,_,_,rfl,_⟩:=px;cases h;simp
  |fn _ _ _=>obtain⟨_,_,_,_,rfl,_⟩:=px;cases h;simp
  |_=>cases px;cases h;simp
 |bl b=>
  cases(show y=.bl b from py);refine⟨.inr ⟨b,rfl⟩,?_⟩;cases wx with
  |tup ws=>obtain⟨_,_,rfl,_⟩:=px;cases h;simp
  |lst ws=>obtain⟨_,_,rfl,_⟩:=px;cases h;simp
  |exc c=>obtain⟨_,rfl,_⟩:=px;cases h;simp
  |dic c=>obtain⟨_,rfl,_⟩:=px;cases h;simp
  |dw _ _ _ _=>obtain⟨_,_,_,rfl,_⟩:=px;cases h;simp
  |fn _ _ _=>obtain⟨_,_,_,_,rfl,_⟩:=px;cases h;simp
  |bl k=>cases px;cases h;cases k<;>cases b<;>rfl
  |_=>cases px;cases h;simp
 |_=>cases wx<;>cases h
theorem y85{x y:V}{wx wy:W}(px:Rep K G wx x)(py:Rep K G wy y)(h:nisW wx wy=some w):(y=.non\/∃b,y=.bl b)/\w=.bl (!decide (x=y)):=by
 cases wy with
 |non=>
  cases(show y=.non from py);refine⟨.inl rfl,?_⟩;cases wx with
  |tup ws=>obtain⟨_,_,rfl,_⟩:=px;cases h;simp
  |lst ws=>obtain⟨_,_,rfl,_⟩:=px;cases h;simp
  |exc c=>obtain⟨_,rfl,_⟩:=px;cases h;simp
  |dic c=>obtain⟨_,rfl,_⟩:=px;cases h;simp
  |dw _ _ _ _=>obtain⟨_,_,_,rfl,_⟩:=px;cases h;simp
  |fn _ _ _=>obtain⟨_,_,_,_,rfl,_⟩:=px;cases h;simp
  |_=>cases px;cases h;simp
 |bl b=>
  cases(show y=.bl b from py);refine⟨.inr ⟨b,rfl⟩,?_⟩;cases wx with
  |tup ws=>obtain⟨_,_,rfl,_⟩:=px;cases h;simp
  |lst ws=>obtain⟨_,_,rfl,_⟩:=px;cases h;simp
  |exc c=>obtain⟨_,rfl,_⟩:=px;cases h;simp
  |dic c=>obtain⟨_,rfl,_⟩:=px;cases h;simp
  |dw _ _ _ _=>obtain⟨_,_,_,rfl,_⟩:=px;cases h;simp
  |fn _ _ _=>obtain⟨_,_,_,_,rfl,_⟩:=px;cases h;simp
  |bl k=>cases px;cases h;cases k<;>cases b<;>rfl
  |_=>cases px;cases h;simp
 |_=>cases wx<;>cases h
theorem y3z:Op2 K rIs isW:=by
 intro G H x y wx wy w Q s px py hf h;obtain⟨h1,rfl⟩:=z2p px py hf;exact⟨h1,h G _ H (.refl s) rfl⟩
theorem y86:Op2 K rNis nisW:=by
 intro G H x y wx wy w Q s px py hf h;obtain⟨h1,rfl⟩:=y85 px py hf;exact⟨h1,h G _ H (.refl s) rfl⟩
section
variable{a b c e:Expr}{p:Pos}
theorem q6c(ha:DE Z X EE a da)(hb:DE Z X EE b db):DE Z X EE (.BinOp a .Sub b pos) (dOp subW da db):=q7r y8l y8z ha hb
theorem q5q(ha:DE Z X EE a da)(hb:DE Z X EE b db):DE Z X EE (.BinOp a .Mult b pos) (dOp mulW da db):=q7r y8m y80 ha hb
theorem q16(ha:DE Z X EE a da)(hb:DE Z X EE b db):DE Z X EE (.BinOp a .FloorDiv b pos) (dOp fdivW da db):=q7r y4h y40 ha hb
theorem q0v(ha:DE Z X EE a da)(hb:DE Z X EE b db):DE Z X EE (.BinOp a .Mod b pos) (dOp modW da db):=q7r y8n y81 ha hb
theorem x2m(ha:DE Z X EE a da):DE Z X EE (.UnaryOp .USub a pos) (dUn negW da):=z2m y8o y82 ha
theorem z2q(ha:DE Z X EE a da)(hb:DE Z X EE b db):DE Z X EE (.Compare a [.Lt] [b] pos) (dOp ltW da db):=q58 y3p y3t ha hb (nomark _)
theorem z2r(ha:DE Z X EE a da)(hb:DE Z X EE b db):DE Z X EE (.Compare a [.LtE] [b] pos) (dOp leW da db):=q58 z2l z2o ha hb (nomark _)
theorem z2s(ha:DE Z X EE a da)(hb:DE Z X EE b db):DE Z X EE (.Compare a [.Gt] [b] pos) (dOp gtW da db):=q58 y3q y3u ha hb (nomark _)
theorem y30(hu:X.A.units+150<cLine)(ha:DE Z X EE a da)(hb:DE Z X EE b db):DE Z X EE (.Compare a [.Eq] [b] pos) (dOp eq2 da db):=q58 (x7e hu) y3x ha hb (nomark _)
theorem z2t(hu:X.A.units+150<cLine)(ha:DE Z X EE a da)(hb:DE Z X EE b db):DE Z X EE (.Compare a [.NotEq] [b] pos) (dOp ne2 da db):=q58 (x7f hu) y3y ha hb (nomark _)
theorem z2u(ha:DE Z X EE a da)(hb:DE Z X EE b db):DE Z X EE (.Compare a [.Is] [b] pos) (dOp isW da db):=q58 x7g y3z ha hb (nomark _)
theorem x1u(ha:DE Z X EE a da)(hb:DE Z X EE b db):DT Z X EE (.Compare a [.Lt] [b] pos) (dTest (dOp ltW da db)):=q5o y3p y3t ha hb (nomark _)
theorem z2v(ha:DE Z X EE a da)(hb:DE Z X EE b db):DT Z X EE (.Compare a [.Gt] [b] pos) (dTest (dOp gtW da db)):=q5o y3q y3u ha hb (nomark _)
theorem q5x(hu:X.A.units+150<cLine)(ha:DE Z X EE a da)(hb:DE Z X EE b db):DT Z X EE (.Compare a [.Eq] [b] pos) (dTest (dOp eq2 da db)):=q5o (x7e hu) y3x ha hb (nomark _)
theorem q29(hu:X.A.units+150<cLine)(ha:DE Z X EE a da)(hb:DE Z X EE b db):DT Z X EE (.Compare a [.NotEq] [b] pos) (dTest (dOp ne2 da db)):=q5o (x7f hu) y3y ha hb (nomark _)
theorem z2w(ha:DE Z X EE a da)(hb:DE Z X EE b db):DT Z X EE (.Compare a [.Is] [b] pos) (dTest (dOp isW da db)):=q5o x7g y3z ha hb (nomark _)
theorem x7h(ha:DE Z X EE a da)(hb:DE Z X EE b db):DT Z X EE (.Compare a [.IsNot] [b] pos) (dTest (dOp nisW da db)):=q5o y44 y86 ha hb (nomark _)
theorem q0k{k:Nat}(h:Room k A):A.units+150<cLine:=by have:=h.un;omega
def cutW(xs:List W)(lo hi:Option Int):List W:=(xs.drop (HT.sIx xs.length 0 lo)).take (HT.sIx xs.length xs.length hi-HT.sIx xs.length 0 lo)
def DO(Z:Zt)(X:Cx)(EE:L2.St->XK)(e:Option Expr)(d:Den (Option Int)):Prop:=PO X e (fun σ H Q=>∃G e,Rel X.K Z G σ H e/\(d e).holds (fun o e'=>∀G' H',Rel X.K Z G' σ H' e'->Same G G'->Q o H') (XH X.K Z EE σ G))
def slW:W->Option Int->Option Int->Option W
 |.lst ws,lo,hi=>some (.lst (cutW ws lo hi))
 |.tup ws,lo,hi=>if ¬(HT.sIx ws.length 0 lo=0/\HT.sIx ws.length ws.length hi=ws.length)then some (.tup (cutW ws lo hi))else none
 |_,_,_=>none
def tup1:List W->Option W
 |[.lst ws]=>some (.tup ws)
 |[.tup ws]=>some (.tup ws)
 |_=>none
theorem y87:OpN K (fun xs H Q=>∃p ys,xs=[.ref p]/\((SqL K H p ys/\∀l,H l=none->Q (.ref l) (upd H l (.tup ys)))\/(SqT K H p ys/\Q (.ref p) H))) tup1:=by
 intro G H xs ws w Q s pr hf h;unfold tup1 at hf;split at hf
 ·cases hf;obtain⟨x,r,rfl,px,pr⟩:=pr;cases(show r=[]from pr);obtain⟨a,ys,rfl,ha,ra⟩:=px;refine⟨a,ys,rfl,.inl ⟨s.seq ha,fun l hl=>?_⟩⟩
  have g:=Grow.laid s hl (.tup ys);exact h _ _ _ g ⟨l,ys,rfl,SqT.of q0f,Reps.mono g.gg _ ra⟩
 ·cases hf;obtain⟨x,r,rfl,px,pr⟩:=pr;cases(show r=[]from pr);obtain⟨a,ys,rfl,ha,ra⟩:=px;exact⟨a,ys,rfl,.inr ⟨s.tup ha,h G _ H (.refl s) ⟨a,ys,rfl,ha,ra⟩⟩⟩
 ·cases hf
theorem q6l(hm:X.mg "tuple"=none)(ha:DA Z X EE [e] dA)(hg:Gl X "tuple":=by rfl)(he:starEach [e] X.env=(false,eval e X.env)::starEach [] X.env:=by rfl)(hpl:(backTo pos (starEach [] X.env)).any (·.1)=false:=by rfl):DE Z X EE (.Call (.Name "tuple" p) [e] [] pos) (dFn tup1 dA):=
 x64 x1p y87 PyProof.Rows.Boot.«tuple» hm ha hg (by decide) (by decide) he hpl
theorem q1p(hm:X.mg "len"=none)(ha:DA Z X EE [e] dA)(hg:Gl X "len":=by rfl)(he:starEach [e] X.env=(false,eval e X.env)::starEach [] X.env:=by rfl)(hpl:(backTo pos (starEach [] X.env)).any (·.1)=false:=by rfl):DE Z X EE (.Call (.Name "len" p) [e] [] pos) (dFn len1 dA):=
 q59 x15 x69 PySem.boot_len hm ha hg (by decide) (by decide) he hpl
theorem q2v(i:Nat)(hm:X.mg "len"=none)(hN:X.N[i]?=some x:=by rfl)(hvis:Vis X.env.scope x:=by walk_at "1")(hd:(x==("__debug__":Str))=false:=by decide)(hcd:(x==("__classdict__":Str))=false:=by decide)
  (hg:Gl X "len":=by rfl)(hs:starEach [.Name x p] X.env=(false,eval (.Name x p) X.env)::starEach [] X.env:=by rfl)(hpl:(backTo pos (starEach [] X.env)).any (·.1)=false:=by rfl):DE Z X EE (.Call (.Name "len" pn) [.Name x p] [] pos) (dFnV i len1):=
 y83 i x15 x69 PySem.boot_len hm hN hvis hd hcd hg (by decide) (by decide) hs hpl
def lst1:List W->Option (List W)
 |[.lst ws]=>some ws
 |[.tup ws]=>some ws
 |_=>none
def dList(dA:Den (List W)):Den (List W):=fun e=>(dA e).bind fun ws e1=>ofOpt (lst1 ws) e1
theorem q7u(hm:X.mg "list"=none)(ha:DA Z X EE [e] dA)(hg:Gl X "list":=by rfl)(he:starEach [e] X.env=(false,eval e X.env)::starEach [] X.env:=by rfl)(hpl:(backTo pos (starEach [] X.env)).any (·.1)=false:=by rfl):DF Z X EE (.Call (.Name "list" p) [e] [] pos) (dList dA):=by
 refine PE.mono (x0u x2b hg hm PyProof.Rows.Boot.«list» ha (by decide) (by decide) he hpl) ?_;rintro σ H Q ⟨G,e,rel,h⟩;simp only[dList,R.holds_bind,ofOpt_holds]at h;refine⟨G,e,rel,h.imp (fun ws e1 h G1 vs H1 r1 s1 p1=>?_) fun _ _ h=>h⟩
 obtain⟨out,hf,h⟩:=h;unfold lst1 at hf;split at hf
 ·cases hf;obtain⟨y,r,rfl,py,pr⟩:=p1;cases(show r=[]from pr);obtain⟨a,ys,rfl,hq,rq⟩:=py;exact⟨a,ys,rfl,.inl (r1.sub.seq hq),q3v r1 s1 rq h⟩
 ·cases hf;obtain⟨y,r,rfl,py,pr⟩:=p1;cases(show r=[]from pr);obtain⟨a,ys,rfl,hq,rq⟩:=py;exact⟨a,ys,rfl,.inr (r1.sub.tup hq),q3v r1 s1 rq h⟩
 ·cases hf
def dNo:List S->SR:=fun _=>.no
theorem q6m:DS Z X EE st dNo:=fun pins s σ H D I ⟨G,e,r,h⟩=>h.elim
end
section
variable{w:World}{mg:Str->Option Value}{base:Heap}
theorem x7i{F:List W->FR}(hF:∀ws,F ws=.no){vs:List V}{Q:VK}{E:XK}(h:spF K F vs H Q E):False:=by
 obtain⟨G,ws,hn,_⟩:=q7d h;exact hn (hF ws)
theorem conF{N ps:List Str}{k:Nat}{F:List W->FR}{f:Addr}{fd:FuncData}(A:Fun K x x st f fd)(sc:FnScope N ps (defScope st))(len:∀ws,F ws≠.no->ws.length=ps.length)
  (hb:∀ws,F ws≠.no->∀(cdv:Value)(A:Around)(outer:List Env)(s:Shared)(H:Hp)(E:XK)(Z:Zt),Room k (A.deeper (PyProof.Rows.envOfC x (defScope st) s.heap.objs.size f cdv)) ->
   ∃d,DSs Z (cxOf (CX1 P w) P w K mg base N x (defScope st) f cdv A outer s H E) (fun _=>E) (defBody st) d/\(d (init N.length ws)).fn=F ws):FnOk P w K mg base (CX1 P w) (k+1) f fd ps (spF K F):=by
 refine A.okX sc (fun vs H Q E h=>?_) (fun cdv A outer s H vs Q E hr h=>?_)
 ·obtain⟨G,ws,hn,r⟩:=q7d h;rw[r.length];exact len ws hn
 ·obtain⟨G,ws,sg,rp,h⟩:=h;have hn:F ws≠.no:=fun z=>by rw[z]at h;exact h
  obtain⟨d,hd,he⟩:=hb ws hn cdv A outer s H E ⟨H,G,[]⟩ hr;exact⟨_,hd,G,init N.length ws,q5p sg rp,q7s he h⟩
def spLaw(K:Fg):Sp:=fun vs H Q _=>∃(a:Addr)(ns:List Int),vs=[.ref a]/\SqL K H a (ns.map V.int)/\ns.length<=63/\∀H',Q (.bl true) H'
theorem x0y:∀(ns:List Int),Reps K G (ns.map W.int) (ns.map V.int)
 |[]=>rfl
 |n::ns=>⟨_,_,rfl,rfl,x0y ns⟩
theorem y0h{F:List W->FR}(hF:∀ns:List Int,ns.length<=63->F [.lst (ns.map .int)]=.ok (.fr (.bl true))){vs:List V}{Q:VK}{E:XK}(h:spLaw K vs H Q E):spF K F vs H Q E:=by
 obtain⟨a,ns,rfl,hS,hl,q⟩:=h;refine⟨fun b=>if b=a then H a else none,[.lst (ns.map .int)],fun b o z=>?_,⟨.ref a,[],rfl,⟨a,ns.map V.int,rfl,?_,x0y ns⟩,rfl⟩,?_⟩
 ·by_cases hb:b=a
  ·subst hb;simpa using z
  ·simp[hb]at z
 ·rcases hS with(h|⟨o,h⟩)|h
  ·exact .inl (.inl (by simpa using h))
  ·exact .inl (.inr ⟨o,by simpa using h⟩)
  ·exact .inr h
 ·rw[hF ns hl];intro G' H' v g sl;obtain⟨u,h1,h2⟩:=sl;cases h1;cases(show v=V.bl true from h2);exact q H'
theorem y88{w:World}{e:Value}{s':Shared}(z:CX1 P w [] H s (fun _ _ _=>False) e s'):False:=by
 obtain⟨_,_,_,_,_,_,_,_,_,_,h⟩:=z;exact h
theorem con0{ps:List Str}{F:List W->FR}(A:At K mg x st ps)(hF:∀ws,F ws=.no:=by intro _;rfl):Cal P w K mg base 0 x ps (spF K F):=by
 obtain⟨f,fd,F0,m,b⟩:=A.ex;exact⟨f,fd,⟨fun vs H Q E h=>(x7i hF h).elim,fun A outer s H args us vs Q E _ _ _ _ h=>(x7i hF h).elim⟩,m,F0.kp,b⟩
end
section
variable{e:Expr}{d:Den Str}
def DFm(Z:Zt)(X:Cx)(EE:L2.St->XK)(n:Nat)(es:List Expr)(d:Den Str):Prop:=PF X es (fun acc σ H Q=>acc.length+n*1000001<=16777216/\∃G e,Rel X.K Z G σ H e/\(d e).holds (fun y e'=>∀G' H',Rel X.K Z G' σ H' e'->Same G G'->Q (acc++y) H') (XH X.K Z EE σ G))
end
section
variable{β:Type}{c:Prop} [Decidable c]{a:α}{e':List S}{k:α->List S->R β}{ks:α->List S->SR}{x y:R α}{s t:SR}{v:Value}{st:S}
theorem q6d:(R.ok a e).bind k=k a e:=rfl
theorem y45:(R.ex v e:R α).bind k=.ex v e:=rfl
theorem y46:(R.no:R α).bind k=.no:=rfl
theorem y0i:(if c then x else y).bind k=if c then x.bind k else y.bind k:=by split<;>rfl
theorem y89:(R.ok a e).stm ks=ks a e:=rfl
theorem y9a:(R.ex v e:R α).stm ks=.ex v e:=rfl
theorem y9b:(R.no:R α).stm ks=.no:=rfl
theorem y47:(if c then x else y).stm ks=if c then x.stm ks else y.stm ks:=by split<;>rfl
def SR.seq:SR->(List S->SR)->SR
 |.nx e,b=>b e
 |r,_=>r
theorem x7j{p:List S->SR}:dSeq p q e=(p e).seq q:=by
 unfold dSeq SR.seq;cases p e<;>rfl
theorem y9c:(SR.nx e).seq q=q e:=rfl
theorem y9d:(SR.rt st e).seq q=.rt st e:=rfl
theorem y9e:(SR.ex v e).seq q=.ex v e:=rfl
theorem y9f:(SR.bk e).seq q=.bk e:=rfl
theorem y9g:(SR.ct e).seq q=.ct e:=rfl
theorem y9h:(SR.no).seq q=.no:=rfl
theorem y48:(if c then s else t).seq q=if c then s.seq q else t.seq q:=by split<;>rfl
theorem z2x:(SR.nx e).fn=.ok (.fr .non):=rfl
theorem z2y:(SR.rt st e).fn=.ok st:=rfl
theorem z2z:(SR.ex v e).fn=.ex v:=rfl
theorem z20:(SR.no).fn=.no:=rfl
theorem y9i:(if c then s else t).fn=if c then s.fn else t.fn:=by split<;>rfl
theorem q86:ofOpt (some a) e=.ok a e:=rfl
theorem x5t:ofOpt (none:Option α) e=.no:=rfl
theorem x7k{o p:Option α}:ofOpt (if c then o else p) e=if c then ofOpt o e else ofOpt p e:=by split<;>rfl
def varS(i:Nat)(e:List S):Option S->R W
 |some (.fr w)=>.ok w e
 |some (.own none ws)=>.ok (.lst ws) (e.set i (.fr (.lst ws)))
 |some (.x k)=>match k.plain with
  |some w=>.ok w e
  |none=>.no
 |_=>.no
theorem x7l:dVar i e=varS i e e[i]?:=by
 unfold dVar varS;cases e[i]? with
 |none=>rfl
 |some s=>cases s with
  |own b ws=>cases b<;>rfl
  |_=>rfl
theorem y49:varS i e (some (.x (.old w)))=.ok w e:=rfl
theorem y5a:varS i e (some (.x (.new w)))=.ok w e:=rfl
theorem y9j:varS i e (some (.fr w))=.ok w e:=rfl
theorem y5b:varS i e (some (.own none ws))=.ok (.lst ws) (e.set i (.fr (.lst ws))):=rfl
theorem dC_s:dC w e=.ok w e:=rfl
theorem z21{f:W->W->Option W}:dOp f da db e=(da e).bind fun x e1=>(db e1).bind fun y e2=>ofOpt (f x y) e2:=rfl
theorem z22{f:W->Option W}:dUn f da e=(da e).bind fun x e1=>ofOpt (f x) e1:=rfl
def testW(e:List S):W->R Bool
 |.bl k=>.ok k e
 |_=>.no
theorem y5c:dTest da e=(da e).bind fun x e1=>testW e1 x:=rfl
theorem y5d{b:Bool}:testW e (.bl b)=.ok b e:=rfl
theorem y9k:dTru da e=(da e).bind fun x e1=>ofOpt (truW x) e1:=rfl
theorem y9l{p q:Den Bool}:dAnd p q e=(p e).bind fun x e1=>if x=true then q e1 else .ok false e1:=rfl
theorem z23{p q:Den Bool}:dOr p q e=(p e).bind fun x e1=>if x=true then .ok true e1 else q e1:=rfl
theorem y9m{p:Den Bool}:dNot p e=(p e).bind fun x e1=>.ok (!x) e1:=rfl
def andK(q:Den W)(e:List S):W->R W
 |.bl true=>q e
 |.bl false=>.ok (.bl false) e
 |_=>.no
theorem y5e{p q:Den W}:dAndV p q e=(p e).bind fun x e1=>andK q e1 x:=rfl
theorem y9n{q:Den W}{b:Bool}:andK q e (.bl b)=if b=true then q e else .ok (.bl false) e:=by cases b<;>rfl
def orK(q:Den W)(e:List S):W->R W
 |.bl true=>.ok (.bl true) e
 |.bl false=>q e
 |_=>.no
theorem y9o{p q:Den W}:dOrV p q e=(p e).bind fun x e1=>orK q e1 x:=rfl
theorem z24{q:Den W}{b:Bool}:orK q e (.bl b)=if b=true then .ok (.bl true) e else q e:=by cases b<;>rfl
def notK(e:List S):W->R W
 |.bl k=>.ok (.bl (!k)) e
 |_=>.no
theorem y5f{p:Den W}:dNotV p e=(p e).bind fun x e1=>notK e1 x:=rfl
theorem y9p{b:Bool}:notK e (.bl b)=.ok (.bl (!b)) e:=rfl
theorem y9q:dNil e=.ok [] e:=rfl
theorem y5g{p:Den W}{q:Den (List W)}:dCons p q e=(p e).bind fun x e1=>(q e1).bind fun xs e2=>.ok (x::xs) e2:=rfl
theorem y9r:dTup p e=(p e).bind fun xs e1=>if xs.length<=16777216 then .ok (.tup xs) e1 else .no:=rfl
theorem y9s:dLst p e=(p e).bind fun xs e1=>if xs.length<=16777216 then .ok xs e1 else .no:=rfl
theorem y31:dFz p e=(p e).bind fun xs e1=>.ok (.lst xs) e1:=rfl
theorem z25:dFn f p e=(p e).bind fun xs e1=>ofOpt (f xs) e1:=rfl
theorem y5h:dList p e=(p e).bind fun xs e1=>ofOpt (lst1 xs) e1:=rfl
theorem z26:dNx e=.nx e:=rfl
theorem z27:dNo e=.no:=rfl
theorem y5i:dDrop d e=(d e).stm fun _ e'=>.nx e':=rfl
theorem y9t:dRet d e=(d e).stm fun w e'=>.rt (.fr w) e':=rfl
theorem y5j{d:Den (List W)}:dRetF d e=(d e).stm fun w e'=>.rt (.own none w) e':=rfl
def retS(e:List S):Option S->SR
 |some (.own none ws)=>.rt (.own none ws) e
 |some (.fr w)=>.rt (.fr w) e
 |_=>.no
theorem y5k:dRetO i e=retS e e[i]?:=by
 unfold dRetO retS;cases e[i]? with
 |none=>rfl
 |some s=>cases s with
  |own b ws=>cases b<;>rfl
  |_=>rfl
theorem y5l:retS e (some (.own none ws))=.rt (.own none ws) e:=rfl
theorem y9u:retS e (some (.fr w))=.rt (.fr w) e:=rfl
theorem y9v{p:Den Bool}{q':List S->SR}:dIfS p q q' e=(p e).stm fun x e1=>if x=true then q e1 else q' e1:=rfl
theorem y9w:dSet i d e=(d e).stm fun w e'=>.nx (e'.set i (.fr w)):=rfl
theorem x4l{d:Den (List W)}:dSetO i d e=(d e).stm fun w e'=>.nx (e'.set i (.own none w)):=rfl
def callR(e:List S):FR->R W
 |.ok (.fr w)=>.ok w e
 |.ok (.own none ws)=>.ok (.lst ws) e
 |.ok (.dic kvs)=>.ok (.dic kvs) e
 |.ok (.thr us ws vs)=>.ok (.tup (us++.lst ws::vs)) e
 |.ok (.x (.new w))=>.ok w e
 |.ok (.x (.tn us wss))=>.ok (.tup (us++[.lst (wss.map .lst)])) e
 |.ex c=>.ex c e
 |_=>.no
theorem y0j{vs:List W}:callR e (.ok (.thr us ws vs))=.ok (.tup (us++.lst ws::vs)) e:=rfl
theorem y5m{wss:List (List W)}:callR e (.ok (.x (.tn us wss)))=.ok (.tup (us++[.lst (wss.map .lst)])) e:=rfl
theorem y0k:callR e (.ok (.x (.new w)))=.ok w e:=rfl
theorem y0l{kvs:Dd}:callR e (.ok (.dic kvs))=.ok (.dic kvs) e:=rfl
theorem y5n{F:List W->FR}{d:Den (List W)}:dCall F d e=(d e).bind fun ws e1=>callR e1 (F ws):=by
 unfold dCall;congr 1
theorem y5o:callR e (.ok (.fr w))=.ok w e:=rfl
theorem y0m:callR e (.ok (.own none ws))=.ok (.lst ws) e:=rfl
theorem y5p:callR e (.ex v)=.ex v e:=rfl
theorem y5q:callR e .no=.no:=rfl
theorem y0n{f g:FR}:callR e (if c then f else g)=if c then callR e f else callR e g:=by split<;>rfl
def callF(e:List S):FR->R (List W)
 |.ok (.own none ws)=>.ok ws e
 |.ex c=>.ex c e
 |_=>.no
theorem x7m:callF e (.ok (.own none ws))=.ok ws e:=rfl
theorem y0o:callF e (.ex v)=.ex v e:=rfl
theorem x7n{f g:FR}:callF e (if c then f else g)=if c then callF e f else callF e g:=by split<;>rfl
def forW(i:Nat)(b:List S->SR)(e:List S):Option (List W)->SR
 |some ws=>forD i b ws e
 |none=>.no
theorem y9x{b:List S->SR}:dFor i d b e=(d e).stm fun w e1=>forW i b e1 (seqW w):=by
 unfold dFor;congr 1
theorem y5r{g:List W->Option (List W)}{d:Den (List W)}{b:List S->SR}:dForR i g d b e=(d e).stm fun w e1=>forW i b e1 (g w):=by
 unfold dForR;congr 1
theorem x7o{b:List S->SR}:forW i b e (some ws)=forD i b ws e:=rfl
def SR.turn:SR->(List S->SR)->SR
 |.nx e,k=>k e
 |.ct e,k=>k e
 |.bk e,_=>.nx e
 |.rt s e,_=>.rt s e
 |.ex c e,_=>.ex c e
 |.no,_=>.no
theorem x2n{b:List S->SR}:forD i b (w::ws) e=(b (e.set i (.fr w))).turn (forD i b ws):=by
 show(match b (e.set i (.fr w))with|.nx e'=>forD i b ws e'|.ct e'=>forD i b ws e'|.bk e'=>.nx e'|.rt s e'=>.rt s e'|.ex c e'=>.ex c e'|.no=>.no)=_;cases b (e.set i (.fr w))<;>rfl
theorem q9z:(SR.nx e).turn q=q e:=rfl
theorem y5s:(SR.ct e).turn q=q e:=rfl
theorem y5t:(SR.bk e).turn q=.nx e:=rfl
theorem y5u:(SR.rt st e).turn q=.rt st e:=rfl
theorem y5v:(SR.ex v e).turn q=.ex v e:=rfl
theorem y5w:(SR.no).turn q=.no:=rfl
theorem y0p:(if c then s else t).turn q=if c then s.turn q else t.turn q:=by split<;>rfl
theorem q7v{p:Den Bool}{b:List S->SR}:whileD p b (n+1) e=(p e).stm fun x e1=>if x=true then(b e1).turn (whileD p b n)else .nx e1:=by
 show(p e).stm _=_;congr 1;funext x e1
 split
 ·cases b e1<;>rfl
 ·rfl
def look1(k:W->R W):Option W->R W
 |none=>.no
 |some w=>k w
theorem y9y:dIxV i d e=look1 (fun _=>(d e).bind fun k e1=>look1 (fun w=>ofOpt (ixW w k) e1) (e1[i]?.bind S.look)) (e[i]?.bind S.look):=by
 unfold dIxV look1;cases e[i]?.bind S.look with
 |none=>rfl
 |some w=>
  dsimp only;try congr 1
theorem x7p{k:W->R W}:look1 k (some w)=k w:=rfl
theorem z28:S.look (.fr w)=some w:=rfl
theorem y9z:S.look (.x (.old w))=some w:=rfl
theorem y90:S.look (.x (.new w))=some w:=rfl
theorem y91:S.look (.x (.acc ws))=some (.lst ws):=rfl
theorem y92:S.look (.own b ws)=some (.lst ws):=rfl
def fnV2(e:List S)(y:Option W):Option S->R W
 |some (.fr _)=>ofOpt y e
 |_=>match y with
  |none=>.no
  |some v=>if scalW v=true then .ok v e else .no
theorem y93:dFnV i f e=look1 (fun w=>fnV2 e (f [w]) e[i]?) (e[i]?.bind S.look):=by
 unfold dFnV look1;cases q:e[i]? with
 |none=>rfl
 |some s=>
  cases s with
  |no=>rfl
  |dic _=>rfl
  |thr _ _ _=>rfl
  |nest _=>rfl
  |x k=>
   show(match k.look with|none=>R.no|some w=>match f [w]with|none=>R.no|some v=>if scalW v=true then R.ok v e else R.no)=look1 (fun w=>fnV2 e (f [w]) (some (.x k))) k.look
   cases k.look with
   |none=>rfl
   |some w=>
    show(match f [w]with|none=>R.no|some v=>if scalW v=true then R.ok v e else R.no)=fnV2 e (f [w]) (some (.x k));generalize f [w]=y;cases y<;>rfl
  |dw _ _ _=>rfl
  |fr w=>
   show(match f [w]with|none=>R.no|some v=>R.ok v e)=fnV2 e (f [w]) (some (.fr w));generalize f [w]=y;cases y<;>rfl
  |own b ws=>
   show(match f [W.lst ws]with|none=>R.no|some v=>if scalW v=true then R.ok v e else R.no)=fnV2 e (f [W.lst ws]) (some (.own b ws));generalize f [W.lst ws]=y;cases y<;>rfl
theorem y94{y:Option W}:fnV2 e y (some (.fr w))=ofOpt y e:=rfl
theorem z29{k:SK}{v:W}:fnV2 e (some v) (some (.x k))=if scalW v=true then .ok v e else .no:=rfl
theorem y5x{v:W}:fnV2 e (some v) (some (.own b ws))=if scalW v=true then .ok v e else .no:=rfl
def appK(i:Nat)(e:List S):List W->Option S->SR
 |[w],some (.own b xs)=>if xs.length<16777216 then .nx (e.set i (.own b (xs++[w])))else .no
 |_,_=>.no
def ownQ(k:SR):Option S->SR
 |some (.own _ _)=>k
 |_=>.no
theorem y95{d:Den (List W)}:dApp i d e=ownQ ((d e).stm fun ws e1=>appK i e1 ws e1[i]?) e[i]?:=by
 unfold dApp ownQ;cases e[i]? with
 |none=>rfl
 |some s=>cases s with
  |own b xs=>
   dsimp only;try congr 1
  |_=>rfl
theorem z3a{k:SR}:ownQ k (some (.own b ws))=k:=rfl
theorem z3b{xs:List W}:appK i e [w] (some (.own b xs))=if xs.length<16777216 then .nx (e.set i (.own b (xs++[w])))else .no:=rfl
def compR(e:List S):Option (List W)->R (List W)
 |some out=>.ok out e
 |none=>.no
theorem y5y:compK js cc d ws e=if ws.length<=16777216 then compR (frzs js e) (compD cc d (pjS js (frzs js e)) ws)else .no:=by
 unfold compK compR;split
 ·cases compD cc d (pjS js (frzs js e)) ws<;>rfl
 ·rfl
def compW(js:List Nat)(cc:Den Bool)(d:Den W)(e:List S):Option (List W)->R (List W)
 |some ws=>compK js cc d ws e
 |none=>.no
theorem y5z{di:Den W}:dComp js di cc d e=(di e).bind fun w e1=>compW js cc d e1 (seqW w):=by
 unfold dComp;congr 1
theorem y0q{g:List W->Option (List W)}{di:Den (List W)}:dCompR g js di cc d e=(di e).bind fun w e1=>compW js cc d e1 (g w):=by
 unfold dCompR;congr 1
theorem x5u:compW js cc d e (some ws)=compK js cc d ws e:=rfl
theorem x5v{out:List W}:compR e (some out)=.ok out e:=rfl
theorem y96:dYes e=.ok true e:=rfl
theorem y0r:frzs [] e=e:=rfl
theorem x7q:frzs (j::js) e=frzs js (frz1 e j):=rfl
theorem y50:pjS [] e=[]:=rfl
theorem y0s:pjS (j::js) e=pj1 e j::pjS js e:=rfl
theorem x2o{g:W->W}:∀(ws:List W),(∀w∈ws,∃e',d (.fr w::pe)=.ok (g w) e')->compD dYes d pe ws=some (ws.map g)
 |[],_=>rfl
 |w::ws,h=>by
  obtain⟨e',he⟩:=h w (by simp);show(match d (.fr w::pe)with|.ok y _=>(compD dYes d pe ws).map (y::·)|_=>none)=_;rw[he,x2o ws fun u hu=>h u (by simp[hu])]
  rfl
theorem x7r:compD cc d pe (w::ws)=(match cc (.fr w::pe)with
  |.ok true e1=>(match d e1 with|.ok y _=>(compD cc d pe ws).map (y::·)|_=>none)
  |.ok false _=>compD cc d pe ws
  |_=>none):=rfl
end
section
variable{i j:Int}{b c:Bool}
theorem y97:addW (.int i) (.int j)=some (.int (i+j)):=rfl
theorem y98:addW (.str x) (.str y)=if x.length+y.length<=16777216 then some (.str (x++y))else none:=rfl
theorem y99:addW (.lst ws) (.lst us)=if ws.length+us.length<=16777216 then some (.lst (ws++us))else none:=rfl
theorem z0a:subW (.int i) (.int j)=some (.int (i-j)):=rfl
theorem z0b:mulW (.int i) (.int j)=if(-18446744073709551616<i/\i<18446744073709551616)\/(-18446744073709551616<j/\j<18446744073709551616)then some (.int (i*j))else none:=rfl
theorem y51:fdivW (.int i) (.int j)=if 0<j/\j<1073741824 then some (.int (i / j))else none:=rfl
theorem z0c:modW (.int i) (.int j)=if 0<j then some (.int (i%j))else none:=rfl
theorem z3c:ltW (.int i) (.int j)=some (.bl (decide (i<j))):=rfl
theorem z3d:leW (.int i) (.int j)=some (.bl (decide (i<=j))):=rfl
theorem z3e:gtW (.int i) (.int j)=some (.bl (decide (j<i))):=rfl
theorem z3f:negW (.int i)=some (.int (-i)):=rfl
theorem z3g:eq2 (.int i) (.int j)=some (.bl (decide (i=j))):=by
 show some (W.bl (i==j))=_;congr 2
theorem z3h:eq2 (.str x) (.str y)=some (.bl (decide (x=y))):=by
 show some (W.bl (x==y))=_;congr 2
theorem z3i:eq2 (.bl b) (.bl c)=some (.bl (decide (b=c))):=by
 show some (W.bl (b==c))=_;congr 2
theorem z3j:ne2 (.int i) (.int j)=some (.bl (!decide (i=j))):=by
 show some (W.bl (!(i==j)))=_;congr 2
theorem z3k:ne2 (.str x) (.str y)=some (.bl (!decide (x=y))):=by
 show some (W.bl (!(x==y)))=_;congr 2
theorem ne_bb:ne2 (.bl b) (.bl c)=some (.bl (!decide (b=c))):=by
 show some (W.bl (!(b==c)))=_;congr 2
theorem z3l:isW (.bl b) (.bl c)=some (.bl (decide (b=c))):=by
 show some (W.bl (b==c))=_;congr 2
theorem z3m:isW .non .non=some (.bl true):=rfl
theorem z3n:isW (.bl b) .non=some (.bl false):=rfl
theorem z3o:isW (.int i) .non=some (.bl false):=rfl
theorem z3p:isW (.str x) .non=some (.bl false):=rfl
theorem z3q:isW (.tup ws) .non=some (.bl false):=rfl
theorem z3r:isW (.lst ws) .non=some (.bl false):=rfl
theorem z0d:nisW (.bl b) (.bl c)=some (.bl (!decide (b=c))):=by
 show some (W.bl (!(b==c)))=_;congr 2
theorem z0e:nisW .non .non=some (.bl false):=rfl
theorem z0f:nisW (.bl b) .non=some (.bl true):=rfl
theorem z0g:nisW (.int i) .non=some (.bl true):=rfl
theorem z0h:nisW (.str x) .non=some (.bl true):=rfl
theorem z0i:nisW (.tup ws) .non=some (.bl true):=rfl
theorem z0j:nisW (.lst ws) .non=some (.bl true):=rfl
theorem ix_t:ixW (.tup ws) (.int i)=atI ws i:=rfl
theorem ix_l:ixW (.lst ws) (.int i)=atI ws i:=rfl
theorem z3s:len1 [.tup ws]=some (.int ws.length):=rfl
theorem z3t:len1 [.lst ws]=some (.int ws.length):=rfl
theorem z3u:tup1 [.lst ws]=some (.tup ws):=rfl
theorem z3v:tup1 [.tup ws]=some (.tup ws):=rfl
theorem z3w:lst1 [.lst ws]=some ws:=rfl
theorem z3x:lst1 [.tup ws]=some ws:=rfl
theorem z3y:truW (.bl b)=some b:=rfl
theorem z3z:truW (.int i)=some (i != 0):=rfl
theorem z30:truW .non=some false:=rfl
theorem z31:truW (.tup ws)=some (!ws.isEmpty):=rfl
theorem z32:truW (.lst ws)=some (!ws.isEmpty):=rfl
theorem z33:seqW (.tup ws)=some ws:=rfl
theorem z34:seqW (.lst ws)=some ws:=rfl
theorem sc_i:scalW (.int i)=true:=rfl
theorem sc_b:scalW (.bl b)=true:=rfl
theorem sc_s:scalW (.str x)=true:=rfl
theorem sc_n:scalW .non=true:=rfl
theorem sl_l{lo hi:Option Int}:slW (.lst ws) lo hi=some (.lst (cutW ws lo hi)):=rfl
theorem at0{xs:List α}:atI xs 0=xs[0]?:=by
 cases xs with
 |nil=>rfl
 |cons a l=>exact q14 (j:=0) rfl
theorem at1{xs:List α}:atI xs 1=xs[1]?:=by
 cases xs with
 |nil=>rfl
 |cons a l=>
  cases l with
  |nil=>rfl
  |cons b l=>exact q14 (j:=1) rfl
theorem at2{xs:List α}:atI xs 2=xs[2]?:=by
 cases xs with
 |nil=>rfl
 |cons a l=>
  cases l with
  |nil=>rfl
  |cons b l=>
   cases l with
   |nil=>rfl
   |cons c l=>exact q14 (j:=2) rfl
theorem z0k{xs:List α}{k:Int}(h0:0<=k):atI xs k=xs[k.toNat]?:=by
 unfold atI ixN;rw[if_pos h0]
 by_cases h:k<xs.length
 ·rw[if_pos h];rfl
 ·rw[if_neg h];exact(w2c (by omega)).symm
theorem x2p{a b:String}(h:Str.ofString a=Str.ofString b):a=b:=by
 rw[Str.ofString_eq_toList,Str.ofString_eq_toList]at h;have h1:(a.toList.map Char.toNat).toArray=(b.toList.map Char.toNat).toArray:=congrArg Str.cps h;have h2:a.toList.map Char.toNat=b.toList.map Char.toNat:=by simpa using congrArg Array.toList h1
 have h3:a.toList=b.toList:=by
  have inj:∀c d:Char,c.toNat=d.toNat->c=d:=fun c d e=>by
   apply Char.ext;exact UInt32.toNat_inj.mp e
  exact(w4k inj).mp h2
 exact String.toList_inj.mp h3
theorem z0l{a b:String}:(Str.ofString a=Str.ofString b)=(a=b):=propext ⟨x2p,fun h=>by rw[h]⟩
end
def tuprevW:W->Option W
 |.lst ws=>some (.tup ws.reverse)
 |_=>none
def boolsW:List W->Option (List Bool)
 |[]=>some []
 |.bl b::ws=>(boolsW ws).map (b::·)
 |_=>none
def all1:List W->Option W
 |[.lst ws]=>(boolsW ws).map fun bs=>.bl (bs.all id)
 |_=>none
def max2:List W->Option W
 |[.int i,.int j]=>some (.int (if j>i then j else i))
 |_=>none
def min2:List W->Option W
 |[.int i,.int j]=>some (.int (if j<i then j else i))
 |_=>none
def int1:List W->Option W
 |[.int i]=>some (.int i)
 |[.bl b]=>some (.int (if b then 1 else 0))
 |_=>none
def eqS(y x:W):Bool:=(eqW y x).getD false
def ninW:W->W->Option W
 |x,.tup ws=>if scalW x=true/\ws.all scalW=true then some (.bl (!ws.any fun y=>eqS y x))else none
 |x,.lst ws=>if scalW x=true/\ws.all scalW=true then some (.bl (!ws.any fun y=>eqS y x))else none
 |_,_=>none
theorem q7f(h:scalW w=true)(p:Rep K G w v):flatV v=true:=by
 cases w with
 |non=>cases p;rfl
 |bl b=>cases p;rfl
 |int b=>cases p;rfl
 |str b=>cases p;rfl
 |_=>cases h
theorem y52{u:W}{x:V}(h:scalW w=true)(h':scalW u=true)(p:Rep K G w v)(q:Rep K G u x):eqV v x=eqS w u:=by
 cases w<;>cases u<;>first|(cases p;cases q;rfl)|exact absurd (show false=true from h') w0r|exact absurd (show false=true from h) w0r
theorem q8f{u:W}{x:V}(hu:scalW u=true)(q:Rep K G u x):∀{ws:List W}{xs:List V},ws.all scalW=true->Reps K G ws xs->xs.all flatV=true/\inV x xs=ws.any fun y=>eqS y u
 |[],xs,_,r=>by cases r;exact⟨rfl,rfl⟩
 |w::ws,xs,h,r=>by
  obtain⟨y,r',rfl,p,r⟩:=r;rw[w1z,w0y]at h;obtain⟨i1,i2⟩:=q8f hu q h.2 r;refine⟨by rw[w1z,q7f h.1 p,i1];rfl,?_⟩;show(eqV y x||inV x r')=(eqS w u||ws.any _);rw[y52 h.1 hu p q,i2]
theorem z0m:Op2 K (rIn K true) ninW:=by
 intro G H x y wx wy w Q s px py hf h;cases wy with
 |tup ws=>
  simp only[ninW]at hf;split at hf
  ·rename_i hc;cases hf;obtain⟨a,xs,rfl,ha,ra⟩:=py;obtain⟨i1,i2⟩:=q8f hc.1 px hc.2 ra;refine⟨a,xs,rfl,.inr (s.tup ha),q7f hc.1 px,i1,?_⟩;rw[i2];exact h G _ H (.refl s) rfl
  ·cases hf
 |lst ws=>
  simp only[ninW]at hf;split at hf
  ·rename_i hc;cases hf;obtain⟨a,xs,rfl,ha,ra⟩:=py;obtain⟨i1,i2⟩:=q8f hc.1 px hc.2 ra;refine⟨a,xs,rfl,.inl (s.seq ha),q7f hc.1 px,i1,?_⟩;rw[i2];exact h G _ H (.refl s) rfl
  ·cases hf
 |_=>simp[ninW]at hf
theorem q87:∀{ws:List W}{bs:List Bool},boolsW ws=some bs->ws=bs.map .bl
 |[],bs,h=>by cases h;rfl
 |.bl b::ws,bs,h=>by
  obtain⟨cs,h1,rfl⟩:=w0d.mp (show(boolsW ws).map (b::·)=some bs from h);rw[q87 h1];rfl
 |.non::ws,bs,h=>by cases h
 |.int _::ws,bs,h=>by cases h
 |.str _::ws,bs,h=>by cases h
 |.tup _::ws,bs,h=>by cases h
 |.lst _::ws,bs,h=>by cases h
 |.exc _::ws,bs,h=>by cases h
theorem q88:∀{bs:List Bool}{xs:List V},Reps K G (bs.map W.bl) xs->xs=bs.map V.bl
 |[],xs,h=>h
 |b::bs,xs,h=>by
  obtain⟨x,r,rfl,h1,h2⟩:=h;rw[q88 h2,show x=V.bl b from h1];rfl
theorem z0n:OpN K (fun xs H Q=>∃p ys,xs=[.ref p]/\SqL K H p ys/\(∀y∈ys,∃b,y=.bl b)/\Q (.bl (ys.all fun y=>decide (y=.bl true))) H) all1:=by
 intro G H xs ws w Q s pr hf h;unfold all1 at hf;split at hf
 ·obtain⟨bs,hb,rfl⟩:=w0d.mp hf;have:=q87 hb;subst this;obtain⟨x,r,rfl,px,pr⟩:=pr;cases(show r=[]from pr);obtain⟨a,ys,rfl,ha,ra⟩:=px;have:=q88 ra;subst this;refine⟨a,_,rfl,s.seq ha,fun y hy=>?_,h G _ H (.refl s) ?_⟩
  ·obtain⟨b,_,rfl⟩:=w0k.mp hy;exact⟨b,rfl⟩
  ·show V.bl _=V.bl _;congr 1;rw[w3y];congr 1;funext b
   cases b<;>rfl
 ·cases hf
theorem z0o:OpN K (fun xs H Q=>∃i j,xs=[.int i,.int j]/\Q (.int (if j<i then j else i)) H) min2:=by
 intro G H xs ws w Q s pr hf h;unfold min2 at hf;split at hf
 ·cases hf;obtain⟨x,r,rfl,px,y,r2,rfl,py,pr⟩:=pr;cases(show r2=[]from pr);cases px;cases py;exact⟨_,_,rfl,h G _ H (.refl s) rfl⟩
 ·cases hf
theorem z0p:OpN K (fun xs H Q=>(∃i,xs=[.int i]/\Q (.int i) H)\/∃k,xs=[.bl k]/\Q (.int (if k then 1 else 0)) H) int1:=by
 intro G H xs ws w Q s pr hf h;unfold int1 at hf;split at hf
 ·cases hf;obtain⟨x,r,rfl,px,pr⟩:=pr;cases(show r=[]from pr);cases px;exact .inl ⟨_,rfl,h G _ H (.refl s) rfl⟩
 ·cases hf;obtain⟨x,r,rfl,px,pr⟩:=pr;cases(show r=[]from pr);cases px;exact .inr ⟨_,rfl,h G _ H (.refl s) rfl⟩
 ·cases hf
section
variable{a b c e:Expr}{p pos1 pos2:Pos}
theorem z0q(hu:X.A.units+150<cLine)(ha:DE Z X EE a da)(hb:DE Z X EE b db)(hm:behindInMarks .NotIn b=false:=by with_unfolding_all rfl):DT Z X EE (.Compare a [.NotIn] [b] pos) (dTest (dOp ninW da db)):=q5o x2a z0m ha hb hm
theorem x7s(hc:X.calm=true)(hm:X.mg "all"=none)(ha:DA Z X EE [e] dA)(hg:Gl X "all":=by rfl)(he:starEach [e] X.env=(false,eval e X.env)::starEach [] X.env:=by rfl)(hpl:(backTo pos (starEach [] X.env)).any (·.1)=false:=by rfl):DE Z X EE (.Call (.Name "all" p) [e] [] pos) (dFn all1 dA):=
 q59 (x96 hc) z0n PyProof.Rows.Boot.«all» hm ha hg (by decide) (by decide) he hpl
theorem q7w(hc:X.calm=true)(hm:X.mg "min"=none)(ha:DA Z X EE [a,b] dA)(hg:Gl X "min":=by rfl)(he:starEach [a,b] X.env=(false,eval a X.env)::starEach [b] X.env:=by rfl)(hpl:(backTo pos (starEach [b] X.env)).any (·.1)=false:=by rfl):DE Z X EE (.Call (.Name "min" p) [a,b] [] pos) (dFn min2 dA):=
 q59 (x6q hc) z0o PyProof.Rows.Boot.«min» hm ha hg (by decide) (by decide) he hpl
theorem y53(hm:X.mg "int"=none)(ha:DA Z X EE [e] dA)(hg:Gl X "int":=by rfl)(he:starEach [e] X.env=(false,eval e X.env)::starEach [] X.env:=by rfl)(hpl:(backTo pos (starEach [] X.env)).any (·.1)=false:=by rfl):DE Z X EE (.Call (.Name "int" p) [e] [] pos) (dFn int1 dA):=
 x64 x6r z0p PyProof.Rows.Boot.«int» hm ha hg (by decide) (by decide) he hpl
end
theorem y0t:tuprevW (.lst ws)=some (.tup ws.reverse):=rfl
theorem z0r{i j:Int}:max2 [.int i,.int j]=some (.int (if j>i then j else i)):=rfl
theorem z0s{i j:Int}:min2 [.int i,.int j]=some (.int (if j<i then j else i)):=rfl
theorem z35{i:Int}:int1 [.int i]=some (.int i):=rfl
theorem z36{b:Bool}:int1 [.bl b]=some (.int (if b then 1 else 0)):=rfl
theorem cast0:((0:Nat):Int)=0:=rfl
theorem cast1:((1:Nat):Int)=1:=rfl
theorem x2q{b:List S->SR}(I:Nat->List S->Prop):∀(ws:List W)(k:Nat)(e:List S),I k e->(∀(j:Nat)(w:W)(e:List S),ws[j]?=some w->I (k+j) e->∃e',b (e.set i (.fr w))=.nx e'/\I (k+j+1) e')->∃e',forD i b ws e=.nx e'/\I (k+ws.length) e'
 |[],k,e,h0,_=>⟨e,rfl,h0⟩
 |w::ws,k,e,h0,h=>by
  obtain⟨e1,h1,h2⟩:=h 0 w e rfl h0
  obtain⟨e2,h3,h4⟩:=x2q I ws (k+1) e1 h2 fun j u e hu hI=>by
   have z:=h (j+1) u e (by simpa using hu) (by rw[show k+(j+1)=k+1+j by omega];exact hI);rw[show k+(j+1)+1=k+1+j+1 by omega]at z;exact z
  refine⟨e2,?_,?_⟩
  ·rw[x2n,h1,q9z,h3]
  ·rw[w0z,show k+(ws.length+1)=k+1+ws.length by omega];exact h4
theorem len_range{hi:Int}:(rangeW lo hi).length=(hi-lo).toNat:=by simp[rangeW]
theorem x7t{hi:Int}(h:(rangeW lo hi)[j]?=some w):w=.int (lo+j)/\j<(hi-lo).toNat:=by
 unfold rangeW at h;rw[w0i]at h;obtain⟨k,h1,rfl⟩:=w0d.mp h;obtain⟨h2,h3⟩:=w0b.mp h1;simp at h2 h3;subst h3;exact⟨rfl,by omega⟩
theorem q2m{b:List S->SR}{hi:Int}(n:Nat)(hn:(hi-lo).toNat=n)(I:Nat->List S->Prop)(e:List S)(h0:I 0 e)(h:∀(j:Nat)(e:List S),j<n->I j e->∃e',b (e.set i (.fr (.int (lo+j))))=.nx e'/\I (j+1) e'):∃e',forD i b (rangeW lo hi) e=.nx e'/\I n e':=by
 obtain⟨e',h1,h2⟩:=x2q (b:=b) (i:=i) I (rangeW lo hi) 0 e h0 fun j w e hw hI=>by
  obtain⟨rfl,hj⟩:=x7t hw;rw[w3e]at hI |-
  exact h j e (by omega) hI
 rw[len_range,hn,w3e]at h2;exact⟨e',h1,h2⟩
def dPut(i:Nat)(dv dk:Den W):List S->SR:=fun e=>(dv e).stm fun w e1=>match e1[i]? with
 |some (.own _ _)=>(dk e1).stm fun k e2=>match k,e2[i]? with
  |.int k,some (.own b ws)=>match ixN ws.length k with
   |some j=>.nx (e2.set i (.own b (ws.set j w)))
   |none=>.no
  |_,_=>.no
 |_=>.no
section
variable{e k:Expr}{p tpos:Pos}
theorem x7u(i:Nat)(he:DE Z X EE e d)(hk:DE Z X EE k dk)(hN:X.N[i]?=some x:=by rfl)(hv:Vis X.env.scope x:=by walk_at "1")(hd:(x==("__debug__":Str))=false:=by decide)(hcd:(x==("__classdict__":Str))=false:=by decide)
  (ha:∀v,assign (.Subscript (.Name x p) k tpos) X.env v=(do
   let ov <- holding [v] (eval (.Name x p) X.env)
   let iv <- holding [v,ov] (eval k X.env)
   standAt tpos
   holding [v,ov,iv] (setItem ov iv v)
   release [v,ov,iv] []):=by intro _;rfl)
  (hs:swapsWithSole [.Subscript (.Name x p) k tpos] e pos.line X.env=pure false:=by rfl)(hw:swappedStores [.Subscript (.Name x p) k tpos] e X.env=pure none:=by rfl)
  (h1:(assignEach [.Subscript (.Name x p) k tpos] X.env).map (·.2)=[assign (.Subscript (.Name x p) k tpos) X.env]:=by rfl):
  DS Z X EE (.Assign [.Subscript (.Name x p) k tpos] e pos) (dPut i d dk):=by
 refine PS.mono (x13 he (x6l (pv i hN hv hd hcd) hk x19 ha) hs hw h1) ?_;rintro D σ H ⟨G,e,rel,h⟩;refine⟨G,e,rel,(q0r h).imp (fun w e1 h G1 v1 H1 r1 s1 p1=>?_) fun _ _ h=>h⟩
 split at h
 ·rename_i b0 ws0 he0;obtain⟨a,xs,q1,q2,q3,q4,q5⟩:=r1.own he0;refine⟨.ref a,q1,G1,e1,r1,(q0r (σ:=σ) h).imp (fun kw e2 h G2 v2 H2 r2 s2 p2=>?_) fun _ _ h G' H' r s=>h G' H' r (s1.trans s)⟩
  ·split at h
   ·rename_i kk b ws he2;obtain⟨a',zs,g1,g2,g3,g4,g5⟩:=r2.own he2;rw[q1]at g1;cases g1;cases p2;split at h
    ·rename_i j hj;refine⟨a,zs,_,j,rfl,rfl,g2,by rw[g5.length];exact hj,?_⟩;exact h G2 σ _ (r2.mut he2 q1 (g5.set j (Rep.mono s2 w p1))) (s1.trans s2)
    ·exact h.elim
   ·exact h.elim
 ·exact h.elim
end
def OpM(K:Fg)(r:V->List V->Hp->VK->Prop)(f:W->List W->Option W):Prop:=∀(G H:Hp)(x:V)(xs:List V)(wx:W)(ws:List W)(w:W)(Q:VK),Same G H->Rep K G wx x->Reps K G ws xs->f wx ws=some w->(∀G' v H',Grow G H G' H'->Rep K G' w v->Q v H')->r x xs H Q
def kindW(T:String):W->Bool
 |.str _=>T=="str"
 |.lst _=>T=="list"
 |_=>false
def dMeth(T:String)(f:W->List W->Option W)(d:Den W)(dA:Den (List W)):Den W:=fun e=>(d e).bind fun x e1=>if kindW T x=true then(dA e1).bind fun ws e2=>ofOpt (f x ws) e2 else .no
section
variable{o e:Expr}{p:Pos}
theorem y54{T id:String}{name:Str}{r:V->List V->Hp->VK->Prop}{f:W->List W->Option W}(pa:PlainAttrs T)(slot:Slot T name id)(hty:typeOf (.builtin id)=pure (.type "method_descriptor"))(hm:MtR X id r)(hf:OpM X.K r f)(ho:DE Z X EE o d)(ha:DA Z X EE (e::es) dA)
  (hbase:attributeBase o name X.env (eval o X.env)=eval o X.env:=by rfl)
  (hfew:((backTo cpos (starEach (e::es) X.env)).all (fun x=>!x.1)&&(backToKw cpos (keywordEach [] X.env)).all (fun x=>x.1.isSome)&&decide ((e::es).length+([]:List Keyword).length+(if([]:List Keyword).isEmpty then 0 else 1)<30))=true:=by rfl)
  (hline:(apos.endLine==cpos.line)=true:=by rfl)(hs:starEach (e::es) X.env=(false,eval e X.env)::starEach es X.env:=by rfl)(hplain:(backTo cpos (starEach es X.env)).any (·.1)=false:=by rfl):
  DE Z X EE (.Call (.Attribute o name apos) (e::es) [] cpos) (dMeth T f d dA):=by
 refine PE.mono (x5o pa slot hty hm ho ha hbase hfew hline hs hplain) ?_;rintro σ H Q ⟨G,e,rel,h⟩;simp only[dMeth,R.holds_bind]at h;refine⟨G,e,rel,h.imp (fun wx e1 h G1 v1 H1 r1 s1 p1=>?_) fun _ _ h=>h⟩
 split at h
 ·rename_i hk;refine⟨?_,G1,e1,r1,(R.holds_bind.mp h).imp (fun ws e2 h G2 vs H2 r2 s2 p2=>?_) fun _ _ h=>XH.trans s1 h⟩
  ·cases wx with
   |str z=>cases p1;exact(by simpa [kindW]using hk:T="str")
   |lst ws=>
    obtain⟨a,xs,rfl,q,_⟩:=p1;exact .inl ⟨by simpa [kindW]using hk,xs,r1.sub.seq q⟩
   |_=>cases hk
  ·obtain⟨w,hw,h⟩:=ofOpt_holds.mp h;exact hf G2 H2 v1 vs wx ws w Q r2.sub (Rep.mono s2 wx p1) p2 hw fun G' v H' g p=>h G' v H' (r2.grow g) ((s1.trans s2).trans g.gg) p
 ·exact h.elim
end
def SR.turnT(r:SR)(k:List S->SR):SR:=match r with
 |.nx e'=>k e'
 |.ct e'=>k e'
 |.bk e'=>.nx e'
 |.rt s e'=>.rt s e'
 |.ex c e'=>.ex c e'
 |.no=>.no
structure TabK(P:Program)(w:World)(K:Fg)(d:Addr)(tb:List (Str×Int)):Prop where
 tab:∀h,K.In h->PyProof.Rows.StrTab P w h d (PySem.W.kdpD tb)
 obj:∃o,K.lookup d=some o/\o.cls=.type "dict" /\ o.dict=none
def putC(i:Nat)(e:List S)(b:Option Nat)(ws:List W)(w:W):Option Nat->SR
 |some j=>.nx (e.set i (.own b (ws.set j w)))
 |none=>.no
def putB(i:Nat)(e:List S)(w:W):W->Option S->SR
 |.int k,some (.own b ws)=>putC i e b ws w (ixN ws.length k)
 |_,_=>.no
def putA(i:Nat)(dk:Den W)(w:W)(e:List S):Option S->SR
 |some (.own _ _)=>(dk e).stm fun k e2=>putB i e2 w k e2[i]?
 |_=>.no
theorem z0t{dv:Den W}:dPut i dv dk e=(dv e).stm fun w e1=>putA i dk w e1 e1[i]?:=by
 unfold dPut;congr 1
theorem y0u:putA i dk w e (some (.own b ws))=(dk e).stm fun k e2=>putB i e2 w k e2[i]?:=rfl
theorem y0v{k:Int}:putB i e w (.int k) (some (.own b ws))=putC i e b ws w (ixN ws.length k):=rfl
theorem x7v:putC i e b ws w (some j)=.nx (e.set i (.own b (ws.set j w))):=rfl
def extB(i:Nat)(e:List S)(b:Option Nat)(xs:List W):Option (List W)->SR
 |some ys=>if xs.length+ys.length<=16777216 then .nx (e.set i (.own b (xs++ys)))else .no
 |none=>.no
theorem x7w{xs ys:List W}:extB i e b xs (some ys)=if xs.length+ys.length<=16777216 then .nx (e.set i (.own b (xs++ys)))else .no:=rfl
theorem y55{T:String}{f:W->List W->Option W}:dMeth T f d dA e=(d e).bind fun x e1=>if kindW T x=true then(dA e1).bind fun ws e2=>ofOpt (f x ws) e2 else .no:=rfl
theorem z0u{z:Str}:kindW "str" (.str z)=true:=rfl
theorem z0v:kindW "list" (.lst ws)=true:=rfl
def forP(i j:Nat)(b:List S->SR):List (W×W)->List S->SR
 |[],e=>.nx e
 |p::ps,e=>(b ((e.set i (.fr p.1)).set j (.fr p.2))).turnT (forP i j b ps)
def dForP(i j:Nat)(d:Den (List (W×W)))(b:List S->SR):List S->SR:=fun e=>(d e).stm fun ps e1=>forP i j b ps e1
def compP(c:Den Bool)(d:Den W)(pe:List S):List (W×W)->Option (List W)
 |[]=>some []
 |p::ps=>match c (.fr p.1::.fr p.2::pe)with
  |.ok true e1=>match d e1 with
   |.ok y _=>(compP c d pe ps).map (y::·)
   |_=>none
  |.ok false _=>compP c d pe ps
  |_=>none
def compPK(js:List Nat)(c:Den Bool)(d:Den W)(ps:List (W×W))(e1:List S):R (List W):=
 if ps.length<=16777216 then(match compP c d (pjS js (frzs js e1)) ps with
  |some out=>.ok out (frzs js e1)
  |none=>.no)else .no
def dCompP(js:List Nat)(di:Den (List (W×W)))(c:Den Bool)(d:Den W):Den (List W):=fun e=>(di e).bind fun ps e1=>compPK js c d ps e1
structure Walk2(K:Fg)(G1:Hp)(J:It)(ps:List (W×W)):Prop where
 go:∀(i:Nat)(G H:Hp),Same G1 G->Same G H->i<ps.length->J.go i H
 yld:∀(i:Nat)(G H:Hp)(x:V)(H':Hp),Same G1 G->Same G H->J.yld i H x H'->∀u v,ps[i]?=some (u,v) ->
  Grow G H G H'/\∀(m n:Nat)(σ:St)(Q:St->Hp->Prop),(∀y z,Rep K G u y->Rep K G v z->Q ((σ.set m (some y)).set n (some z)) H')->gTup K 2 (gCons (gName m) (gCons (gName n) gNil)) x σ H' Q
 stop:∀(i:Nat)(G H:Hp),Same G1 G->Same G H->ps.length<=i->J.stop i H
def liftI(K:Fg)(Z:Zt)(EE:L2.St->XK)(d:Den (List (W×W))):TI:=fun σ H R=>AtG K Z σ H fun G e=>(d e).holds (fun ps e1=>∀G1 H1 J,Rel K Z G1 σ H1 e1->Same G G1->Walk2 K G1 J ps->R J H1) (XH K Z EE σ G)
def DI(Z:Zt)(X:Cx)(EE:L2.St->XK)(tg iter:Expr)(d:Den (List (W×W))):Prop:=PI X tg iter (liftI X.K Z EE d)
theorem PI.mono{tg iter:Expr}{wi wi':TI}(h:PI X tg iter wi)(m:∀σ H R,wi' σ H R->wi σ H R):PI X tg iter wi':=fun pins s σ H R I q=>h pins s σ H R I (m σ H R q)
theorem x7x{D:Ends}{Pv:St->Hp->Prop}{p:W×W}{x y:V}(r:Rel K Z G' σ H e)(s:Same G1 G')(pu:Rep K G' p.1 x)(pv:Rep K G' p.2 y)
  (h:PostS K Z EE D G1 (forP i j s1 (p::ps) e))(hP:∀G'' σ'' H'' e'',Rel K Z G'' σ'' H'' e''->Same G1 G''->PostS K Z EE D G1 (forP i j s1 ps e'')->Pv σ'' H''):
  liftS K Z EE s1 {D with nx:=Pv,ct:=Pv,bk:=D.nx} ((σ.set i (some x)).set j (some y)) H:=by
 refine⟨G',_,(r.set pu).set pv,?_⟩;unfold forP at h;cases q:s1 ((e.set i (.fr p.1)).set j (.fr p.2))with
 |nx e'=>rw[q]at h;exact fun G'' σ'' H'' r'' s''=>hP G'' σ'' H'' e' r'' (s.trans s'') h
 |ct e'=>rw[q]at h;exact fun G'' σ'' H'' r'' s''=>hP G'' σ'' H'' e' r'' (s.trans s'') h
 |bk e'=>rw[q]at h;exact fun G'' σ'' H'' r'' s''=>h G'' σ'' H'' r'' (s.trans s'')
 |rt t e'=>rw[q]at h;exact fun G'' σ'' v H'' r'' s'' p=>h G'' σ'' v H'' r'' (s.trans s'') p
 |ex c e'=>rw[q]at h;exact fun G'' σ'' H'' r'' s''=>h G'' σ'' H'' r'' (s.trans s'')
 |no=>rw[q]at h;exact h
theorem q89{k:Nat}{p:W×W}(h:ps[k]?=some p):ps.drop k=p::ps.drop (k+1):=by
 obtain⟨h1,h2⟩:=w0b.mp h;rw[w3q h1,h2]
theorem Rel.block2(r:Rel K Z G σ H e)(js:List Nat){u:W}{y x:V}(q:Rep K G u y)(p:Rep K G w x):Rel K ⟨H,G,[]⟩ G (some y::some x::pj js σ) H (.fr u::.fr w::pjS js e):=by
 have b:=r.block js p
 have hfr:∀(i:Nat)(s:S),(S.fr w::pjS js e)[i]?=some s->s=.no\/∃u,s=.fr u:=fun i s h=>by
  cases i with
  |zero=>cases h;exact .inr ⟨w,rfl⟩
  |succ k=>
   rw[w0q]at h;unfold pjS at h;rw[w0i]at h;obtain⟨j,h1,h2⟩:=w0d.mp h;unfold pj1 at h2;split at h2
   ·subst h2;exact .inr ⟨_,rfl⟩
   ·subst h2;exact .inl rfl
 refine⟨b.sub,fun i s h=>?_,?_,fun i j b1 b2 w1 w2 a h1 h2 _ _=>?_,b.ent,b.ion,b.gen⟩
 ·cases i with
  |zero=>cases h;exact⟨y,rfl,q⟩
  |succ i=>
   rw[w0q]at h;have z:=b.slot i s h;rcases hfr i s h with rfl|⟨u',rfl⟩
   ·trivial
   ·obtain⟨v,z1,z2⟩:=b.fr h;exact⟨v,by rw[w0q,z1];rfl,z2⟩
 ·have:=b.len;simp only[w0z]at this |-
  omega
 ·cases i with
  |zero=>cases h1
  |succ i=>
   rw[w0q]at h1;rcases hfr i _ h1 with z|⟨u',z⟩<;>cases z
theorem y0w{J:It}{out:List W}{Q:VK}{G0 H1:Hp}{e1:List S}(W0:Walk2 K G1 J ps)(r1:Rel K Z G1 σ H1 e1)(s1:Same G0 G1)(hl:ps.length<=16777216)
  (hz:∀p,H1 p=none->p∉Z.io)(hc:compP c d (pjS js e1) ps=some out)
  (h:∀G' a xs H',Rel K Z G' σ H' e1->Same G0 G'->H' a=some (.lst xs)->G' a=none->Z.H a=none->Free σ e1 a->Reps K G' out xs->Q (.ref a) H'):
  ∀D,H1 D=none->∃W:Nat->Nat->Hp->Prop,(∃m,W 0 m (upd H1 D (.lst [])))/\∀i m H2,W i m H2 ->
   (J.stop i H2/\Q (.ref D) H2)\/(J.go i H2/\∀x H3,J.yld i H2 x H3->gTup K 2 (gCons (gName 0) (gCons (gName 1) gNil)) x (List.replicate 2 none++pj js σ) H3 fun σ4 H4=>Kp (List.replicate 2 none++pj js σ) σ4/\cT K c σ4 H4 fun b H5=>
    if b=true then cE K d σ4 H5 fun y H6=>∃ys,H6 D=some (.lst ys)/\ys.length<sizeLine/\∃m',m'<m/\W (i+1) m' (upd H6 D (.lst (ys++[y])))else ∃m',m'<m/\W (i+1) m' H5):=by
 intro D hD
 refine⟨fun i m H2=>m=ps.length-i/\i<=ps.length/\∃G2 ys done rest,Rel K Z G2 σ H2 e1/\Same G1 G2/\H2 D=some (.lst ys)/\G2 D=none/\Reps K G2 done ys/\done.length<=i/\compP c d (pjS js e1) (ps.drop i)=some rest/\done++rest=out,
  ⟨ps.length,by omega,w1k _,G1,[],[],out,r1.grow (Grow.hid r1.sub hD _),.refl _,q0f,r1.sub.free hD,rfl,w0j _,hc,rfl⟩,?_⟩
 rintro i m H2 ⟨rfl,hi,G2,ys,done,rest,r2,s2,hd2,hg2,rp2,hdl,hc2,ho⟩;have hfree:Free σ e1 D:=q4m r1 hD;have hzh:Z.H D=none:=q1y r1 hD
 by_cases hlt:i<ps.length
 ·refine .inr ⟨W0.go i G2 H2 s2 r2.sub hlt,fun x H3 hy=>?_⟩
  have hp:ps[i]?=some ((ps[i]).1,(ps[i]).2):=by rw[w0c hlt]
  obtain⟨g3,hgo⟩:=W0.yld i G2 H2 x H3 s2 r2.sub hy _ _ hp;have r2':=r2.grow g3;have hd3:H3 D=some (.lst ys):=g3.hh _ _ hd2;rw[q89 hp]at hc2;refine hgo 0 1 _ _ fun yv zv py pz=>⟨Kp.two,⟨H3,G2,[]⟩,G2,.fr (ps[i]).1::.fr (ps[i]).2::pjS js e1,r2'.block2 js py pz,?_⟩
  unfold compP at hc2;cases qc:c (.fr (ps[i]).1::.fr (ps[i]).2::pjS js e1)with
  |no=>rw[qc]at hc2;cases hc2
  |ex _ _=>rw[qc]at hc2;cases hc2
  |ok k e2=>
   rw[qc]at hc2;intro G3 H5 r3 s3;have g3:=r3.toGrow s3;cases k with
   |false=>
    exact⟨ps.length-(i+1),by omega,rfl,hlt,G3,ys,done,rest,r2'.grow g3,s2.trans s3,g3.hh _ _ hd3,by rw[g3.new D (by rw[hd3];simp)];exact hg2,Reps.mono s3 _ rp2,by omega,hc2,ho⟩
   |true=>
    refine⟨⟨H3,G2,[]⟩,G3,e2,r3,?_⟩;dsimp only at hc2;cases qd:d e2 with
    |no=>rw[qd]at hc2;cases hc2
    |ex _ _=>rw[qd]at hc2;cases hc2
    |ok y e3=>
     rw[qd]at hc2;intro G4 v H6 r4 s4 p4;have g4:=r4.toGrow (s3.trans s4);obtain⟨rest',hr,rfl⟩:=w0d.mp hc2;have hd6:H6 D=some (.lst ys):=g4.hh _ _ hd3;have hg6:G4 D=none:=by rw[g4.new D (by rw[hd3];simp)];exact hg2
     refine⟨ys,hd6,?_,ps.length-(i+1),by omega,rfl,hlt,G4,ys++[v],done++[y],rest',(r2'.grow g4).mutFree hg6 hzh (hz D hD) hfree hd6,s2.trans (s3.trans s4),q0f,hg6,(Reps.mono (s3.trans s4) _ rp2).append (.one p4),by simp;omega,hr,by rw[w0p];exact ho⟩;rw[rp2.length,sizeLine_eq];omega
 ·have:i=ps.length:=by omega
  subst this;rw[w2n]at hc2;cases hc2;rw[w1j]at ho;subst ho;exact .inl ⟨W0.stop _ G2 H2 s2 r2.sub (by omega),h G2 D ys H2 r2 (s1.trans s2) hd2 hg2 hzh hfree rp2⟩
section
variable{elt iter e a:Expr}{body:List Stmt}{ifs:List Expr}{scope sc:Scope}{pt p3:Pos}{Nf N:List Str}{di:Den (List (W×W))}{d0:Den W}
theorem q90(i j:Nat)(hN:X.N.Nodup)(hp:PassesOwn (model X.prog X.w) X.A X.env X.xe)(hc:X.calm=true)(hl:DI Z X EE (.Tuple [.Name x p1,.Name y p2] kt p3) e di)(hb:DSs Z X EE body s1)
  (hi:X.N[i]?=some x:=by rfl)(hx:Loc X.env.scope x:=by walk_at "3")(hf:X.fn x=true\/X.env.scope.names.lookup x=some .local:=by walk_at "2")
  (hj:X.N[j]?=some y:=by rfl)(hy:Loc X.env.scope y:=by walk_at "3")(hf':X.fn y=true\/X.env.scope.names.lookup y=some .local:=by walk_at "2")
  (hn:(assignEach [.Name x p1,.Name y p2] X.env).length=2:=by rfl)(hst:(assignEach [.Name x p1,.Name y p2] X.env).findIdx? (·.1)=none:=by rfl)
  (g1:(assignEach [.Name x p1,.Name y p2] X.env).map (·.2)=assign (.Name x p1) X.env::(assignEach [.Name y p2] X.env).map (·.2):=by rfl)(g2:(assignEach [.Name y p2] X.env).map (·.2)=assign (.Name y p2) X.env::(assignEach [] X.env).map (·.2):=by rfl)
  (hs:∀x,foldedSetIterable e X.env x=pure x:=by intro _;rfl):
  DS Z X EE (.For (.Tuple [.Name x p1,.Name y p2] kt p3) e body [] pos) (dForP i j di s1):=by
 refine PS.mono (x14 hp hc hl (x12 hc (q4l (q28 i hN hi hx hf) (q4l (q28 j hN hj hy hf') q9r g2) g1) hn hst) hb hs) ?_;rintro D σ H ⟨G,e,rel,h⟩;refine⟨G,e,rel,(q0r h).imp (fun ps e1 h G1 H1 J r1 q1 W0=>?_) fun _ _ h=>h⟩
 have h:=PostS.trans q1 h;refine⟨fun k m σ' H'=>m=ps.length-k/\k<=ps.length/\∃G' e',Rel X.K Z G' σ' H' e'/\Same G1 G'/\PostS X.K Z EE D G1 (forP i j s1 (ps.drop k) e'),⟨ps.length,by omega,w1k _,G1,e1,r1,.refl _,h⟩,?_⟩
 rintro k m σ' H' ⟨rfl,hk,G',e',r',s',h'⟩
 by_cases hlt:k<ps.length
 ·refine .inr ⟨W0.go k G' H' s' r'.sub hlt,fun σ'' H''=>∃G' e',Rel X.K Z G' σ'' H'' e'/\Same G1 G'/\PostS X.K Z EE D G1 (forP i j s1 (ps.drop (k+1)) e'),?_,fun v H2 hy=>?_⟩
  ·rintro σ'' H'' ⟨G'',e'',r'',s'',h''⟩;exact⟨ps.length-(k+1),by omega,rfl,hlt,G'',e'',r'',s'',h''⟩
  ·have hp:ps[k]?=some ((ps[k]).1,(ps[k]).2):=by rw[w0c hlt]
   obtain⟨g3,hgo⟩:=W0.yld k G' H' v H2 s' r'.sub hy _ _ hp;rw[q89 hp]at h';exact hgo i j σ' _ fun y z py pz=>x7x (p:=((ps[k]).1,(ps[k]).2)) (r'.grow g3) s' py pz h' fun G'' σ'' H'' e'' r'' s'' h''=>⟨G'',e'',r'',s'',h''⟩
 ·have:k=ps.length:=by omega
  subst this;rw[w2n]at h';exact .inl ⟨W0.stop _ G' H' s' r'.sub (by omega),h' G' σ' H' r' s'⟩
theorem x5w:∀σ H Q,liftF K Z EE (dCompP js di c d) σ H Q->tComp (liftI K Z EE di) 2 js (gTup K 2 (gCons (gName 0) (gCons (gName 1) gNil))) (cT K c) (cE K d) σ H Q:=by
 rintro σ H Q ⟨G,e,rel,h⟩;simp only[dCompP,R.holds_bind]at h;refine⟨G,e,rel,h.imp (fun ps e1 h G1 H1 J r1 s1 W0=>?_) fun _ _ h=>h⟩
 unfold compPK at h;split at h
 ·rename_i hl;split at h
  ·rename_i out ho;obtain⟨G2,s2,r2⟩:=r1.frzs js;have W1:Walk2 K G2 J ps:=⟨fun i G H a=>W0.go i G H (s2.trans a),fun i G H x H' a=>W0.yld i G H x H' (s2.trans a),fun i G H a=>W0.stop i G H (s2.trans a)⟩
   exact y0w W1 r2 (s1.trans s2) hl (ionone r2) ho h
  ·exact h.elim
 ·exact h.elim
theorem q8g(hc:X.calm=true)(hi:DI Z X EE (.Tuple [.Name x p1,.Name y p2] kt p3) iter di)(ok:compOk sc scope N Nf js=true)
  (ht:∀Z' cl C s₀ H₀ ex,DTs Z' (X.cp ([x,y]++Nf) scope cl C s₀ H₀ ex) (fun _=>E0) ifs c)(he:∀Z' cl C s₀ H₀ ex,DE Z' (X.cp ([x,y]++Nf) scope cl C s₀ H₀ ex) (fun _=>E0) elt d)
  (hg:∀cl C s₀ H₀ ex,PG (X.cp ([x,y]++Nf) scope cl C s₀ H₀ ex) (.Tuple [.Name x p1,.Name y p2] kt p3) (gTup X.K 2 (gCons (gName 0) (gCons (gName 1) gNil))))
  (hsc:X.env.scope=sc:=by rfl)(hN:X.N=N:=by rfl)(hs:∀x,foldedSetIterable iter X.env x=pure x:=by intro _;rfl):
  DF Z X EE (.ListComp elt [⟨.Tuple [.Name x p1,.Name y p2] kt p3,iter,ifs,0⟩] scope pos) (dCompP js di c d):=by
 exact PE.mono (q6i (Nl:=[x,y]) (tc:=cT X.K c) (te:=cE X.K d) hc hi ok hg (q84 ht) (x1t he) hsc hN hs) x5w
def pairsW:List W->Option (List (W×W))
 |[]=>some []
 |.tup [u,v]::ws=>(pairsW ws).map ((u,v)::·)
 |_=>none
def srcP(d:Den W):Den (List (W×W)):=fun e=>(d e).bind fun w e1=>match seqW w with
 |some ws=>ofOpt (pairsW ws) e1
 |none=>.no
theorem x0z:∀{ws:List W}{ps:List (W×W)},pairsW ws=some ps->ws.length=ps.length/\∀(i:Nat) u v,ps[i]?=some (u,v)->ws[i]?=some (.tup [u,v])
 |[],ps,h=>by cases h;exact⟨rfl,fun i u v z=>by simp at z⟩
 |w::ws,ps,h=>by
  unfold pairsW at h;split at h
  ·rename_i z;cases z
  ·rename_i u v ws' z;cases z;obtain⟨q,hq,rfl⟩:=w0d.mp h;obtain⟨h1,h2⟩:=x0z hq;refine⟨by simp[h1],fun i u' v' z=>?_⟩
   cases i with
   |zero=>simp at z;simp[z.1,z.2]
   |succ i=>simp only[w0q]at z |-;exact h2 i _ _ z
  ·cases h
theorem x00{J:It}{SQ:Hp->Prop}(W0:Walk J xs SQ)(rp:Reps K G1 ws xs)(hp:pairsW ws=some ps)(hSQ:∀G' H',Same G1 G'->Same G' H'->SQ H'):Walk2 K G1 J ps:=by
 obtain⟨hl,hg⟩:=x0z hp;have hx:=rp.length;refine⟨fun i G H a b h=>W0.go i H (hSQ G H a b) (by omega),fun i G H x H' a b hy u v h=>?_,fun i G H a b h=>W0.stop i H (hSQ G H a b) (by omega)⟩
 have hlt:i<ps.length:=(w0b.mp h).1;obtain⟨rfl,hx'⟩:=W0.yld i H x H' (hSQ G H a b) hy (by omega);refine⟨Grow.refl b,fun m n σ Q hQ=>?_⟩
 obtain⟨w,hw,pw⟩:=rp.getV hx';rw[hg i u v h]at hw;cases hw;have pw:=Rep.mono a _ pw;obtain⟨c,ys,rfl,hq,y1,q1,rfl,p1,y2,q2,rfl,p2,rfl⟩:=pw;exact⟨c,[y1,y2],rfl,b.tup hq,rfl,y1,[y2],rfl,y2,[],rfl,rfl,hQ y1 y2 p1 p2⟩
theorem q6n{tg l:Expr}(hl:DE Z X EE l d0):DI Z X EE tg l (srcP d0):=by
 refine PI.mono (q82 hl) ?_;rintro σ H RR ⟨G,e,rel,h⟩;simp only[srcP,R.holds_bind]at h;refine⟨G,e,rel,h.imp (fun w e1 h G1 v1 H1 r1 s1 p1=>?_) fun _ _ h=>h⟩
 split at h
 ·rename_i ws hw;obtain⟨ps,hp,h⟩:=ofOpt_holds.mp h;cases w with
  |tup us=>
   cases hw;obtain⟨a,xs,rfl,hq,rp⟩:=p1;exact⟨a,rfl,.inr ⟨⟨xs,r1.sub.tup hq⟩,h _ _ _ r1 s1 (x00 x2g rp hp fun G' H' s s'=>Same.tup s' (Same.tup s hq))⟩⟩
  |lst us=>
   cases hw;obtain⟨a,xs,rfl,hq,rp⟩:=p1;exact⟨a,rfl,.inl ⟨⟨xs,r1.sub.seq hq⟩,h _ _ _ r1 s1 (x00 x2f rp hp fun G' H' s s'=>Same.seq s' (Same.seq s hq))⟩⟩
  |_=>cases hw
 ·exact h.elim
theorem x7y{t':Nat}{fp:List Addr}{b:Addr}{o:HO}(I:Inv X pins σ H s)(k:∀b o,b∉fp->s.heap.get? b=some o->h'.get? b=some o)(hf:∀b∈fp,FpOk X pins H b)(hp:s.heap.objs.size<=b)(new:ObjOk X.prog X.w (upd H b o) h' b o):Inv X pins σ (upd H b o) {s with heap:=h',toks:=t'}:=by
 have hn:H b=none:=I.hok.fresh hp;have ne:∀c u,H c=some u->c≠b:=fun c u e=>q0i e hn
 have nfp:∀c u,H c=some u->c∉fp:=fun c u e z=>by rw[(hf c z).1]at e;cases e
 have lt:∀c o,s.heap.get? c=some o->c≠b:=fun c o e=>w0x (w0w (Heap.lt_size e) hp)
 refine I.step (g':=s.gens) (d':=s.drawn) (ch:=fp) (fun c hc=>?_) (fun c o _ _ hc e _=>k c o hc e) (fun c o _ _ hc e _=>⟨o.slots,k c o hc e⟩) (fun c o _ e n=>by rw[q0b (lt c o e)];exact n)
  (fun c o hc e=>⟨o,k c o hc e⟩) (fun c xs e=>by rw[q0b (ne c _ e)];exact e) (fun c o u e=>by rw[q0b (ne c _ e)];exact e) (fun c ps e=>⟨#[],by rw[q0b (ne c _ e),e];simp⟩) (fun m hm=>?_) (fun c u e=>?_) I.bare
 ·obtain⟨f0,f1,f2,f3,f4,f5⟩:=hf c hc;exact⟨f3,f1,f4,f5⟩
 ·obtain⟨o,es,ep,ho,r⟩:=hm;exact⟨o,es,ep,k _ o (fun z=>(hf _ z).2.1 rfl) ho,r⟩
 ·by_cases hb:c=b
  ·subst hb;rw[q0f]at e;cases e;exact new
  ·rw[q0b hb]at e;refine(I.hok c u e).stay (fun d v hd q=>k d v ?_ q) (fun d q=>by rw[q0b (ne d _ q)];exact q) fun d xs _ q=>by rw[q0b (ne d _ q)];exact q
   rcases hd with z|z
   ·rw[z];exact nfp c u e
   ·exact nfp d _ z
end
theorem x2r{p3:Pos}(hN:X.N.Nodup)(hc:X.calm=true)
  (hi:X.N[0]?=some x:=by rfl)(hx:Loc X.env.scope x:=by walk_at "3")(hf:X.fn x=true\/X.env.scope.names.lookup x=some .local:=by walk_at "2")
  (hj:X.N[1]?=some y:=by rfl)(hy:Loc X.env.scope y:=by walk_at "3")(hf':X.fn y=true\/X.env.scope.names.lookup y=some .local:=by walk_at "2")
  (hn:(assignEach [.Name x p1,.Name y p2] X.env).length=2:=by rfl)(hst:(assignEach [.Name x p1,.Name y p2] X.env).findIdx? (·.1)=none:=by rfl)
  (g1:(assignEach [.Name x p1,.Name y p2] X.env).map (·.2)=assign (.Name x p1) X.env::(assignEach [.Name y p2] X.env).map (·.2):=by rfl)(g2:(assignEach [.Name y p2] X.env).map (·.2)=assign (.Name y p2) X.env::(assignEach [] X.env).map (·.2):=by rfl):
  PG X (.Tuple [.Name x p1,.Name y p2] kt p3) (gTup X.K 2 (gCons (gName 0) (gCons (gName 1) gNil))):=
 x12 hc (q4l (q28 0 hN hi hx hf) (q4l (q28 1 hN hj hy hf') q9r g2) g1) hn hst
section
variable{di:Den (List (W×W))}{b:List S->SR}{c:Prop} [Decidable c]{s t:SR}{k:List S->SR}{v:Value}{st:S}
theorem y56:dForP i j di b e=(di e).stm fun ps e1=>forP i j b ps e1:=rfl
theorem y0x:(SR.nx e).turnT k=k e:=rfl
theorem y0y:(SR.ct e).turnT k=k e:=rfl
theorem y0z:(SR.bk e).turnT k=.nx e:=rfl
theorem y00:(SR.rt st e).turnT k=.rt st e:=rfl
theorem y01:(SR.ex v e).turnT k=.ex v e:=rfl
theorem y02:(SR.no).turnT k=.no:=rfl
theorem x7z:(if c then s else t).turnT k=if c then s.turnT k else t.turnT k:=by split<;>rfl
def srcPW(e:List S):Option (List W)->R (List (W×W))
 |some ws=>ofOpt (pairsW ws) e
 |none=>.no
theorem z0w:srcP d e=(d e).bind fun w e1=>srcPW e1 (seqW w):=by
 unfold srcP;congr 1
theorem x5x:srcPW e (some ws)=ofOpt (pairsW ws) e:=rfl
theorem y03:compPK js cc d ps e=if ps.length<=16777216 then compR (frzs js e) (compP cc d (pjS js (frzs js e)) ps)else .no:=by
 unfold compPK compR;split
 ·cases compP cc d (pjS js (frzs js e)) ps<;>rfl
 ·rfl
theorem y04:dCompP js di cc d e=(di e).bind fun ps e1=>compPK js cc d ps e1:=rfl
theorem x5y{p:W×W}:compP cc d pe (p::ps)=(match cc (.fr p.1::.fr p.2::pe)with
  |.ok true e1=>(match d e1 with|.ok y _=>(compP cc d pe ps).map (y::·)|_=>none)
  |.ok false _=>compP cc d pe ps
  |_=>none):=rfl
theorem q7g{cc:Den Bool}{d:Den W}{pe:List S}{q:W×W->Bool}{g:W×W->W}:∀(ps:List (W×W)),(∀p∈ps,∃e1,cc (.fr p.1::.fr p.2::pe)=.ok (q p) e1/\(q p=true->∃e2,d e1=.ok (g p) e2))->compP cc d pe ps=some ((ps.filter q).map g)
 |[],_=>rfl
 |p::ps,h=>by
  obtain⟨e1,h1,h2⟩:=h p (by simp);have ih:=q7g (cc:=cc) (d:=d) (pe:=pe) (q:=q) (g:=g) ps fun u hu=>h u (by simp[hu])
  rw[x5y,h1,ih];cases hq:q p with
  |true=>
   obtain⟨e2,h3⟩:=h2 hq;simp only[hq,h3,w3f,if_true];rfl
  |false=>simp[hq,w3f]
end
theorem x70(l:Addr)(items:Array Value)(n:Nat)(x:Int)(u:Tok)(dd:Option Addr)(sl:Array (Option Value))(hc0:¬(!Builtin.List.listFitsIndex x)=true)(hc1:¬items.size*x.toNat>(2^63-1) / 8)(hc2:¬Builtin.List.listTooLong (items.size*x.toNat)=true):
  Meets (Builtin.«list.__mul__» ⟨[.ref l,.int x u],[]⟩) (fun _ R s=>s.heap.get? l=some {cls:=.type "list", dict:=dd,data:=.seq items n,slots:=sl}/\R (.ok (.ret (Value.ref s.heap.objs.size))) {s with heap:=s.heap.push {cls:=Value.type "list", data:=Data.seq (List.foldl (fun x1 x2=>x1++x2) #[] (List.replicate (if items.isEmpty=true then 0 else x.toNat) items))},toks:=s.toks}):=
 .of_wp fun prog w A R s h=>by
  obtain⟨hp,g,d,tk,os⟩:=s;obtain⟨hl,h⟩:=h;have hsz:=PySem.AutoListH.joined_fits hc2
  wp_walk;refine wpAny_ite_false (decide_eq_false (w4b.mpr hsz)) ?_;wp_walk;exact⟨_,rfl,h⟩
theorem x71(a:Int)(t:Tok)(l:Addr)(items:Array Value)(n:Nat)(dd:Option Addr)(sl:Array (Option Value)):
  Meets (Builtin.«int.__rmul__» ⟨[.int a t,.ref l],[]⟩) (fun _ R s=>s.heap.get? l=some {cls:=.type "list", dict:=dd,data:=.seq items n,slots:=sl}/\R (.ok (.ret Value.notImplemented)) s):=
 .of_wp fun prog w A R s h=>by obtain⟨hp,g,d,tk,os⟩:=s;obtain⟨hl,h⟩:=h;wp_walk;exact⟨_,rfl,h⟩
def rRepS(K:Fg):R2:=fun x y H Q=>∃l k xs,x=.ref l/\y=.int k/\SqL K H l xs/\-(2^63)<=k/\k<2^63/\xs.length*k.toNat<=sizeLine /\
 ∀p,H p=none->Q (.ref p) (upd H p (.lst (List.replicate k.toNat xs).flatten))
theorem x4m:OpR X (binaryOp .Mult) (rRepS X.K):=by
 intro pins s σ H x y v u Q I rx ry h;obtain⟨l,k,xs,rfl,rfl,hH,h1,h2,hz,q⟩:=h;cases rx;obtain⟨t,rfl⟩:=ry;obtain⟨its,r,p1,_⟩:=I.list hH;obtain⟨⟨cls,dd,data,sl⟩,ho,hc,n,hd⟩:=id p1.isList;simp only at hc hd;subst hc hd;have hl:=r.length;have hlen:its.toArray.size*k.toNat<=sizeLine:=by rw[w0e,<- hl];exact hz
 have hcap:¬its.toArray.size*k.toNat>(2^63-1) / 8:=by
  have:(sizeLine:Nat)<=(2^63-1) / 8:=by decide
  omega
 have hfit:¬(!Builtin.List.listFitsIndex k)=true:=by
  rw[fitsIndex_both h1 h2];exact w0r
 have hlong:¬Builtin.List.listTooLong (its.toArray.size*k.toNat)=true:=by
  rw[notLongL hlen];exact w0r
 have hnew:List.foldl (fun x1 x2=>x1++x2) #[] (List.replicate (if its.toArray.isEmpty=true then 0 else k.toNat) its.toArray)=(List.replicate k.toNat its).flatten.toArray:=by
  have f0:∀m:Nat,List.foldl (fun x1 x2=>x1++x2) #[] (List.replicate m its.toArray)=(List.replicate m its).flatten.toArray:=fun m=>by
   have:=x0w its m [];rw[w3k]at this;exact this
  rw[f0];cases its with
  |nil=>simp
  |cons a r'=>rw[if_neg (by simp)]
 refine wpAny_binaryOp_repeat_ref (T:="list") (U:="int") (by decide) ⟨_,ho,rfl⟩ (fun s'=>typeIs_int s' k t) noFill_list_mul F.fills_int_mul F.slot_int_rmul repeat_list F.slot_int_index.lookup
  (PySem.call_meets F.slot_int_rmul (typeIs_int s k t) F.entry_int_rmul (F.args_int_rmul_2 _ _) (x71 k t l its.toArray n dd sl)
   ⟨ho,rfl,⟨_,ho,rfl⟩,PySem.call_meets F.slot_list_mul ⟨_,ho,rfl⟩ F.entry_list_mul (F.args_list_mul_2 _ _) (x70 l its.toArray n k t dd sl hfit hcap hlong) ⟨ho,?_⟩⟩)
 rw[hnew];exact⟨.ref _,_,I.lnew (t':=s.toks) (r.rep k.toNat) (by rw[y4k,Nat.mul_comm];exact hz),rfl,q _ I.fresh⟩
def repW:W->W->Option W
 |.lst ws,.int k=>if okI k=true/\ws.length*k.toNat<=16777216 then some (.lst (List.replicate k.toNat ws).flatten)else none
 |_,_=>none
theorem q8h(r:Reps K G ws xs):∀k:Nat,Reps K G (List.replicate k ws).flatten (List.replicate k xs).flatten
 |0=>rfl
 |k+1=>by
  rw[w1h,w1h,w1u,w1u];exact r.append (q8h r k)
theorem z0x:Op2 K (rRepS K) repW:=by
 intro G H x y wx wy w Q s px py hf h;unfold repW at hf;split at hf
 ·rename_i ws k;split at hf
  ·rename_i hc;cases hf;cases(show y=V.int k from py);obtain⟨l,xs,rfl,hq,rp⟩:=px;have hb:=q6a hc.1;refine⟨l,k,xs,rfl,rfl,s.seq hq,by omega,by omega,by rw[sizeLine_eq,rp.length];exact hc.2,fun p hp=>?_⟩
   have g:Grow G H (upd G p (.lst (List.replicate k.toNat xs).flatten)) (upd H p (.lst (List.replicate k.toNat xs).flatten)):=Grow.laid s hp _;exact h _ _ _ g ⟨p,_,rfl,SqL.of q0f,Reps.mono g.gg _ (q8h rp _)⟩
  ·cases hf
 ·cases hf
section
variable{a b:Expr}
theorem x2s(ha:DE Z X EE a da)(hb:DE Z X EE b db):DE Z X EE (.BinOp a .Mult b pos) (dOp repW da db):=q7r x4m z0x ha hb
end
theorem x72{k:Int}:repW (.lst ws) (.int k)=if okI k=true/\ws.length*k.toNat<=16777216 then some (.lst (List.replicate k.toNat ws).flatten)else none:=rfl
def idxI(x:Int):List Int->Option Nat
 |[]=>none
 |y::ys=>if y=x then some 0 else(idxI x ys).map (·+1)
theorem x2t{x:Int}:∀{ys:List Int}{j:Nat},idxI x ys=some j->ys[j]?=some x/\∀(m:Nat)(y:Int),m<j->ys[m]?=some y->y≠x
 |[],j,h=>by cases h
 |y::ys,j,h=>by
  unfold idxI at h;split at h
  ·rename_i hy;cases h;exact⟨by rw[hy];rfl,fun m y hm _=>by omega⟩
  ·rename_i hy;obtain⟨k,h1,rfl⟩:=w0d.mp h;obtain⟨h2,h3⟩:=x2t h1;refine⟨by simpa using h2,fun m z hm hz=>?_⟩
   cases m with
   |zero=>simp at hz;rw[<- hz];exact hy
   |succ m=>exact h3 m z (by omega) (by simpa using hz)
def intsW:List W->Option (List Int)
 |[]=>some []
 |.int x::r=>(intsW r).map (x::·)
 |_=>none
theorem q8i:∀{ws:List W}{ys:List Int}{xs:List V},intsW ws=some ys->Reps K G ws xs->xs=ys.map V.int
 |[],ys,xs,h,r=>by cases h;cases(show xs=[]from r);rfl
 |w::ws,ys,xs,h,r=>by
  unfold intsW at h;split at h
  ·rename_i z;cases z
  ·rename_i y r' z;cases z;obtain⟨ys',h1,rfl⟩:=w0d.mp h;obtain⟨v,vs,rfl,p1,p2⟩:=r;cases(show v=V.int y from p1);rw[q8i h1 p2];rfl
  ·cases h
def indexI:W->List W->Option W
 |.lst ws,[.int x]=>match intsW ws with
  |some ys=>match idxI x ys with
   |some j=>some (.int j)
   |none=>none
  |none=>none
 |_,_=>none
def rIndexI(K:Fg):V->List V->Hp->VK->Prop:=fun v vs H Q=>∃b ys x j,v=.ref b/\vs=[.int x]/\SqL K H b (ys.map V.int)/\idxI x ys=some j/\Q (.int (j:Nat)) H
theorem x4n:∀{ys:List Int}{its:List Value},Vals (ys.map V.int) its->∀(m:Nat)(u:Value),its[m]?=some u->∃y t,ys[m]?=some y/\u=.int y t
 |[],its,h,m,u,hu=>by cases h;simp at hu
 |y::ys,its,h,m,u,hu=>by
  cases h with
  |cons r t=>
   obtain⟨k,rfl⟩:=r;cases m with
   |zero=>simp at hu;exact⟨y,k,rfl,hu.symm⟩
   |succ m=>simpa using x4n t m u (by simpa using hu)
theorem x73:MtR X "list.index" (rIndexI X.K):=by
 intro pins s σ H x vs v us Q I rx rv h;obtain⟨b,ys,x0,j,rfl,rfl,hB,hj,q⟩:=h;cases rx;obtain⟨u,rfl,ru⟩:=rv.one;obtain⟨t,rfl⟩:=ru;obtain⟨its,r,pl,hz⟩:=I.list hB;obtain⟨⟨cls,dd,data,sl⟩,ho,hc,n,hd⟩:=pl.isList;simp only at hc hd;subst hc hd;obtain⟨h1,h2⟩:=x2t hj;have hlen:=r.length;rw[w0a]at hlen hz;have hjl:j<ys.length:=(w0b.mp h1).1;have hl63:=line63
 let e:Value->Bool:=fun u=>match u with|.int y _=>y==x0|_=>false
 have at':∀(m:Nat)(hm:m<its.toArray.size),∃y k,ys[m]?=some y/\its.toArray[m]=.int y k:=fun m hm=>by
  have hm':m<its.length:=by simpa using hm
  obtain⟨y,k,z1,z2⟩:=x4n r m its[m] (w0c hm');exact⟨y,k,z1,by simpa using z2⟩
 refine call_meets F.slot_list_index ⟨_,ho,rfl⟩ F.entry_list_index (F.args_list_index_2 _ _) (SeqAt.list_indexAt b its.toArray n dd sl (.int x0 t) e j (by simp only[w0e];omega) (by omega) ?_ ?_) ⟨ho,?_,?_⟩
 ·obtain⟨y,k,z1,z2⟩:=at' j (by simp only[w0e];omega);rw[h1]at z1;cases z1;rw[z2];simp[e]
 ·intro m hm hlt;obtain⟨y,k,z1,z2⟩:=at' m hm;rw[z2]
  simpa [e]using h2 m y hlt z1
 ·intro y hy;obtain⟨m,hm,rfl⟩:=Array.mem_iff_getElem.mp hy;obtain⟨y,k,z1,z2⟩:=at' m hm;rw[z2];exact SeqAt.EqAt.int_int y k x0 t
 ·exact⟨.int j,H,I.tok _,⟨_,rfl⟩,q⟩
theorem x74:OpM K (rIndexI K) indexI:=by
 intro G H x xs wx ws w Q s px pr hf h;unfold indexI at hf;split at hf
 ·rename_i us x0;obtain⟨y,r,rfl,py,pr⟩:=pr;cases(show r=[]from pr);cases py;split at hf
  ·rename_i ys hy;split at hf
   ·rename_i j hj;cases hf;obtain⟨a,cs,rfl,hq,rp⟩:=px;have:=q8i hy rp;subst this;exact⟨a,ys,x0,j,rfl,rfl,s.seq hq,hj,h G _ H (.refl s) rfl⟩
   ·cases hf
  ·cases hf
 ·cases hf
section
variable{o e:Expr}
theorem x01(ho:DE Z X EE o d)(ha:DA Z X EE [e] dA)
  (hbase:attributeBase o "index" X.env (eval o X.env)=eval o X.env:=by rfl)
  (hfew:((backTo cpos (starEach [e] X.env)).all (fun x=>!x.1)&&(backToKw cpos (keywordEach [] X.env)).all (fun x=>x.1.isSome)&&decide ([e].length+([]:List Keyword).length+(if([]:List Keyword).isEmpty then 0 else 1)<30))=true:=by rfl)
  (hline:(apos.endLine==cpos.line)=true:=by rfl)(hs:starEach [e] X.env=(false,eval e X.env)::starEach [] X.env:=by rfl)(hplain:(backTo cpos (starEach [] X.env)).any (·.1)=false:=by rfl):
  DE Z X EE (.Call (.Attribute o "index" apos) [e] [] cpos) (dMeth "list" indexI d dA):=
 y54 PySem.F.plainAttrs_list PySem.F.slot_list_index PySem.F.type_list_index x73 x74 ho ha hbase hfew hline hs hplain
end
section
variable{prog:Program}{w:World}{E:Value->Shared->Prop}
theorem x2u{j b:Addr}{k:Nat}{x:Value}{Q:Value->Shared->Prop}(gi:s.heap.IsTupleIter j b k)(gt:s.heap.IsTuple b vs)(gx:vs[k]?=some x)
  (hQ:∀h',h'.IsTupleIter j b (k+1)->Heap.SameBut j s.heap h'->Q x {s with heap:=h'}):wpAny (model prog w) A (Builtin.SmallTypes.nextOf (.ref j)) Q E s:=by
 obtain⟨o,ho,hc,hd⟩:=id gi;obtain⟨ot,hot,_,m,hdt⟩:=gt;unfold Builtin.SmallTypes.nextOf;refine wpAny_bind (wpAny_callSpecial?_slot (name:=Str.ofString "__next__") gi.typeIs F.slot_tuple_iterator_next (wpAny_call_entry F.slot_tuple_iterator_next gi.typeIs F.entry_tuple_iterator_next ?_ (F.args_tuple_iterator_next_1 _)));show wpAny _ _ (field (.ref j) 0 >>= _) _ _ s;refine wpAny_bind (wpAny_field ho hd (x:=.ref b) rfl ?_);show wpAny _ _ (if(Value.ref b==Value.none)=true then _ else _) _ _ s;rw[if_neg (show ¬((Value.ref b==Value.none)=true)from w0r)];show wpAny _ _ (field (.ref j) 1 >>= _) _ _ s;refine wpAny_bind (wpAny_field ho hd (x:=.int k 0) rfl ?_);show wpAny _ _ (seqItems? (.ref b) >>= _) _ _ s;refine wpAny_bind (wpAny_seqItems hot hdt ?_);simp only[w1v,gx];refine wpAny_bind (wpAny_setField ho hd (by simp) (wpAny_pure ⟨x,rfl,wpAny_pure (hQ _ ⟨_,Heap.get?_update_self _ ho (Obj.isFreed_of_fields (Obj.data_mapFields hd _)),(Obj.cls_mapFields ..).trans hc,by rw[Obj.data_mapFields hd];simp[rawInt]⟩ (Heap.SameBut.update ..))⟩))
theorem x30{j b:Addr}{k:Nat}{Q:Value->Shared->Prop}(hh:A.handled=none)(gi:s.heap.IsTupleIter j b k)(gt:s.heap.IsTuple b vs)(gx:vs[k]?=none)
  (hE:∀h' e,Heap.ExtBut j s.heap h'->(∃o,h'.get? e=some o/\o.cls=.type "StopIteration")->E (.ref e) {s with heap:=h'}):wpAny (model prog w) A (Builtin.SmallTypes.nextOf (.ref j)) Q E s:=by
 obtain⟨o,ho,hc,hd⟩:=id gi;obtain⟨ot,hot,_,m,hdt⟩:=gt;unfold Builtin.SmallTypes.nextOf;refine wpAny_bind (wpAny_callSpecial?_slot (name:=Str.ofString "__next__") gi.typeIs F.slot_tuple_iterator_next (wpAny_call_entry F.slot_tuple_iterator_next gi.typeIs F.entry_tuple_iterator_next ?_ (F.args_tuple_iterator_next_1 _)));show wpAny _ _ (field (.ref j) 0 >>= _) _ _ s;refine wpAny_bind (wpAny_field ho hd (x:=.ref b) rfl ?_);show wpAny _ _ (if(Value.ref b==Value.none)=true then _ else _) _ _ s;rw[if_neg (show ¬((Value.ref b==Value.none)=true)from w0r)];show wpAny _ _ (field (.ref j) 1 >>= _) _ _ s;refine wpAny_bind (wpAny_field ho hd (x:=.int k 0) rfl ?_);show wpAny _ _ (seqItems? (.ref b) >>= _) _ _ s;refine wpAny_bind (wpAny_seqItems hot hdt ?_);simp only[w1v,gx];refine wpAny_bind (wpAny_rule (wpAny_bind (wpAny_setField ho hd (by simp) ?_)));show wpAny _ _ (newExc (.type "StopIteration") [] >>= _) _ _ _;refine wpAny_bind ?_;simp only[newExc,newTuple];refine wpAny_bind (wpAny_newObj_type ?_ (by size_fits));refine wpAny_bind (m:=firstArgMember _ _) (wpAny_of_eq (a:=Value.none) (by first|rfl|(simp only[firstArgMember];rfl)) (wpAny_newObj_type ?_ (by size_fits)));simp only[raiseNew];refine wpAny_bind (wpAny_handled ?_)
 first|rw[show A.in1.handled=none from hh]|rw[hh]
 refine wpAny_bind (wpAny_pure (wpAny_throw (hE _ _ (((Heap.SameBut.update ..).extBut.push _).push _) ⟨_,Heap.get?_push_size _ rfl,rfl⟩)))
def IsIt(t:Bool)(j b:Addr)(k:Nat)(h:Heap):Prop:=if t=true then h.IsTupleIter j b k else h.IsListIter j b k
def IsSq(t:Bool)(b:Addr)(vs:Array Value)(h:Heap):Prop:=if t=true then h.IsTuple b vs else h.IsList b vs
theorem IsIt.keep{t:Bool}{j b:Addr}{k:Nat}(x:IsIt t j b k h)(e:∀o,h.get? j=some o->h'.get? j=some o):IsIt t j b k h':=by
 cases t with
 |true=>obtain⟨o,ho,r⟩:=(show h.IsTupleIter j b k from x);exact⟨o,e o ho,r⟩
 |false=>obtain⟨o,ho,r⟩:=(show h.IsListIter j b k from x);exact⟨o,e o ho,r⟩
theorem IsIt.obj{t:Bool}{j b:Addr}{k:Nat}(x:IsIt t j b k h):∃o,h.get? j=some o/\∀v,o.data≠.cell v:=by
 cases t with
 |true=>obtain⟨o,ho,c,d⟩:=(show h.IsTupleIter j b k from x);exact⟨o,ho,fun v z=>by rw[d]at z;cases z⟩
 |false=>obtain⟨o,ho,c,d⟩:=(show h.IsListIter j b k from x);exact⟨o,ho,fun v z=>by rw[d]at z;cases z⟩
theorem IsSq.keep{t:Bool}{b:Addr}(x:IsSq t b vs h)(e:∀o,h.get? b=some o->h'.get? b=some o):IsSq t b vs h':=by
 cases t with
 |true=>obtain⟨o,ho,r⟩:=(show h.IsTuple b vs from x);exact⟨o,e o ho,r⟩
 |false=>obtain⟨o,ho,r⟩:=(show h.IsList b vs from x);exact⟨o,e o ho,r⟩
theorem q91{t:Bool}{j b:Addr}{k:Nat}{x:Value}{Q:Value->Shared->Prop}(gi:IsIt t j b k s.heap)(gt:IsSq t b vs s.heap)(gx:vs[k]?=some x)
  (hQ:∀h',IsIt t j b (k+1) h'->Heap.SameBut j s.heap h'->Q x {s with heap:=h'}):wpAny (model prog w) A (Builtin.SmallTypes.nextOf (.ref j)) Q E s:=by
 cases t with
 |true=>exact x2u gi gt gx hQ
 |false=>exact wpAny_nextOf_list_item gi gt gx hQ
theorem x75{t:Bool}{j b:Addr}{k:Nat}{Q:Value->Shared->Prop}(hh:A.handled=none)(gi:IsIt t j b k s.heap)(gt:IsSq t b vs s.heap)(gx:vs[k]?=none)
  (hE:∀h' e,Heap.ExtBut j s.heap h'->(∃o,h'.get? e=some o/\o.cls=.type "StopIteration")->E (.ref e) {s with heap:=h'}):wpAny (model prog w) A (Builtin.SmallTypes.nextOf (.ref j)) Q E s:=by
 cases t with
 |true=>exact x30 hh gi gt gx hE
 |false=>exact wpAny_nextOf_list_end hh gi gt gx hE
structure Apart(z I O i j a b:Addr):Prop where
 Iz:I≠z
 Oz:O≠z
 iz:i≠z
 jz:j≠z
 IO:I≠O
 Ii:I≠i
 Ij:I≠j
 Oi:O≠i
 Oj:O≠j
 ij:i≠j
 az:a≠z
 aO:a≠O
 ai:a≠i
 aj:a≠j
 bz:b≠z
 bO:b≠O
 bi:b≠i
 bj:b≠j
theorem y57{z I O i j b:Addr}{t u:Bool}{k:Nat}{xs:Array Value}{x y p q:Value}{Q:Value->Shared->Prop}(D:Apart z I O i j a b)
  (gz:IsZip s.heap z I O .none)(gI:IsPair s.heap I (.ref i) (.ref j))(gO:IsPair s.heap O p q)
  (g1:IsIt t i a k s.heap)(g2:IsIt u j b k s.heap)(l1:IsSq t a xs s.heap)(l2:IsSq u b ys s.heap)(hx:xs[k]?=some x)(hy:ys[k]?=some y)
  (hQ:∀h',IsZip h' z I O (rawInt s.heap.objs.size)->IsPair h' O x y->IsIt t i a (k+1) h'->IsIt u j b (k+1) h'->IsPair h' s.heap.objs.size x y->h'.objs.size=s.heap.objs.size+1 ->
   (∀c o,c≠z->c≠O->c≠i->c≠j->s.heap.get? c=some o->h'.get? c=some o)->Q (.ref s.heap.objs.size) {s with heap:=h'}):
  wpAny (model prog w) A (Builtin.«zip.__next__» ⟨[.ref z],[]⟩) (fun fin s'=>∃v,fin=.done (.ret v)/\Q v s') E s:=by
 show wpAny _ _ (field (.ref z) 2 >>= _) _ _ _;refine wpAny_bind (wpAny_field gz rfl (x:=.bool false) rfl ?_);show wpAny _ _ (field (.ref z) 3 >>= _) _ _ _;refine wpAny_bind (wpAny_field gz rfl (x:=.ref I) rfl (wpAny_bind (wpAny_seqItems gI rfl ?_)));show wpAny _ _ (Builtin.SmallTypes.ownedTupleIsFree (.ref z) >>= _) _ _ _;refine wpAny_bind ?_;unfold Builtin.SmallTypes.ownedTupleIsFree;refine wpAny_bind (wpAny_field gz rfl (x:=.none) rfl (wpAny_pure ?_));simp only[if_true];refine wpAny_bind (wpAny_rule (wpAny_bind (wpAny_field gz rfl (x:=.ref O) rfl (wpAny_bind (wpAny_setField_rec gz (by simp) fun ha za sa=>?_)))))
 replace za:IsZip ha z I O .ellipsis:=za
 refine wpAny_bind ?_;simp only[List.zipIdx_cons,List.zipIdx_nil,w2r,List.forIn_nil];refine wpAny_bind (wpAny_bind (wpAny_onRaise ?_));show wpAny _ _ (Builtin.SmallTypes.nextOf (.ref i) >>= _) _ _ _;refine wpAny_bind (q91 (s:={s with heap:=ha}) (g1.keep fun o e=>sa.extBut _ _ D.iz e) (l1.keep fun o e=>sa.extBut _ _ D.az e) hx fun hb ib sb=>wpAny_pure ?_)
 have Ob:IsPair hb O p q:=sb.extBut _ _ D.Oi (sa.extBut _ _ D.Oz gO);refine wpAny_bind (wpAny_seqItems Ob rfl (wpAny_bind (wpAny_updateSeq_pair Ob fun hc Oc sc=>?_)))
 replace Oc:IsPair hc O x q:=Oc
 refine wpAny_bind (wpAny_letGo (wpAny_pure (wpAny_bind (wpAny_bind (wpAny_onRaise ?_)))));show wpAny _ _ (Builtin.SmallTypes.nextOf (.ref j) >>= _) _ _ _;refine wpAny_bind (q91 (s:={s with heap:=hc}) (g2.keep fun o e=>sc.extBut _ _ D.Oj.symm (sb.extBut _ _ D.ij.symm (sa.extBut _ _ D.jz e))) (l2.keep fun o e=>sc.extBut _ _ D.bO (sb.extBut _ _ D.bi (sa.extBut _ _ D.bz e))) hy fun hd jd sd=>wpAny_pure ?_)
 have Od:IsPair hd O x q:=sd.extBut _ _ D.Oj Oc;refine wpAny_bind (wpAny_seqItems Od rfl (wpAny_bind (wpAny_updateSeq_pair Od fun he Oe se=>?_)))
 replace Oe:IsPair he O x y:=Oe
 refine wpAny_bind (wpAny_letGo (wpAny_pure (wpAny_pure (wpAny_bind (wpAny_seqItems Oe rfl (wpAny_bind (wpAny_newTuple ?_)))))));have sz:he.objs.size=s.heap.objs.size:=by rw[se.1,sd.1,sc.1,sb.1,sa.1]
 have ze:IsZip he z I O .ellipsis:=se.extBut _ _ D.Oz.symm (sd.extBut _ _ D.jz.symm (sc.extBut _ _ D.Oz.symm (sb.extBut _ _ D.iz.symm za)));have ke:∀c o,c≠z->c≠O->c≠i->c≠j->s.heap.get? c=some o->he.get? c=some o:=fun c o c1 c2 c3 c4 e=>se.extBut _ _ c2 (sd.extBut _ _ c4 (sc.extBut _ _ c2 (sb.extBut _ _ c3 (sa.extBut _ _ c1 e))))
 have ie:IsIt t i a (k+1) he:=ib.keep fun o e=>se.extBut _ _ D.Oi.symm (sd.extBut _ _ D.ij (sc.extBut _ _ D.Oi.symm e))
 have je:IsIt u j b (k+1) he:=jd.keep fun o e=>se.extBut _ _ D.Oj.symm e
 have zlt:z<he.objs.size:=Heap.lt_size ze;show wpAny _ _ (Builtin.SmallTypes.ownedTupleHandOut (.ref z) (.ref he.objs.size) >>= _) _ _ _;refine wpAny_bind ?_;unfold Builtin.SmallTypes.ownedTupleHandOut;have zf:IsZip (he.push {cls:=.type "tuple", data:=.seq #[x,y]}) z I O .ellipsis:=Heap.get?_push_of_some _ ze;refine wpAny_bind (wpAny_setField_rec zf (by simp) fun hg zg sg=>?_)
 replace zg:IsZip hg z I O (rawInt he.objs.size):=zg
 refine wpAny_setField_rec zg (by simp) fun hk zk sk=>?_
 replace zk:IsZip hk z I O (rawInt he.objs.size):=zk
 have up:∀c o,c≠z->he.get? c=some o->hk.get? c=some o:=fun c o c1 e=>sk.extBut _ _ c1 (sg.extBut _ _ c1 (Heap.get?_push_of_some _ e))
 have Tk:IsPair hk he.objs.size x y:=sk.extBut _ _ (w3x zlt) (sg.extBut _ _ (w3x zlt) (Heap.get?_push_size _ rfl));have nk:hk.objs.size=he.objs.size+1:=by rw[sk.1,sg.1,Heap.size_push]
 rw[sz]at zk Tk nk;refine wpAny_pure ⟨_,rfl,?_⟩;show Q (.ref he.objs.size) _;rw[sz];exact hQ hk zk (up _ _ D.Oz Oe) (ie.keep fun o e=>up _ o D.iz e) (je.keep fun o e=>up _ o D.jz e) Tk nk fun c o c1 c2 c3 c4 e=>up c o c1 (ke c o c1 c2 c3 c4 e)
theorem z0y{z I O i j b:Addr}{t u:Bool}{k:Nat}{xs:Array Value}{p q:Value}{Q:Fin->Shared->Prop}(hh:A.handled=none)(D:Apart z I O i j a b)
  (gz:IsZip s.heap z I O .none)(gI:IsPair s.heap I (.ref i) (.ref j))(gO:IsPair s.heap O p q)
  (g1:IsIt t i a k s.heap)(g2:IsIt u j b k s.heap)(l1:IsSq t a xs s.heap)(l2:IsSq u b ys s.heap)(hend:xs[k]?=none\/ys[k]?=none)
  (hE:∀h' e,(∀c o,c≠z->c≠O->c≠i->c≠j->s.heap.get? c=some o->h'.get? c=some o)->(∃o,h'.get? e=some o/\o.cls=.type "StopIteration")->E (.ref e) {s with heap:=h'}):
  wpAny (model prog w) A (Builtin.«zip.__next__» ⟨[.ref z],[]⟩) Q E s:=by
 show wpAny _ _ (field (.ref z) 2 >>= _) _ _ _;refine wpAny_bind (wpAny_field gz rfl (x:=.bool false) rfl ?_);show wpAny _ _ (field (.ref z) 3 >>= _) _ _ _;refine wpAny_bind (wpAny_field gz rfl (x:=.ref I) rfl (wpAny_bind (wpAny_seqItems gI rfl ?_)));show wpAny _ _ (Builtin.SmallTypes.ownedTupleIsFree (.ref z) >>= _) _ _ _;refine wpAny_bind ?_;unfold Builtin.SmallTypes.ownedTupleIsFree;refine wpAny_bind (wpAny_field gz rfl (x:=.none) rfl (wpAny_pure ?_));simp only[if_true];refine wpAny_bind (wpAny_rule (wpAny_bind (wpAny_field gz rfl (x:=.ref O) rfl (wpAny_bind (wpAny_setField_rec gz (by simp) fun ha za sa=>?_)))))
 replace za:IsZip ha z I O .ellipsis:=za
 refine wpAny_bind ?_;simp only[List.zipIdx_cons,List.zipIdx_nil,w2r,List.forIn_nil];refine wpAny_bind (wpAny_bind (wpAny_onRaise ?_));show wpAny _ _ (Builtin.SmallTypes.nextOf (.ref i) >>= _) _ _ _;cases hx:xs[k]? with
 |none=>
  refine wpAny_bind (x75 (s:={s with heap:=ha}) hh (g1.keep fun o e=>sa.extBut _ _ D.iz e) (l1.keep fun o e=>sa.extBut _ _ D.az e) hx fun hb e sb ge=>?_)
  obtain⟨oe,hoe,hce⟩:=ge;have zb:IsZip hb z I O .ellipsis:=sb _ _ D.iz.symm za;have nz:e≠z:=fun x=>by subst x;rw[zb]at hoe;cases hoe;simp at hce
  refine wpAny_setField_rec zb (by simp) fun hc _ sc=>hE hc e (fun c o c1 _ c3 _ x=>sc.extBut _ _ c1 (sb _ _ c3 (sa.extBut _ _ c1 x))) ⟨oe,sc.extBut _ _ nz hoe,hce⟩
 |some x=>
  have hy:ys[k]?=none:=by rcases hend with h|h;rw[hx]at h;cases h;exact h
  refine wpAny_bind (q91 (s:={s with heap:=ha}) (g1.keep fun o e=>sa.extBut _ _ D.iz e) (l1.keep fun o e=>sa.extBut _ _ D.az e) hx fun hb ib sb=>wpAny_pure ?_)
  have Ob:IsPair hb O p q:=sb.extBut _ _ D.Oi (sa.extBut _ _ D.Oz gO);refine wpAny_bind (wpAny_seqItems Ob rfl (wpAny_bind (wpAny_updateSeq_pair Ob fun hc Oc sc=>?_)))
  refine wpAny_bind (wpAny_letGo (wpAny_pure (wpAny_bind (wpAny_bind (wpAny_onRaise ?_)))));show wpAny _ _ (Builtin.SmallTypes.nextOf (.ref j) >>= _) _ _ _;refine wpAny_bind (x75 (s:={s with heap:=hc}) hh (g2.keep fun o e=>sc.extBut _ _ D.Oj.symm (sb.extBut _ _ D.ij.symm (sa.extBut _ _ D.jz e))) (l2.keep fun o e=>sc.extBut _ _ D.bO (sb.extBut _ _ D.bi (sa.extBut _ _ D.bz e))) hy fun hd e sd ge=>?_)
  obtain⟨oe,hoe,hce⟩:=ge;have zd:IsZip hd z I O .ellipsis:=sd _ _ D.jz.symm (sc.extBut _ _ D.Oz.symm (sb.extBut _ _ D.iz.symm za));have nz:e≠z:=fun x=>by subst x;rw[zd]at hoe;cases hoe;simp at hce
  refine wpAny_setField_rec zd (by simp) fun he _ se=>hE he e (fun c o c1 c2 c3 c4 x=>se.extBut _ _ c1 (sd _ _ c4 (sc.extBut _ _ c2 (sb.extBut _ _ c3 (sa.extBut _ _ c1 x))))) ⟨oe,se.extBut _ _ nz hoe,hce⟩
theorem y58{z I O i j b:Addr}{t u:Bool}{k:Nat}{xs:Array Value}{x y p q:Value}{Q:Option Value->Shared->Prop}(D:Apart z I O i j a b)
  (gz:IsZip s.heap z I O .none)(gI:IsPair s.heap I (.ref i) (.ref j))(gO:IsPair s.heap O p q)
  (g1:IsIt t i a k s.heap)(g2:IsIt u j b k s.heap)(l1:IsSq t a xs s.heap)(l2:IsSq u b ys s.heap)(hx:xs[k]?=some x)(hy:ys[k]?=some y)
  (hQ:∀h',IsZip h' z I O (rawInt s.heap.objs.size)->IsPair h' O x y->IsIt t i a (k+1) h'->IsIt u j b (k+1) h'->IsPair h' s.heap.objs.size x y->h'.objs.size=s.heap.objs.size+1 ->
   (∀c o,c≠z->c≠O->c≠i->c≠j->s.heap.get? c=some o->h'.get? c=some o)->Q (some (.ref s.heap.objs.size)) {s with heap:=h'}):wpAny (model prog w) A (pyNext (.ref z)) Q E s:=by
 have hT:s.TypeIs (.ref z) "zip":=⟨_,gz,rfl⟩;unfold pyNext;exact wpAny_bind (wpAny_attempt (wpAny_callSpecial?_slot (name:=Str.ofString "__next__") hT F.slot_zip_next (wpAny_call_entry F.slot_zip_next hT F.entry_zip_next (y57 D gz gI gO g1 g2 l1 l2 hx hy fun h' a1 a2 a3 a4 a5 a6 a7=>wpAny_pure (hQ h' a1 a2 a3 a4 a5 a6 a7)) (F.args_zip_next_1 _))))
theorem y59{z I O i j b:Addr}{t u:Bool}{k:Nat}{xs:Array Value}{p q:Value}{Q:Option Value->Shared->Prop}(hh:A.handled=none)(D:Apart z I O i j a b)
  (gz:IsZip s.heap z I O .none)(gI:IsPair s.heap I (.ref i) (.ref j))(gO:IsPair s.heap O p q)
  (g1:IsIt t i a k s.heap)(g2:IsIt u j b k s.heap)(l1:IsSq t a xs s.heap)(l2:IsSq u b ys s.heap)(hend:xs[k]?=none\/ys[k]?=none)
  (hQ:∀h',(∀c o,c≠z->c≠O->c≠i->c≠j->s.heap.get? c=some o->h'.get? c=some o)->Q none {s with heap:=h'}):wpAny (model prog w) A (pyNext (.ref z)) Q E s:=by
 have hT:s.TypeIs (.ref z) "zip":=⟨_,gz,rfl⟩;unfold pyNext;refine wpAny_bind (wpAny_attempt (wpAny_callSpecial?_slot (name:=Str.ofString "__next__") hT F.slot_zip_next (wpAny_call_entry F.slot_zip_next hT F.entry_zip_next (z0y hh D gz gI gO g1 g2 l1 l2 hend fun h' e hk he=>?_) (F.args_zip_next_1 _))))
 obtain⟨o,ho,hc⟩:=he;exact wpAny_bind (wpAny_isInstance (T:="StopIteration") (b:=true) ⟨o,ho,hc⟩ isSubtype_stop (wpAny_pure (hQ _ hk)))
end
def itT(t:Bool):String:=if t=true then "tuple_iterator" else "list_iterator"
noncomputable abbrev zq1(t:Bool)(h:Heap)(a:Addr):Heap:=h.push {cls:=.type (itT t),data:=.fields #[.ref a,.int 0 0]}
noncomputable abbrev zq2(t u:Bool)(h:Heap)(a b:Addr):Heap:=(zq1 t h a).push {cls:=.type (itT u),data:=.fields #[.ref b,.int 0 0]}
noncomputable abbrev zq3(t u:Bool)(h:Heap)(a b:Addr):Heap:=(zq2 t u h a b).push {cls:=.type "tuple", data:=.seq #[.ref h.objs.size,.ref (zq1 t h a).objs.size]}
noncomputable abbrev zq4(t u:Bool)(h:Heap)(a b:Addr):Heap:=(zq3 t u h a b).push {cls:=.type "tuple", data:=.seq #[.none,.none]}
noncomputable abbrev zq5(t u:Bool)(h:Heap)(a b:Addr):Heap:=(zq4 t u h a b).push {cls:=.type "zip", data:=.fields #[.none,.bool false,.bool false,.ref (zq2 t u h a b).objs.size,.ref (zq3 t u h a b).objs.size]}
theorem z0z(t u:Bool)(a b:Addr)(xs ys:Array Value):
  Meets (Builtin.«zip.__new__» ⟨[.type "zip", .ref a,.ref b],[]⟩) (fun _ R s=>IsSq t a xs s.heap/\IsSq u b ys s.heap/\R (.ok (.ret (.ref (zq4 t u s.heap a b).objs.size))) {s with heap:=zq5 t u s.heap a b}):=
 .of_wp fun prog w A R s hyp=>by
  obtain⟨hp,g,d,tk,os⟩:=s;obtain⟨g1,g2,h⟩:=hyp;have hsub:=sub_zip;have q2:IsSq u b ys (zq1 t hp a):=g2.keep fun o e=>Heap.get?_push_of_some _ e
  cases t with
  |false=>
   have p1:Heap.IsList (Shared.heap ⟨hp,g,d,tk,os⟩) a xs:=g1;cases u with
   |false=>
    have p2:Heap.IsList (Shared.heap ⟨hp.push {cls:=.type "list_iterator", data:=.fields #[.ref a,.int 0 0]},g,d,tk,os⟩) b ys:=q2
    wp_walk using wpAny_pyIter_list p1,wpAny_pyIter_list p2
    exact⟨_,rfl,h⟩
   |true=>
    have p2:Heap.IsTuple (Shared.heap ⟨hp.push {cls:=.type "list_iterator", data:=.fields #[.ref a,.int 0 0]},g,d,tk,os⟩) b ys:=q2
    wp_walk using wpAny_pyIter_list p1,wpAny_pyIter_tuple p2
    exact⟨_,rfl,h⟩
  |true=>
   have p1:Heap.IsTuple (Shared.heap ⟨hp,g,d,tk,os⟩) a xs:=g1;cases u with
   |false=>
    have p2:Heap.IsList (Shared.heap ⟨hp.push {cls:=.type "tuple_iterator", data:=.fields #[.ref a,.int 0 0]},g,d,tk,os⟩) b ys:=q2
    wp_walk using wpAny_pyIter_tuple p1,wpAny_pyIter_list p2
    exact⟨_,rfl,h⟩
   |true=>
    have p2:Heap.IsTuple (Shared.heap ⟨hp.push {cls:=.type "tuple_iterator", data:=.fields #[.ref a,.int 0 0]},g,d,tk,os⟩) b ys:=q2
    wp_walk using wpAny_pyIter_tuple p1,wpAny_pyIter_tuple p2
    exact⟨_,rfl,h⟩
section
variable{prog:Program}{w:World}{E:Value->Shared->Prop}
theorem x2v{t:Bool}{j:Addr}{o:Obj}(e:h.get? j=some o)(c:o.cls=.type (itT t))(d:o.data=.fields #[.ref a,.int 0 0]):IsIt t j a 0 h:=by
 cases t with
 |true=>exact(show h.IsTupleIter j a 0 from⟨o,e,c,d⟩)
 |false=>exact(show h.IsListIter j a 0 from⟨o,e,c,d⟩)
theorem x76{t u:Bool}{b:Addr}{xs:Array Value}{Q:Value->Shared->Prop}(g1:IsSq t a xs s.heap)(g2:IsSq u b ys s.heap)
  (h:∀h',IsZip h' (s.heap.objs.size+4) (s.heap.objs.size+2) (s.heap.objs.size+3) .none->IsPair h' (s.heap.objs.size+2) (.ref s.heap.objs.size) (.ref (s.heap.objs.size+1)) ->
   IsPair h' (s.heap.objs.size+3) .none .none->IsIt t s.heap.objs.size a 0 h'->IsIt u (s.heap.objs.size+1) b 0 h'->(∀c o,s.heap.get? c=some o->h'.get? c=some o)->Q (.ref (s.heap.objs.size+4)) {s with heap:=h'}):
  wpAny (model prog w) A (call (.type "zip") [.ref a,.ref b]) Q E s:=by
 refine callType_new F.called_zip (by decide) (F.typeCall_zip_2 _ _) (F.newCall_zip_2 _ _) (fun obj=>F.args_object_init_3 obj _ _) F.entry_zip_new (z0z t u a b xs ys) ⟨g1,g2,?_⟩
 have n1:(zq1 t s.heap a).objs.size=s.heap.objs.size+1:=Heap.size_push ..;have n2:(zq2 t u s.heap a b).objs.size=s.heap.objs.size+2:=by rw[Heap.size_push,n1]
 have n3:(zq3 t u s.heap a b).objs.size=s.heap.objs.size+3:=by rw[Heap.size_push,n2]
 have n4:(zq4 t u s.heap a b).objs.size=s.heap.objs.size+4:=by rw[Heap.size_push,n3]
 have k5:(zq5 t u s.heap a b).get? (zq4 t u s.heap a b).objs.size=some _:=Heap.get?_push_size _ rfl;have k4:(zq5 t u s.heap a b).get? (zq3 t u s.heap a b).objs.size=some _:=Heap.get?_push_of_some _ (Heap.get?_push_size _ rfl);have k3:(zq5 t u s.heap a b).get? (zq2 t u s.heap a b).objs.size=some _:=Heap.get?_push_of_some _ (Heap.get?_push_of_some _ (Heap.get?_push_size _ rfl));have k2:(zq5 t u s.heap a b).get? (zq1 t s.heap a).objs.size=some _:=Heap.get?_push_of_some _ (Heap.get?_push_of_some _ (Heap.get?_push_of_some _ (Heap.get?_push_size _ rfl)));have k1:(zq5 t u s.heap a b).get? s.heap.objs.size=some _:=Heap.get?_push_of_some _ (Heap.get?_push_of_some _ (Heap.get?_push_of_some _ (Heap.get?_push_of_some _ (Heap.get?_push_size _ rfl))));have up:∀c o,s.heap.get? c=some o->(zq5 t u s.heap a b).get? c=some o:=fun c o e=>Heap.get?_push_of_some _ (Heap.get?_push_of_some _ (Heap.get?_push_of_some _ (Heap.get?_push_of_some _ (Heap.get?_push_of_some _ e))))
 show _/\_;rw[n2,n3,n4]at k5;rw[n1,n2]at k3;rw[n3]at k4;rw[n1]at k2;rw[n4];exact⟨⟨_,k5,rfl⟩,h _ k5 k3 k4 (x2v k1 rfl rfl) (x2v k2 rfl rfl) up⟩
end
section
variable{e1 e2:Expr}{pt:Pos}
def SqG(K:Fg)(t:Bool)(H:Hp)(a:Addr)(xs:List V):Prop:=if t=true then SqT K H a xs else SqL K H a xs
theorem q6e{t:Bool}(I:Inv X pins σ H s)(h:SqG X.K t H a xs):∃its:List Value,Vals xs its/\IsSq t a its.toArray s.heap:=by
 cases t with
 |true=>
  obtain⟨its,r,p,_⟩:=I.tuple h;exact⟨its,r,(show s.heap.IsTuple a its.toArray from p)⟩
 |false=>
  obtain⟨its,r,p,_⟩:=I.list h;exact⟨its,r,p.isList⟩
theorem x77{t:Bool}{ys:List V}(I:Inv X pins σ H s)(h:SqG X.K t H a xs)(h':SqG X.K t H a ys):xs=ys:=by
 cases t with
 |true=>exact I.tuple_inj h h'
 |false=>exact I.list_inj h h'
theorem IsSq.obj{t:Bool}(x:IsSq t a vs h):∃o,h.get? a=some o/\o.cls=.type (if t=true then "tuple" else "list"):=by
 cases t with
 |true=>obtain⟨o,ho,c,_⟩:=(show h.IsTuple a vs from x);exact⟨o,ho,c⟩
 |false=>obtain⟨o,ho,c,_⟩:=(show h.IsList a vs from x);exact⟨o,ho,c⟩
theorem x31{t':Nat}{fp:List Addr}(I:Inv X pins σ H s)(k:∀b o,b∉fp->s.heap.get? b=some o->h'.get? b=some o)(hf:∀b∈fp,FpOk X pins H b):Inv X pins σ H {s with heap:=h',toks:=t'}:=by
 have nfp:∀c u,H c=some u->c∉fp:=fun c u e z=>by rw[(hf c z).1]at e;cases e
 refine I.step (g':=s.gens) (d':=s.drawn) (ch:=fp) (fun c hc=>?_) (fun c o _ _ hc e _=>k c o hc e) (fun c o _ _ hc e _=>⟨o.slots,k c o hc e⟩) (fun c o _ e n=>n)
  (fun c o hc e=>⟨o,k c o hc e⟩) (fun c xs e=>e) (fun c o u e=>e) (fun c ps e=>⟨#[],by rw[e];simp⟩) (fun m hm=>?_) (fun c u e=>?_) I.bare
 ·obtain⟨f0,f1,f2,f3,f4,f5⟩:=hf c hc;exact⟨f3,f1,f4,f5⟩
 ·obtain⟨o,es,ep,ho,r⟩:=hm;exact⟨o,es,ep,k _ o (fun z=>(hf _ z).2.1 rfl) ho,r⟩
 ·refine(I.hok c u e).stay (fun d v hd q=>k d v ?_ q) (fun d q=>q) fun d xs _ q=>q
  rcases hd with z|z
  ·rw[z];exact nfp c u e
  ·exact nfp d _ z
def Itz(K:Fg)(t u:Bool)(a b:Addr):It:=
  ⟨fun i H=>∃xs ys x y,SqG K t H a xs/\SqG K u H b ys/\xs[i]?=some x/\ys[i]?=some y,
   fun i H v H'=>∃c x y,v=.ref c/\H c=none/\(∀xs,SqG K t H a xs->xs[i]?=some x)/\(∀ys,SqG K u H b ys->ys[i]?=some y)/\H'=upd H c (.tup [x,y]),
   fun i H=>∃xs ys,SqG K t H a xs/\SqG K u H b ys/\(xs.length<=i\/ys.length<=i)⟩
theorem y05{w:World}(t u:Bool)(a b z I O i j:Addr)(D:Apart z I O i j a b):
  Turn P w K (.Tuple elts kt pt) (Itz K t u a b) [z,I,O,i,j] z (fun k h=>IsZip h z I O .none/\IsPair h I (.ref i) (.ref j)/\(∃p q,IsPair h O p q)/\IsIt t i a k h/\IsIt u j b k h) where
 mem:=by simp
 obj:=fun k h ⟨s1,s2,⟨p,q,s3⟩,s4,s5⟩ c hc=>by
  simp only[w0h,w2o,or_false]at hc;rcases hc with rfl|rfl|rfl|rfl|rfl
  ·exact⟨_,s1,fun v z=>by cases z⟩
  ·exact⟨_,s2,fun v z=>by cases z⟩
  ·exact⟨_,s3,fun v z=>by cases z⟩
  ·exact s4.obj
  ·exact s5.obj
 keep:=fun k h h' ⟨s1,s2,⟨p,q,s3⟩,s4,s5⟩ f=>⟨f z (by simp) _ s1,f I (by simp) _ s2,⟨p,q,f O (by simp) _ s3⟩,s4.keep fun o e=>f i (by simp) o e,s5.keep fun o e=>f j (by simp) o e⟩
 item:=by
  intro X hP hw hK hc k pins s σ H E Iv hf st hg;subst hP hw hK;obtain⟨s1,s2,⟨p,q,s3⟩,s4,s5⟩:=st;obtain⟨xs,ys,x,y,q1,q2,hx,hy⟩:=hg;obtain⟨is1,r1,p1⟩:=q6e Iv q1;obtain⟨is2,r2,p2⟩:=q6e Iv q2;obtain⟨ux,hux,rux⟩:=r1.get hx;obtain⟨uy,huy,ruy⟩:=r2.get hy;refine y58 D s1 s2 s3 s4 s5 p1 p2 (x:=ux) (y:=uy) (by simpa using hux) (by simpa using huy) fun h1 z1 o1 i1 j1 t1 n1 k1=>⟨_,rfl,?_⟩
  refine wpAny_letOwnedTupleGo_zip z1 fun h2 z2 b2=>?_
  have b2:Heap.SameBut z h1 h2:=b2;have zlt:z<s.heap.objs.size:=Heap.lt_size s1;have hfr:H s.heap.objs.size=none:=Iv.hok.fresh (w0j _);have t2:IsPair h2 s.heap.objs.size ux uy:=(b2.2 _ (w3x zlt)).trans t1;have I1:IsPair h1 I (.ref i) (.ref j):=k1 I _ D.Iz D.IO D.Ii D.Ij s2;refine⟨.ref s.heap.objs.size,upd H s.heap.objs.size (.tup [x,y]),?_,rfl,⟨_,x,y,rfl,hfr,fun xs' h'=>by rw[x77 Iv h' q1];exact hx,fun ys' h'=>by rw[x77 Iv h' q2];exact hy,rfl⟩,⟨z2,(b2.2 _ D.Iz).trans I1,⟨ux,uy,(b2.2 _ D.Oz).trans o1⟩,i1.keep fun o e=>(b2.2 _ D.iz).trans e,j1.keep fun o e=>(b2.2 _ D.jz).trans e⟩,fun c hc=>?_⟩
  ·show L2.Inv X pins σ _ {s with heap:=h2,toks:=s.toks};refine x7y (fp:=[z,I,O,i,j]) Iv (fun c o hc q=>?_) hf (w0j _) ⟨?_,[ux,uy],.cons rux (.cons ruy .nil),⟨_,t2,rfl,?_⟩,⟨_,t2,rfl⟩⟩
   ·simp only[w0h,w2o,or_false,not_or]at hc;exact(b2.2 c hc.1).trans (k1 c o hc.1 hc.2.2.1 hc.2.2.2.1 hc.2.2.2.2 q)
   ·rw[sizeLine_eq];simp
   ·exact⟨_,rfl⟩
  ·have:c≠s.heap.objs.size:=by
    obtain⟨o,q,_⟩:∃o,s.heap.get? c=some o/\True:=by
     simp only[w0h,w2o,or_false]at hc;rcases hc with rfl|rfl|rfl|rfl|rfl
     ·exact⟨_,s1,trivial⟩
     ·exact⟨_,s2,trivial⟩
     ·exact⟨_,s3,trivial⟩
     ·obtain⟨o,e,_⟩:=s4.obj;exact⟨o,e,trivial⟩
     ·obtain⟨o,e,_⟩:=s5.obj;exact⟨o,e,trivial⟩
    exact w0x (Heap.lt_size q)
   rw[q0b this];exact(hf c hc).1
 done:=by
  intro X hP hw hK hc k pins s σ H E Iv hf st hg;subst hP hw hK;obtain⟨s1,s2,⟨p,q,s3⟩,s4,s5⟩:=st;obtain⟨xs,ys,q1,q2,hlen⟩:=hg;obtain⟨is1,r1,p1⟩:=q6e Iv q1;obtain⟨is2,r2,p2⟩:=q6e Iv q2;have l1:=r1.length;have l2:=r2.length;refine y59 (Iv.ok.hd hc) D s1 s2 s3 s4 s5 p1 p2 (by rcases hlen with h|h;left;simp;omega;right;simp;omega) fun h' k1=>⟨rfl,?_⟩
  have hfp:∀c∈[z,I,O,i,j],FpOk X pins H c:=hf;refine x31 (fp:=[z,I,O,i,j]) (t':=s.toks) Iv (fun c o hc q=>?_) hfp
  simp only[w0h,w2o,or_false,not_or]at hc;exact k1 c o hc.1 hc.2.2.1 hc.2.2.2.1 hc.2.2.2.2 q
 self:=fun _ _ _ _ _ ⟨s1,_⟩ h=>wpAny_pyIter_zip s1 h
end
theorem x78(n a b:Nat)(ha:a<n)(hb:b<n):Apart (n+4) (n+2) (n+3) n (n+1) a b where
 Iz:=by show ¬(n+2:Nat)=n+4;omega
 Oz:=by show ¬(n+3:Nat)=n+4;omega
 iz:=by show ¬(n:Nat)=n+4;omega
 jz:=by show ¬(n+1:Nat)=n+4;omega
 IO:=by show ¬(n+2:Nat)=n+3;omega
 Ii:=by show ¬(n+2:Nat)=n;omega
 Ij:=by show ¬(n+2:Nat)=n+1;omega
 Oi:=by show ¬(n+3:Nat)=n;omega
 Oj:=by show ¬(n+3:Nat)=n+1;omega
 ij:=by show ¬(n:Nat)=n+1;omega
 az:=by show ¬(a:Nat)=n+4;omega
 aO:=by show ¬(a:Nat)=n+3;omega
 ai:=by show ¬(a:Nat)=n;omega
 aj:=by show ¬(a:Nat)=n+1;omega
 bz:=by show ¬(b:Nat)=n+4;omega
 bO:=by show ¬(b:Nat)=n+3;omega
 bi:=by show ¬(b:Nat)=n;omega
 bj:=by show ¬(b:Nat)=n+1;omega
section
variable{a1 a2:Expr}{pt:Pos}
def iZip(K:Fg)(ta:TA):TI:=fun σ H R=>ta σ H fun vs H1=>∃t u a b,vs=[.ref a,.ref b]/\(∃xs,SqG K t H1 a xs)/\(∃ys,SqG K u H1 b ys)/\R (Itz K t u a b) H1
theorem z00{ta:TA}{p:Pos}(hg:Gl X "zip")(hm:X.mg "zip"=none)(ha:PA X [a1,a2] ta)(hs:starEach [a1,a2] X.env=[(false,eval a1 X.env),(false,eval a2 X.env)]:=by rfl)(hs2:starEach [a2] X.env=[(false,eval a2 X.env)]:=by rfl):
  PI X (.Tuple elts kt pt) (.Call (.Name "zip" p) [a1,a2] [] pos) (iZip X.K ta):=by
 intro pins s σ H R I h;refine PyProof.Rows.Call_ (q43 I hg hm PyProof.Rows.boot_zip (PyProof.Rows.callWith_type1 (thn (ha pos pins s σ H _ I h) fun us s1 ⟨vs,H1,I1,r1,q1⟩=>?_) (by rw[hs,hs2]) (by rw[hs2];rfl)))
 obtain⟨t,u,a,b,e,⟨xs,hx⟩,⟨ys,hy⟩,q⟩:=q1;subst e;cases r1 with
 |cons r rr=>
  cases rr with
  |cons r' rr=>
   cases rr;cases r;cases r';obtain⟨is1,v1,p1⟩:=q6e I1 hx;obtain⟨is2,v2,p2⟩:=q6e I1 hy;obtain⟨oa,ea,_⟩:=p1.obj;obtain⟨ob,eb,_⟩:=p2.obj;have la:=Heap.lt_size ea;have lb:=Heap.lt_size eb;refine x76 p1 p2 fun h' z1 i1 o1 k1 k2 up=>?_
   refine wpAny_pyIter_zip z1 ?_
   have D:Apart (s1.heap.objs.size+4) (s1.heap.objs.size+2) (s1.heap.objs.size+3) s1.heap.objs.size (s1.heap.objs.size+1) a b:=by
    have la':(a:Nat)<s1.heap.objs.size:=la;have lb':(b:Nat)<s1.heap.objs.size:=lb;generalize s1.heap.objs.size=n at la' lb';exact x78 n a b la' lb'
   refine⟨s1.heap.objs.size+4,[s1.heap.objs.size+4,s1.heap.objs.size+2,s1.heap.objs.size+3,s1.heap.objs.size,s1.heap.objs.size+1],_,_,H1,rfl,I1.kept (t':=s1.toks) up,y05 t u a b _ _ _ _ _ D,⟨z1,i1,⟨_,_,o1⟩,k1,k2⟩,fun c hc=>?_,q⟩
   simp only[w0h,w2o,or_false]at hc;rcases hc with rfl|rfl|rfl|rfl|rfl<;>exact I1.fpOk (by omega) (I1.hok.fresh (by omega))
def srcZ(dA:Den (List W)):Den (List (W×W)):=fun e=>(dA e).bind fun ws e1=>match ws with
 |[x,y]=>match seqW x,seqW y with
  |some us,some vs=>.ok (us.zip vs) e1
  |_,_=>.no
 |_=>.no
theorem x4o(h:seqW w=some us)(p:Rep K G w v):∃t a xs,v=.ref a/\SqG K t G a xs/\Reps K G us xs:=by
 cases w with
 |tup l=>
  cases h;obtain⟨a,xs,rfl,hq,rp⟩:=p;exact⟨true,a,xs,rfl,hq,rp⟩
 |lst l=>
  cases h;obtain⟨a,xs,rfl,hq,rp⟩:=p;exact⟨false,a,xs,rfl,hq,rp⟩
 |_=>cases h
theorem q1b{t:Bool}(s:Same G H)(h:SqG K t G a xs):SqG K t H a xs:=by
 cases t with
 |true=>exact s.tup h
 |false=>exact s.seq h
theorem x79{t u:Bool}{b:Addr}{vs:List W}{ys:List V}(r1:Reps K G1 us xs)(r2:Reps K G1 vs ys)(h1:SqG K t G1 a xs)(h2:SqG K u G1 b ys):Walk2 K G1 (Itz K t u a b) (us.zip vs):=by
 have l1:=r1.length;have l2:=r2.length;have lz:(us.zip vs).length=min us.length vs.length:=w3m ..;refine⟨fun i G H s s' h=>⟨xs,ys,xs[i]'(by omega),ys[i]'(by omega),q1b s' (q1b s h1),q1b s' (q1b s h2),by simp,by simp⟩,fun i G H x H' s s' hy p q h=>?_,fun i G H s s' h=>⟨xs,ys,q1b s' (q1b s h1),q1b s' (q1b s h2),by omega⟩⟩
 obtain⟨c,x1,y1,rfl,hn,hx1,hy1,rfl⟩:=hy;obtain⟨hu,hv⟩:=w3p.mp h;obtain⟨w1,hw1,pw1⟩:=r1.getV (hx1 xs (q1b s' (q1b s h1)));obtain⟨w2,hw2,pw2⟩:=r2.getV (hy1 ys (q1b s' (q1b s h2)));rw[hu]at hw1;rw[hv]at hw2;cases hw1;cases hw2;exact⟨Grow.hid s' hn _,fun m n σ Q hQ=>⟨c,[x1,y1],rfl,SqT.of q0f,rfl,x1,[y1],rfl,y1,[],rfl,rfl,hQ _ _ (Rep.mono s _ pw1) (Rep.mono s _ pw2)⟩⟩
theorem x8a{p:Pos}(hm:X.mg "zip"=none)(ha:DA Z X EE [a1,a2] dA)(hg:Gl X "zip":=by rfl)(hs:starEach [a1,a2] X.env=[(false,eval a1 X.env),(false,eval a2 X.env)]:=by rfl)(hs2:starEach [a2] X.env=[(false,eval a2 X.env)]:=by rfl):
  DI Z X EE (.Tuple elts kt pt) (.Call (.Name "zip" p) [a1,a2] [] pos) (srcZ dA):=by
 refine PI.mono (z00 hg hm ha hs hs2) ?_;rintro σ H RR ⟨G,e,rel,h⟩;simp only[srcZ,R.holds_bind]at h;refine⟨G,e,rel,h.imp (fun ws e1 h G1 vs H1 r1 s1 p1=>?_) fun _ _ h=>h⟩
 split at h
 ·rename_i w1 w2;split at h
  ·rename_i us ws hu hw;obtain⟨y1,r,rfl,q1,y2,r',rfl,q2,q3⟩:=p1;cases(show r'=[]from q3);obtain⟨t,a,xs,rfl,hx,rx⟩:=x4o hu q1;obtain⟨u,b,ys,rfl,hy,ry⟩:=x4o hw q2;exact⟨t,u,a,b,rfl,⟨xs,q1b r1.sub hx⟩,⟨ys,q1b r1.sub hy⟩,h _ _ _ r1 s1 (x79 rx ry hx hy)⟩
  ·exact h.elim
 ·exact h.elim
end
section
variable{vs:List W}
def srcZW(e:List S):List W->R (List (W×W))
 |[x,y]=>match seqW x,seqW y with
  |some us,some vs=>.ok (us.zip vs) e
  |_,_=>.no
 |_=>.no
theorem z01:srcZ dA e=(dA e).bind fun ws e1=>srcZW e1 ws:=by
 unfold srcZ;congr 1
theorem y06:srcZW e [.tup us,.tup vs]=.ok (us.zip vs) e:=rfl
theorem y07:srcZW e [.lst us,.lst vs]=.ok (us.zip vs) e:=rfl
theorem y08:srcZW e [.tup us,.lst vs]=.ok (us.zip vs) e:=rfl
theorem y09:srcZW e [.lst us,.tup vs]=.ok (us.zip vs) e:=rfl
end
def dMut0(i:Nat)(f:List W->List W):List S->SR:=fun e=>match e[i]? with
 |some (.own b ws)=>.nx (e.set i (.own b (f ws)))
 |_=>.no
theorem Reps.rev:∀{ws:List W}{xs:List V},Reps K G ws xs->Reps K G ws.reverse xs.reverse
 |[],xs,h=>by cases(show xs=[]from h);exact rfl
 |w::ws,xs,h=>by
  obtain⟨v,vs,rfl,p,r⟩:=h;rw[w3c,w3c];exact(Reps.rev r).append (.one p)
section
variable{p:Pos}
theorem z02(i:Nat)(hN:X.N[i]?=some x:=by rfl)(hv:Vis X.env.scope x:=by walk_at "1")(hd:(x==("__debug__":Str))=false:=by decide)(hcd:(x==("__classdict__":Str))=false:=by decide)
  (hbase:attributeBase (.Name x p) "reverse" X.env (eval (.Name x p) X.env)=eval (.Name x p) X.env:=by rfl)(hline:(apos.endLine==cpos.line)=true:=by rfl)(hsw:swapsWith (.Call (.Attribute (.Name x p) "reverse" apos) [] [] cpos) none pos.line X.env=pure false:=by rfl):
  DS Z X EE (.Expr (.Call (.Attribute (.Name x p) "reverse" apos) [] [] cpos) pos) (dMut0 i List.reverse):=by
 refine PS.mono (q7p (y8t PySem.F.plainAttrs_list PySem.F.slot_list_reverse PySem.F.type_list_reverse x5p (pv i hN hv hd hcd) hbase hline) hsw) ?_;rintro D σ H ⟨G,e,rel,h⟩;unfold dMut0 at h;split at h
 ·rename_i b ws he;obtain⟨a,xs,h1,h2,h3,h4,h5⟩:=rel.own he;refine⟨.ref a,h1,.inl ⟨rfl,xs,SqL.of h2⟩,a,xs,rfl,rfl,h2,?_⟩;exact h G σ _ (rel.mut he h1 (Reps.rev h5)) (.refl _)
 ·exact h.elim
end
section
variable{o e a b c:Expr}{dc:Den W}{p3:Pos}
def dSet2(i j:Nat)(d:Den W):List S->SR:=fun e=>(d e).stm fun w e1=>match w with
 |.tup [u,v]=>.nx ((e1.set i (.fr u)).set j (.fr v))
 |_=>.no
theorem q92(i j:Nat)(hN:X.N.Nodup)(hc:X.calm=true)(he:DE Z X EE e d)
  (hi:X.N[i]?=some x:=by rfl)(hx:Loc X.env.scope x:=by walk_at "3")(hf:X.fn x=true\/X.env.scope.names.lookup x=some .local:=by walk_at "2")
  (hj:X.N[j]?=some y:=by rfl)(hy:Loc X.env.scope y:=by walk_at "3")(hf':X.fn y=true\/X.env.scope.names.lookup y=some .local:=by walk_at "2")
  (hn:(assignEach [.Name x p1,.Name y p2] X.env).length=2:=by rfl)(hst:(assignEach [.Name x p1,.Name y p2] X.env).findIdx? (·.1)=none:=by rfl)
  (g1:(assignEach [.Name x p1,.Name y p2] X.env).map (·.2)=assign (.Name x p1) X.env::(assignEach [.Name y p2] X.env).map (·.2):=by rfl)(g2:(assignEach [.Name y p2] X.env).map (·.2)=assign (.Name y p2) X.env::(assignEach [] X.env).map (·.2):=by rfl)
  (hs:swapsWithSole [.Tuple [.Name x p1,.Name y p2] kt p3] e pos.line X.env=pure false:=by rfl)(hw:swappedStores [.Tuple [.Name x p1,.Name y p2] kt p3] e X.env=pure none:=by rfl)
  (h1:(assignEach [.Tuple [.Name x p1,.Name y p2] kt p3] X.env).map (·.2)=[assign (.Tuple [.Name x p1,.Name y p2] kt p3) X.env]:=by rfl):
  DS Z X EE (.Assign [.Tuple [.Name x p1,.Name y p2] kt p3] e pos) (dSet2 i j d):=by
 refine PS.mono (x13 he (x12 hc (q4l (q28 i hN hi hx hf) (q4l (q28 j hN hj hy hf') q9r g2) g1) hn hst) hs hw h1) ?_;rintro D σ H ⟨G,e,rel,h⟩;refine⟨G,e,rel,(q0r h).imp (fun w e1 h G1 v1 H1 r1 q1 p1=>?_) fun _ _ h=>h⟩
 split at h
 ·rename_i u v;obtain⟨c,ys,rfl,hq,y1,z1,rfl,p1,y2,z2,rfl,p2,rfl⟩:=p1;exact⟨c,[y1,y2],rfl,r1.sub.tup hq,rfl,y1,[y2],rfl,y2,[],rfl,rfl,h G1 _ H1 ((r1.set p1).set p2) q1⟩
 ·exact h.elim
end
def mut0K(i:Nat)(f:List W->List W)(e:List S):Option S->SR
 |some (.own b ws)=>.nx (e.set i (.own b (f ws)))
 |_=>.no
theorem y6a{f:List W->List W}:dMut0 i f e=mut0K i f e e[i]?:=by
 unfold dMut0 mut0K;cases e[i]? with
 |none=>rfl
 |some s=>cases s<;>rfl
theorem y1a{f:List W->List W}:mut0K i f e (some (.own b ws))=.nx (e.set i (.own b (f ws))):=rfl
def set2K(i j:Nat)(e:List S):W->SR
 |.tup [u,v]=>.nx ((e.set i (.fr u)).set j (.fr v))
 |_=>.no
theorem y6b:dSet2 i j d e=(d e).stm fun w e1=>set2K i j e1 w:=by
 unfold dSet2;congr 1
theorem z03{u v:W}:set2K i j e (.tup [u,v])=.nx ((e.set i (.fr u)).set j (.fr v)):=rfl
theorem x4p:∀ns:List Int,intsW (ns.map .int)=some ns
 |[]=>rfl
 |n::ns=>by rw[w1b];show(intsW (ns.map .int)).map (n::·)=_;rw[x4p ns];rfl
def hide1:S->S
 |.own _ ws=>.fr (.lst ws)
 |.dic kvs=>.fr (.dic kvs)
 |.thr us ws vs=>.fr (.tup (us++.lst ws::vs))
 |.nest wss=>.fr (.lst (wss.map W.lst))
 |.x (.old w)=>.fr w
 |.x (.new w)=>.fr w
 |.x (.acc ws)=>.fr (.lst ws)
 |.x (.thro us ws vs)=>.fr (.tup (us++.lst ws::vs))
 |.x (.tn us wss)=>.fr (.tup (us++[.lst (wss.map W.lst)]))
 |.x (.pt _ _ _)=>.no
 |.x (.fz w)=>.fr w
 |.x (.fzo w)=>.fr w
 |.dw sh ks ws=>.fr (.dw false sh ks ws)
 |s=>s
theorem NestIn.reps(sg:Same G G')(hf:∀l o ys,FzAt Z G H l o ys->G' l=some (.frz o (.lst ys))):∀{ls:List Addr}{wss:List (List W)},NestIn K Z G H ls wss->Reps K G' (wss.map W.lst) (ls.map V.ref)
 |[],[],_=>rfl
 |l::ls,ws::wss,⟨⟨o,ys,h1,h4⟩,h⟩=>⟨.ref l,ls.map V.ref,rfl,⟨l,ys,rfl,.inl (.inr ⟨o,hf l o ys h1⟩),Reps.mono sg ws h4⟩,h.reps sg hf⟩
 |[],_::_,h=>h.elim
 |_::_,[],h=>h.elim
def hideS(e:List S):List S:=e.map hide1
def borrowR(e:List S):R W->R W
 |.ok w _=>if scalW w=true then .ok w e else .no
 |.ex c _=>.ex c e
 |.no=>.no
def dBorrow(d:Den W):Den W:=fun e=>borrowR e (d (hideS e))
def borrowT(e:List S):R Bool->R Bool
 |.ok b _=>.ok b e
 |.ex c _=>.ex c e
 |.no=>.no
def dBorrowT(d:Den Bool):Den Bool:=fun e=>borrowT e (d (hideS e))
theorem Rel.hide(r:Rel K Z G σ H e):Rel K ⟨H,H,[]⟩ H σ H (hideS e):=by
 have g:∀(i:Nat)(s:S),(hideS e)[i]?=some s->∃s0,e[i]?=some s0/\s=hide1 s0:=fun i s h=>by
  unfold hideS at h;rw[w0i]at h;obtain⟨s0,h1,h2⟩:=w0d.mp h;exact⟨s0,h1,h2.symm⟩
 refine⟨.refl _,fun i s h=>?_,by unfold hideS;rw[w0a];exact r.len,fun i j b b' ws ws' a h1 _ _ _=>?_,fun a o h _=>h,(fun a h=>nomatch h),fun a _=>rfl⟩
 ·obtain⟨s0,h0,rfl⟩:=g i s h;have q:=r.slot i s0 h0;cases s0 with
  |no=>trivial
  |fr w=>
   obtain⟨u,q1,q2⟩:=q;exact⟨u,q1,Rep.mono r.sub w q2⟩
  |own b ws=>
   obtain⟨a,xs,q1,q2,q3,q4,q5⟩:=q;exact⟨.ref a,q1,a,xs,rfl,SqL.of q2,Reps.mono r.sub ws q5⟩
  |dic kvs=>
   obtain⟨a,q1,q2,_⟩:=q;exact⟨.ref a,q1,a,rfl,q2⟩
  |thr us ws vs=>
   obtain⟨t,l,o,xs,ys,zs,q1,q2,q3,_,_,q6,q7,q8⟩:=q;exact⟨.ref t,q1,t,_,rfl,SqT.of (r.sub _ _ q2),(Reps.mono r.sub us q6).append ⟨.ref l,zs,rfl,⟨l,ys,rfl,.inl (.inr ⟨o,q3⟩),Reps.mono r.sub ws q7⟩,Reps.mono r.sub vs q8⟩⟩
  |nest wss=>
   obtain⟨a,ls,q1,q2,_,q4⟩:=q;exact⟨.ref a,q1,a,_,rfl,SqL.of (r.sub _ _ q2),q4.reps r.sub fun l o ys z=>z.1⟩
  |x k=>
   cases k with
   |old w=>obtain⟨u,q1,_,q2⟩:=q;exact⟨u,q1,Rep.mono r.sub w q2⟩
   |new w=>obtain⟨u,q1,q2⟩:=q;exact⟨u,q1,Rep.mono r.sub w (RepN.rep w q2)⟩
   |acc ws=>obtain⟨a,o,xs,q1,q2,q3⟩:=q;exact⟨.ref a,q1,a,xs,rfl,.inl (.inr ⟨o,q2.1⟩),Reps.mono r.sub ws (RepNs.reps ws q3)⟩
   |thro us ws vs=>
    obtain⟨t,l,o,xs,ys,zs,q1,_,q2,q3,_,q6,q7,q8⟩:=q;exact⟨.ref t,q1,t,_,rfl,SqT.of (r.sub _ _ q2),(Reps.mono r.sub us q6).append ⟨.ref l,zs,rfl,⟨l,ys,rfl,.inl (.inr ⟨o,q3.1⟩),Reps.mono r.sub ws q7⟩,Reps.mono r.sub vs q8⟩⟩
   |tn us wss=>
    obtain⟨t,l,o,ls,xs,q1,q2,q3,_,q5,q6⟩:=q;exact⟨.ref t,q1,t,_,rfl,SqT.of (r.sub _ _ q2),(Reps.mono r.sub us q5).append ⟨.ref l,[],rfl,⟨l,_,rfl,.inl (.inr ⟨o,q3.1⟩),q6.reps r.sub fun l o ys z=>z.1⟩,rfl⟩⟩
   |pt _ _ _=>trivial
   |fz w=>obtain⟨u,as,q1,_,q3⟩:=q;exact⟨u,q1,RepF.rep r.sub (fun l o ys z=>z.1) w q3⟩
   |fzo w=>obtain⟨u,as,q1,_,_,q3⟩:=q;exact⟨u,q1,RepF.rep r.sub (fun l o ys z=>z.1) w q3⟩
  |dw sh ks ws=>
   obtain⟨a,kvs,kas,q1,q2,_,_,q5,q6,q7⟩:=q;exact⟨.ref a,q1,a,kvs,kas,rfl,q2,q5,q6.mono r.sub,Reps.mono r.sub ws q7.reps⟩
 ·obtain⟨s0,_,h2⟩:=g i _ h1;cases s0 with
  |x k=>cases k<;>cases h2
  |_=>cases h2
theorem Rel.back{G2 H2:Hp}{e2:List S}(r:Rel K Z G σ H e)(r2:Rel K ⟨H,H,[]⟩ G2 σ H2 e2):Rel K Z G σ H2 e:=by
 have hh:Same H H2:=fun a o h=>r2.ent a o h (fun z=>nomatch z)
 exact r.grow ⟨hh,.refl _,fun a o h=>hh a o (r.sub a o h),fun _ _=>rfl⟩
theorem y1b(h:scalW w=true)(p:Rep K G w v):Rep K G' w v:=by
 cases w with
 |non=>exact p
 |bl b=>exact p
 |int b=>exact p
 |str b=>exact p
 |_=>cases h
section
variable{e:Expr}
theorem q5y(he:∀Z',DE Z' X EE e d):DE Z X EE e (dBorrow d):=by
 intro pins s σ H Q I hq;obtain⟨G,e0,rel,h⟩:=hq;refine he ⟨H,H,[]⟩ pins s σ H Q I ⟨H,hideS e0,rel.hide,?_⟩;unfold dBorrow borrowR at h;cases q:d (hideS e0)with
 |ok w e2=>
  rw[q]at h;dsimp only at h;split at h
  ·rename_i hs;intro G2 v H2 r2 s2 p;exact h G v H2 (rel.back r2) (.refl _) (y1b hs p)
  ·exact h.elim
 |ex k e2=>
  rw[q]at h;intro G2 H2 r2 s2;exact h G H2 (rel.back r2) (.refl _)
 |no=>rw[q]at h;exact h.elim
theorem q5z(he:∀Z',DT Z' X EE e c):DT Z X EE e (dBorrowT c):=by
 intro pins s σ H Q I hq;obtain⟨G,e0,rel,h⟩:=hq;refine he ⟨H,H,[]⟩ pins s σ H Q I ⟨H,hideS e0,rel.hide,?_⟩;unfold dBorrowT borrowT at h;cases q:c (hideS e0)with
 |ok w e2=>
  rw[q]at h;intro G2 H2 r2 s2;exact h G H2 (rel.back r2) (.refl _)
 |ex k e2=>
  rw[q]at h;intro G2 H2 r2 s2;exact h G H2 (rel.back r2) (.refl _)
 |no=>rw[q]at h;exact h.elim
end
section
variable{e':List S}{v:Value}{k:Bool}{s:S}{p:Prop} [Decidable p]
theorem x8b:dBorrow d e=borrowR e (d (hideS e)):=rfl
theorem x5z{d:Den Bool}:dBorrowT d e=borrowT e (d (hideS e)):=rfl
theorem x8c:borrowR e (.ok w e')=if scalW w=true then .ok w e else .no:=rfl
theorem x8d:borrowR e (.ex v e')=.ex v e:=rfl
theorem x50:borrowT e (.ok k e')=.ok k e:=rfl
theorem x51:borrowT e (.ex v e')=.ex v e:=rfl
theorem x52{x y:R W}:borrowR e (if p then x else y)=if p then borrowR e x else borrowR e y:=by split<;>rfl
theorem x32{x y:R Bool}:borrowT e (if p then x else y)=if p then borrowT e x else borrowT e y:=by split<;>rfl
theorem y1c:hideS []=[]:=rfl
theorem x8e:hideS (s::e)=hide1 s::hideS e:=rfl
theorem y1d:hide1 (.own b ws)=.fr (.lst ws):=rfl
theorem y6c:hide1 (.fr w)=.fr w:=rfl
theorem y6d:hide1 .no=.no:=rfl
end
end D
namespace L2
open PySem PySem.Spec PyProof.Rows
structure FlyA(outer:List Env)(H H':Hp)(h h':Heap)(e:Addr)(cls:Value)(B:Heap):Prop where
 stay:B.StaysIn h'
 bare:B.get? e=none
 ff:h'.FunFrames B outer
 tr:∃a0 fl,h'.TracedAtW B e cls a0 fl
 old:∀b o,h.get? b=some o->H b=none->b∉frs outer->B.get? b=some o
 trk:∀b u o,H' b=some u->h'.get? b=some o->B.get? b=some o
 all:∀b o,h.get? b=some o->b∈frs outer\/∃o',B.get? b=some o'
 new:h.get? e=none
end L2
namespace D
open PySem L2
variable{e:List S}
def compX(c:Den Bool)(d:Den W)(pe:List S):List W->Option (Value ⊕ List W)
 |[]=>some (.inr [])
 |w::ws=>match c (.fr w::pe)with
  |.ok true e1=>match d e1 with
   |.ok y _=>(compX c d pe ws).map (Sum.map id (y::·))
   |.ex k _=>some (.inl k)
   |.no=>none
  |.ok false _=>compX c d pe ws
  |.ex k _=>some (.inl k)
  |.no=>none
def compXR(e:List S):Option (Value ⊕ List W)->R (List W)
 |some (.inr out)=>.ok out e
 |some (.inl k)=>.ex k e
 |none=>.no
def compKX(js:List Nat)(c:Den Bool)(d:Den W)(ws:List W)(e1:List S):R (List W):=
 if ws.length<=16777216 then compXR (frzs js e1) (compX c d (pjS js (frzs js e1)) ws)else .no
theorem y1e{js:List Nat}{cc:Den Bool}{d:Den W}{ws:List W}:compKX js cc d ws e=if ws.length<=16777216 then compXR (frzs js e) (compX cc d (pjS js (frzs js e)) ws)else .no:=rfl
theorem x8f{out:List W}:compXR e (some (.inr out))=.ok out e:=rfl
theorem x8g{k:Value}:compXR e (some (.inl k))=.ex k e:=rfl
section
variable{X:Cx}{Z:Zt}{EE:L2.St->XK}{elt iter a b:Expr}{ifs:List Expr}{scope sc:Scope}{pos pt:Pos}{x:Str}{Nf N:List Str}{js:List Nat}{di:Den W}{dA:Den (List W)}{c:Den Bool}{d:Den W}
theorem z04{ws:List W}{P:List W->List S->Prop}{Ex:Value->List S->Prop}{e1:List S}(h:(compKX js c d ws e1).holds P Ex):ws.length<=16777216/\∃out,compX c d (pjS js (frzs js e1)) ws=some out/\Sum.elim (fun k=>Ex k (frzs js e1)) (fun o=>P o (frzs js e1)) out:=by
 unfold compKX at h;split at h
 ·rename_i hl;cases ho:compX c d (pjS js (frzs js e1)) ws with
  |none=>rw[ho]at h;exact h.elim
  |some out=>rw[ho]at h;exact⟨hl,out,rfl,by cases out<;>exact h⟩
 ·exact h.elim
end
end D
namespace L2
open PySem PySem.Spec PyProof.Rows
variable{A:Around}{prog:Program}{s:Shared}{E:Value->Shared->Prop}{w:World}
def Rise(t:SetTable):Prop:=t.place.toList.Pairwise (·<·)/\t.dummies=#[]
def valI:Value->Int
 |.int n _=>n
 |_=>0
structure SetData(prog:Program)(w:World)(es:Array (Int×Value))(t:SetTable)(S:List Int):Prop where
 el:ElemsOf (intKind prog w) es.toList
 sz:es.size<scanBound
 fit:t.fits es.size=true
 rise:Rise t
 led:t.led=!w.params.followText "set-order"
 whole:∀e∈es.toList,∃n k,e.2=Value.int n k
 perm:(es.toList.map fun e=>valI e.2).Perm S
def stepD(S:List Int)(k:Int):List Int:=if k∈S then S else S++[k]
theorem fold_len:∀(ns S:List Int),(ns.foldl stepD S).length<=S.length+ns.length
 |[],S=>by simp
 |n::ns,S=>by
  have:=fold_len ns (stepD S n);have h2:(stepD S n).length<=S.length+1:=by unfold stepD;split<;>simp
  simp only[w1x,w0z];omega
namespace SI
theorem own:Manifest.owners.lookup (String.ofList ['r','o','t','a','r','e','t','i','_','t','e','s'].reverse)=some Manifest.sig_set_iterator:=by kernel_rfl
theorem next:Slot "set_iterator" "__next__" "set_iterator.__next__":=.of (owner:="set_iterator") (n:="__next__") (by rw[typeLookup_type,builtinLookup_eq_fast];kernel_rfl) (by decide +kernel) (by decide +kernel) (by decide +kernel) (by first|exact .inl (by decide +kernel)|exact .inr (by decide +kernel)) (by rw[isSubtype_type];kernel_rfl)
theorem iter:Slot "set_iterator" "__iter__" "set_iterator.__iter__":=.of (owner:="set_iterator") (n:="__iter__") (by rw[typeLookup_type,builtinLookup_eq_fast];kernel_rfl) (by decide +kernel) (by decide +kernel) (by decide +kernel) (by first|exact .inl (by decide +kernel)|exact .inr (by decide +kernel)) (by rw[isSubtype_type];kernel_rfl)
end SI
open PySem PySem.Spec PyProof.Rows
end L2
namespace D
open PySem L2
variable{X:Cx}{dA:Den (List W)}{a e:Expr}{EE:L2.St->XK}{p pos:Pos}{K:Fg}{Z:Zt}
def rCat0(K:Fg):R2:=fun x y H Q=>∃a b ys,x=.ref a/\y=.ref b/\SqT K H a []/\SqT K H b ys/\Q (.ref b) H
open PyProof.Rows in
theorem op_cat0:OpR X (binaryOp .Add) (rCat0 X.K):=by
 intro pins s σ H x y v u Q I rx ry h;obtain⟨a,b,ys,rfl,rfl,ha,hb,q⟩:=h;cases rx;cases ry;obtain⟨its,r1,p1,_⟩:=I.tuple ha;obtain⟨its2,r2,p2,_⟩:=I.tuple hb;cases r1;obtain⟨⟨cls,dd,data,sl⟩,ho,hc,n,hd⟩:=id p1;obtain⟨⟨cls2,dd2,data2,sl2⟩,ho2,hc2,n2,hd2⟩:=id p2;simp only at hc hd hc2 hd2;subst hc hd hc2 hd2;exact concat_meets ⟨_,ho,rfl⟩ ⟨_,ho2,rfl⟩ noFill_tuple_add seq_tuple_add PySem.F.slot_tuple_add PySem.F.entry_tuple_add (PySem.F.args_tuple_add_2 _ _) (tuple_addW0 a b _ _ n n2 dd dd2 sl sl2 rfl) ⟨ho,ho2,.ref b,H,I,rfl,q⟩
def addX:W->W->Option W
 |.tup xs,.tup ys=>if xs.length+ys.length<=16777216 then some (.tup (xs++ys))else none
 |x,y=>addW x y
theorem y6e{xs ys:List W}:addX (.tup xs) (.tup ys)=if xs.length+ys.length<=16777216 then some (.tup (xs++ys))else none:=rfl
theorem y6f{i j:Int}:addX (.int i) (.int j)=some (.int (i+j)):=rfl
theorem y6g{xs ys:List W}:addX (.lst xs) (.lst ys)=if xs.length+ys.length<=16777216 then some (.lst (xs++ys))else none:=rfl
theorem y6h{x y:Str}:addX (.str x) (.str y)=if x.length+y.length<=16777216 then some (.str (x++y))else none:=rfl
theorem y6i:Op2 K (fun x y H Q=>rCat0 K x y H Q\/(rI0 (fun i j=>.int (i+j)) x y H Q\/((∃i j,x=.str i/\y=.str j/\i.length+j.length<=sizeLine/\Q (.str (i++j)) H)\/(rCatT K x y H Q\/rCatS K x y H Q)))) addX:=by
 intro G H x y wx wy w Q s px py hf h;unfold addX at hf;split at hf
 ·rename_i xs ys;split at hf
  ·rename_i hl
   by_cases h0:xs=[]
   ·subst h0;cases hf;obtain⟨a,vs,rfl,hq,rp⟩:=px;obtain⟨b,us,rfl,hq2,rp2⟩:=py;cases(show vs=[]from rp);exact .inl ⟨a,b,us,rfl,rfl,s.tup hq,s.tup hq2,h G _ H (.refl s) ⟨b,us,rfl,hq2,rp2⟩⟩
   ·exact .inr (x68 G H x y (.tup xs) (.tup ys) w Q s px py (by show(if xs≠[]/\xs.length+ys.length<=16777216 then some (W.tup (xs++ys))else none)=some w;rw[if_pos ⟨h0,hl⟩];exact hf) h)
  ·cases hf
 ·exact .inr (x68 G H x y _ _ w Q s px py hf h)
section
variable{b:Expr}{da db:Den W}
theorem q06(ha:DE Z X EE a da)(hb:DE Z X EE b db):DE Z X EE (.BinOp a .Add b pos) (dOp addX da db):=q7r (op_cat0.or (op_add.or (op_add_str.or (op_catT.or x4j)))) y6i ha hb
end
mutual
def toD:W->Option PyData
 |.non=>some .none
 |.bl b=>some (.bool b)
 |.int i=>some (.int i)
 |.str x=>some (.str x)
 |.tup ws=>(toDs ws).map .tuple
 |.lst ws=>(toDs ws).map .list
 |.exc _=>none
 |.dic _=>none
 |.dw _ _ _ _=>none
 |.fn _ _ _=>none
def toDs:List W->Option (List PyData)
 |[]=>some []
 |w::ws=>match toD w,toDs ws with
  |some d,some ds=>some (d::ds)
  |_,_=>none
end
section
variable{pins:List (Addr×Obj)}{σ:St}{H G:Hp}{s:Shared}
mutual
theorem x02(I:Inv X pins σ H s)(sg:Same G H):∀(w:W){v:V}{u:Value}{d:PyData},Rep X.K G w v->RelV v u->toD w=some d->∃as,Reads s.heap u d as
 |.non,v,u,d,p,r,h=>by
  cases(show v=.non from p);cases(show u=Value.none from r);cases h;exact⟨_,.none⟩
 |.bl b,v,u,d,p,r,h=>by
  cases(show v=.bl b from p);cases(show u=Value.bool b from r);cases h;exact⟨_,.bool b⟩
 |.int i,v,u,d,p,r,h=>by
  cases(show v=.int i from p);obtain⟨t,rfl⟩:=(show ∃t,u=Value.int i t from r);cases h;exact⟨_,.int i t⟩
 |.str x,v,u,d,p,r,h=>by
  cases(show v=.str x from p);obtain⟨t,rfl⟩:=(show ∃t,u=Value.str x t from r);cases h;exact⟨_,.str x t⟩
 |.tup ws,v,u,d,p,r,h=>by
  obtain⟨a,xs,rfl,hq,rp⟩:=p;cases(show u=Value.ref a from r);obtain⟨ds,h1,rfl⟩:=w0d.mp (show(toDs ws).map PyData.tuple=some d from h);obtain⟨its,rv,⟨o,ho,hc,n,hd⟩,_⟩:=I.tuple (sg.tup hq);obtain⟨as,ra⟩:=q6o I sg ws rp rv h1;exact⟨_,.tuple ho hc hd (by simpa using ra)⟩
 |.lst ws,v,u,d,p,r,h=>by
  obtain⟨a,xs,rfl,hq,rp⟩:=p;cases(show u=Value.ref a from r);obtain⟨ds,h1,rfl⟩:=w0d.mp (show(toDs ws).map PyData.list=some d from h);obtain⟨its,rv,pl,_⟩:=I.list (sg.seq hq);obtain⟨o,ho,hc,n,hd⟩:=pl.isList;obtain⟨as,ra⟩:=q6o I sg ws rp rv h1;exact⟨_,.list ho hc hd (by simpa using ra)⟩
 |.exc c,v,u,d,p,r,h=>by cases h
 |.dic c,v,u,d,p,r,h=>by cases h
 |.dw _ _ _ _,v,u,d,p,r,h=>by cases h
 |.fn _ _ _,v,u,d,p,r,h=>by cases h
theorem q6o(I:Inv X pins σ H s)(sg:Same G H):∀(ws:List W){xs:List V}{its:List Value}{ds:List PyData},Reps X.K G ws xs->Vals xs its->toDs ws=some ds->∃as,ReadsAll s.heap its ds as
 |[],xs,its,ds,p,r,h=>by
  cases(show xs=[]from p);cases r;cases h;exact⟨_,.nil⟩
 |w::ws,xs,its,ds,p,r,h=>by
  obtain⟨x,xr,rfl,p1,p2⟩:=p;cases r with
  |cons r1 r2=>
   unfold toDs at h;split at h
   ·rename_i d0 ds0 h1 h2;cases h;obtain⟨as,q1⟩:=x02 I sg w p1 r1 h1;obtain⟨bs,q2⟩:=q6o I sg ws p2 r2 h2;exact⟨_,.cons q1 q2⟩
   ·cases h
end
end
theorem noDicts:∀(w:W){d:PyData},toD w=some d->d.hasDict=false
 |.non,d,h=>by cases h;rfl
 |.bl b,d,h=>by cases h;rfl
 |.int i,d,h=>by cases h;rfl
 |.str x,d,h=>by cases h;rfl
 |.tup ws,d,h=>by
  obtain⟨ds,h1,rfl⟩:=w0d.mp (show(toDs ws).map PyData.tuple=some d from h);exact go ws h1
 |.lst ws,d,h=>by
  obtain⟨ds,h1,rfl⟩:=w0d.mp (show(toDs ws).map PyData.list=some d from h);exact go ws h1
 |.exc c,d,h=>by cases h
 |.dic c,d,h=>by cases h
 |.dw _ _ _ _,d,h=>by cases h
 |.fn _ _ _,d,h=>by cases h
where
 go:∀(ws:List W){ds:List PyData},toDs ws=some ds->PyData.hasDictAll ds=false
 |[],ds,h=>by cases h;rfl
 |w::ws,ds,h=>by
  unfold toDs at h;split at h
  ·rename_i d0 ds0 h1 h2;cases h;show(PyData.hasDict d0||PyData.hasDictAll ds0)=false;rw[noDicts w h1,go ws h2];rfl
  ·cases h
theorem x53(hu:X.A.units+150<cLine)(hg:X.A.guards=some []):CallR X (.builtin "repr") (fun xs H Q=>∃x w d G,xs=[x]/\Same G H/\Rep X.K G w x/\(∃a,x=.ref a)/\toD w=some d/\d.showable=true/\d.depth<=100/\d.shown.length<=sizeLine/\Q (.str d.shown) H):=by
 intro pins s σ H xs us Q I r h;obtain⟨x,w,d,G,rfl,sg,p,⟨a,rfl⟩,hd,h1,h2,h3,q⟩:=h;obtain⟨u,rfl,rx⟩:=vals1 r;obtain⟨as,rr⟩:=x02 I sg w p rx hd;cases(show u=Value.ref a from rx);refine repr_of_reads' rr h1 (PyData.noDict_hsm (noDicts w hd)) hg (by omega) (fun _ _ e=>e) (fun h' u' tk hk=>?_) h3
 exact⟨.str d.shown,H,I.kept (t':=tk) hk,⟨u',rfl⟩,q⟩
def repr1:List W->Option W
 |[.tup ws]=>(toD (.tup ws)).bind fun d=>if d.showable=true/\d.depth<=100/\d.shown.length<=16777216 then some (.str d.shown)else none
 |[.lst ws]=>(toD (.lst ws)).bind fun d=>if d.showable=true/\d.depth<=100/\d.shown.length<=16777216 then some (.str d.shown)else none
 |_=>none
theorem y6j:OpN K (fun xs H Q=>∃x w d G,xs=[x]/\Same G H/\Rep K G w x/\(∃a,x=.ref a)/\toD w=some d/\d.showable=true/\d.depth<=100/\d.shown.length<=sizeLine/\Q (.str d.shown) H) repr1:=by
 intro G H xs ws w Q s pr hf h;unfold repr1 at hf;split at hf
 ·obtain⟨x,r,rfl,px,pr⟩:=pr;cases(show r=[]from pr);obtain⟨d,hd,hf⟩:=w1l.mp hf;split at hf
  ·rename_i hc;cases hf;exact⟨x,_,d,G,rfl,s,px,(by obtain⟨a,_,e,_⟩:=px;exact⟨a,e⟩),hd,hc.1,hc.2.1,by rw[sizeLine_eq];exact hc.2.2,h G _ H (.refl s) rfl⟩
  ·cases hf
 ·obtain⟨x,r,rfl,px,pr⟩:=pr;cases(show r=[]from pr);obtain⟨d,hd,hf⟩:=w1l.mp hf;split at hf
  ·rename_i hc;cases hf;exact⟨x,_,d,G,rfl,s,px,(by obtain⟨a,_,e,_⟩:=px;exact⟨a,e⟩),hd,hc.1,hc.2.1,by rw[sizeLine_eq];exact hc.2.2,h G _ H (.refl s) rfl⟩
  ·cases hf
 ·cases hf
theorem q5g(hu:X.A.units+150<cLine)(hgd:X.A.guards=some [])(hm:X.mg "repr"=none)(ha:DA Z X EE [e] dA)(hg:Gl X "repr":=by rfl)(he:starEach [e] X.env=(false,eval e X.env)::starEach [] X.env:=by rfl)(hpl:(backTo pos (starEach [] X.env)).any (·.1)=false:=by rfl):DE Z X EE (.Call (.Name "repr" p) [e] [] pos) (dFn repr1 dA):=
 q59 (x53 hu hgd) y6j PyProof.Rows.Boot.«repr» hm ha hg (by decide) (by decide) he hpl
mutual
def plainW:W->Bool
 |.non=>true
 |.bl _=>true
 |.int i=>decide (0<=i/\i<512)
 |.tup ws=>plainWs ws
 |.lst ws=>plainWs ws
 |_=>false
def plainWs:List W->Bool
 |[]=>true
 |w::ws=>plainW w&&plainWs ws
end
mutual
def wgt:W->Nat
 |.int i=>(PyData.int i).weight
 |.tup ws=>wgts ws
 |.lst ws=>wgts ws
 |_=>0
def wgts:List W->Nat
 |[]=>0
 |w::ws=>wgt w+1+wgts ws
end
theorem x8h:∀n:Fin 32,(PyData.int ((n.val:Nat):Int)).weight<=8:=by decide +kernel
theorem x4q{n:Nat}(h:n<32):wgt (.int (n:Int))<=8:=x8h ⟨n,h⟩
theorem x54:∀n:Fin 512,(PyData.int ((n.val:Nat):Int)).weight<=16:=by decide +kernel
theorem y1f{n:Nat}(h:n<512):wgt (.int (n:Int))<=16:=x54 ⟨n,h⟩
theorem x03:∀n:Fin 512,PyData.showable (.int ((n.val:Nat):Int))=true/\PyData.leavesShort 8 (.int ((n.val:Nat):Int))=true:=by decide +kernel
mutual
theorem q8j:∀(w:W),plainW w=true->∃d,toD w=some d/\d.showable=true/\d.leavesShort 8=true/\d.depth=depW w/\d.weight=wgt w
 |.non,_=>⟨.none,rfl,rfl,rfl,rfl,rfl⟩
 |.bl b,_=>⟨.bool b,rfl,rfl,rfl,rfl,rfl⟩
 |.tup ws,h=>by
  obtain⟨ds,h1,h2,h3,h4,h5⟩:=q6p ws h;exact⟨.tuple ds,by show(toDs ws).map _=_;rw[h1];rfl,h2,h3,by show PyData.depthAll ds+1=_;rw[h4];rfl,by show PyData.weightAll ds=_;rw[h5];rfl⟩
 |.lst ws,h=>by
  obtain⟨ds,h1,h2,h3,h4,h5⟩:=q6p ws h;exact⟨.list ds,by show(toDs ws).map _=_;rw[h1];rfl,h2,h3,by show PyData.depthAll ds+1=_;rw[h4];rfl,by show PyData.weightAll ds=_;rw[h5];rfl⟩
 |.int i,h=>by
  have h:decide (0<=i/\i<512)=true:=h;have h:=of_decide_eq_true h;obtain⟨n,rfl⟩:∃n:Fin 512,i=((n.val:Nat):Int):=⟨⟨i.toNat,by omega⟩,by simp;omega⟩;exact⟨.int _,rfl,(x03 n).1,(x03 n).2,rfl,rfl⟩
 |.str i,h=>by cases h
 |.exc i,h=>by cases h
 |.dic i,h=>by cases h
 |.dw _ _ _ _,h=>by cases h
 |.fn _ _ _,h=>by cases h
theorem q6p:∀(ws:List W),plainWs ws=true->∃ds,toDs ws=some ds/\PyData.showableAll ds=true/\PyData.leavesShortAll 8 ds=true/\PyData.depthAll ds=depWs ws/\PyData.weightAll ds=wgts ws
 |[],_=>⟨[],rfl,rfl,rfl,rfl,rfl⟩
 |w::ws,h=>by
  have h:(plainW w&&plainWs ws)=true:=h;rw[w0y]at h;obtain⟨d,d1,d2,d3,d4,d5⟩:=q8j w h.1;obtain⟨ds,h1,h2,h3,h4,h5⟩:=q6p ws h.2;refine⟨d::ds,?_,?_,?_,?_,?_⟩
  ·unfold toDs;rw[d1,h1]
  ·show(PyData.showable d&&PyData.showableAll ds)=true;rw[d2,h2];rfl
  ·show(PyData.leavesShort 8 d&&PyData.leavesShortAll 8 ds)=true;rw[d3,h3];rfl
  ·show max d.depth (PyData.depthAll ds)=_;rw[d4,h4];rfl
  ·show d.weight+1+PyData.weightAll ds=_;rw[d5,h5];rfl
end
theorem q55:∀bs:List Bool,plainWs (bs.map .bl)=true/\depWs (bs.map .bl)=0/\wgts (bs.map .bl)=bs.length
 |[]=>⟨rfl,rfl,rfl⟩
 |b::bs=>by
  obtain⟨h1,h2,h3⟩:=q55 bs;refine⟨h1,?_,?_⟩
  ·show max 0 (depWs (bs.map .bl))=0;omega
  ·show 0+1+wgts (bs.map .bl)=_;rw[h3,w0z];omega
theorem x4r{l:List Int}{i:Nat}(h:i<l.length):l.getD i 0=l[i]:=by
 unfold List.getD;rw[w0c h];rfl
open PySem L2 PySem.Spec PyProof.Rows
section
variable{ta:TA}{p2 pos2:Pos}
def tLR(ta:TA):TE:=fun σ H Q=>ta σ H fun vs H1=>∃j:Int,vs=[.int j]/\j.toNat<=16777216/\-(2^62)<=j/\∀l,H1 l=none->Q (.ref l) (upd H1 l (.lst ((List.range j.toNat).map fun(k:Nat)=>V.int (k:Int))))
theorem x4s{vs:List V}{us:List Value}(hl:vs.length=us.length)(h:∀(i:Nat)(h1:i<vs.length)(h2:i<us.length),RelV vs[i] us[i]):Vals vs us:=by
 induction vs generalizing us with
 |nil=>
  cases us with
  |nil=>exact .nil
  |cons u us=>simp at hl
 |cons v vs ih=>
  cases us with
  |nil=>simp at hl
  |cons u us=>
   refine .cons (h 0 (by simp) (by simp)) (ih (by simpa using hl) fun i h1 h2=>?_)
   have:=h (i+1) (by simpa using h1) (by simpa using h2)
   simpa using this
theorem y1g(hc:X.calm=true)(hgl:Gl X "list")(hml:X.mg "list"=none)(hg:Gl X "range")(hm:X.mg "range"=none)(ha:PA X [a] ta)(hs:starEach [a] X.env=[(false,eval a X.env)]:=by rfl)
  (he:starEach [.Call (.Name "range" p2) [a] [] pos2] X.env=[(false,eval (.Call (.Name "range" p2) [a] [] pos2) X.env)]:=by rfl):PE X (.Call (.Name "list" p) [.Call (.Name "range" p2) [a] [] pos2] [] pos) (tLR ta):=by
 intro pins s σ H Q I h;refine wpAny_Call_Name_kw (q43 I hgl hml PyProof.Rows.Boot.«list» ?_ (by decide) (by decide));refine PyProof.Rows.callWith_type1 ?_ (by rw[he];rfl) rfl;rw[he];show wpAny _ _ (spliced ((false,eval (.Call (.Name "range" p2) [a] [] pos2) X.env)::[])) _ _ s;refine Calls.spliced_cons ?_;refine Call_ (q43 I hg hm boot_range (PyProof.Rows.callWith_type1 (thn (ha pos2 pins s σ H _ I h) fun us s1 ⟨vs,H1,I1,r1,q1⟩=>?_) hs rfl))
 obtain⟨j,e,z1,z2,q⟩:=q1;subst e;cases r1 with
 |cons r rr=>
  cases rr;obtain⟨t,rfl⟩:=r;refine call_range_1 (Calls.spliced_nil ?_);have I2:Inv X pins σ H1 {s1 with heap:=s1.heap.push {cls:=.type "range", data:=.fields #[.int 0 s1.toks,.int j t,.int 1 (s1.toks+1)]},toks:=s1.toks+1+1}:=I1.kept fun b o e=>Heap.get?_push_of_some _ e
  have hn:Builtin.Range.rangeSize 0 j 1=((j.toNat:Nat):Int):=by rw[rangeSize_one];split<;>omega
  refine call_list_range (I.ok.hd hc) (IsRange.new ..) (small_one (by omega) (by omega) z2 (by omega)) hn (by omega) fun h' tk acc' c' hk hS' hacc=>?_
  refine⟨.ref _,_,I2.laid (t':=tk) hk (w0j _) (show ObjOk X.prog X.w _ h' _ (.lst ((List.range j.toNat).map fun(k:Nat)=>V.int (k:Int)))from⟨by simp[sizeLine];omega,acc'.toList,c',x4s (by simp[hacc.1]) (fun i h1 h2=>?_),by simpa using hS'⟩),rfl,q _ (I2.hok.fresh (w0j _))⟩
  have h2':i<acc'.size:=by simpa using h2
  obtain⟨t2,e2⟩:=hacc.2 i acc'[i] (by simp[h2']);have e3:acc'.toList[i]=.int (0+(i:Int)*1) t2:=by simpa using e2
  rw[e3];simp only[List.getElem_map,w4l];exact⟨t2,by simp⟩
end
section
variable{p2 pos2:Pos}
def listR1:List W->Option (List W)
 |[.int j]=>if j.toNat<=16777216/\-(2^62)<=j then some ((List.range j.toNat).map fun(k:Nat)=>W.int (k:Int))else none
 |_=>none
def dListR(dA:Den (List W)):Den (List W):=fun e=>(dA e).bind fun ws e1=>ofOpt (listR1 ws) e1
theorem x04{G:Hp}:∀ks:List Nat,Reps K G (ks.map fun(k:Nat)=>W.int (k:Int)) (ks.map fun(k:Nat)=>V.int (k:Int))
 |[]=>rfl
 |k::ks=>⟨_,_,rfl,rfl,x04 ks⟩
theorem x2w(hc:X.calm=true)(hml:X.mg "list"=none)(hm:X.mg "range"=none)(ha:DA Z X EE [e] dA)(hgl:Gl X "list":=by rfl)(hg:Gl X "range":=by rfl)(hs:starEach [e] X.env=[(false,eval e X.env)]:=by rfl)
  (he:starEach [.Call (.Name "range" p2) [e] [] pos2] X.env=[(false,eval (.Call (.Name "range" p2) [e] [] pos2) X.env)]:=by rfl):DF Z X EE (.Call (.Name "list" p) [.Call (.Name "range" p2) [e] [] pos2] [] pos) (dListR dA):=by
 refine PE.mono (y1g hc hgl hml hg hm ha hs he) ?_;rintro σ H Q ⟨G,e,rel,h⟩;simp only[dListR,R.holds_bind,ofOpt_holds]at h;refine⟨G,e,rel,h.imp (fun ws e1 h G1 vs H1 r1 s1 p1=>?_) fun _ _ h=>h⟩
 obtain⟨out,hf,h⟩:=h;unfold listR1 at hf;split at hf
 ·rename_i j;split at hf
  ·rename_i hj;cases hf;obtain⟨y,r,rfl,py,pr⟩:=p1;cases(show r=[]from pr);cases(show y=V.int j from py);exact⟨j,rfl,hj.1,hj.2,q3v r1 s1 (x04 _) h⟩
  ·cases hf
 ·cases hf
end
theorem y1h{e:List S}:dListR dA e=(dA e).bind fun ws e1=>ofOpt (listR1 ws) e1:=rfl
end D
namespace L2
open PySem PySem.Spec PyProof.Rows
section
variable{κ:Type} [DecidableEq κ]
def valV(kvs:List (κ×V))(k:κ):Option V:=(kvs.find? fun kv=>decide (kv.1=k)).map (·.2)
def putK(kvs:List (κ×V))(k:κ)(v:V):List (κ×V):=
 if(kvs.any fun kv=>decide (kv.1=k))=true then kvs.map (fun kv=>if kv.1=k then(kv.1,v)else kv)else kvs++[(k,v)]
theorem q5r{p:κ×V}{r:List (κ×V)}{k:κ}(e:p.1=k):valV (p::r) k=some p.2:=by simp[valV,w1y,e]
theorem q4p{p:κ×V}{r:List (κ×V)}{k:κ}(e:¬p.1=k):valV (p::r) k=valV r k:=by simp[valV,w1y,e]
theorem q8k(k:κ):∀kvs:List (κ×V),(kvs.any fun kv=>decide (kv.1=k))=(valV kvs k).isSome
 |[]=>rfl
 |p::r=>by
  rw[w3h]
  by_cases e:p.1=k
  ·simp only[q5r e,decide_eq_true e,Bool.true_or,Option.isSome_some]
  ·rw[q4p e,decide_eq_false e,Bool.false_or];exact q8k k r
theorem q79(kvs:List (κ×V))(k:κ)(v:V):(putK kvs k v).length<=kvs.length+1:=by
 unfold putK;split
 ·rw[w0a];omega
 ·rw[w1o,w0z,w3n];omega
theorem y1i{kvs:List (κ×V)}{k:κ}(v:V)(h:valV kvs k=none):putK kvs k v=kvs++[(k,v)]:=by
 unfold putK;rw[q8k,h];exact if_neg (by decide)
theorem RelO.isSome_eq{o:Option V}{u:Option Value}(r:RelO o u):o.isSome=u.isSome:=by
 cases o with
 |none=>cases u with
  |none=>rfl
  |some _=>exact(show False from r).elim
 |some _=>cases u with
  |none=>exact(show False from r).elim
  |some _=>rfl
theorem KV.val{kvs:List (κ×V)}{vs:List (κ×Value)}(r:KV kvs vs)(k:κ):RelO (valV kvs k) (valueAt vs k):=by
 unfold KV at r
 induction r with
 |nil=>exact True.intro
 | @cons p q ps qs h t ih=>
  obtain⟨h1,h2⟩:=h
  by_cases e:p.1=k
  ·have e':q.1=k:=h1.symm.trans e;have b:valueAt (q::qs) k=some q.2:=by simp[valueAt,w1y,e']
   rw[q5r e,b];exact h2
  ·have e':¬q.1=k:=fun z=>e (h1.trans z)
   have b:valueAt (q::qs) k=valueAt qs k:=by simp[valueAt,w1y,e']
   rw[q4p e,b];exact ih
theorem KV.any{kvs:List (κ×V)}{vs:List (κ×Value)}(r:KV kvs vs)(k:κ):(kvs.any fun kv=>decide (kv.1=k))=vs.any fun kv=>decide (kv.1=k):=by
 unfold KV at r
 induction r with
 |nil=>rfl
 |cons h t ih=>rw[w3h,w3h,ih,h.1]
theorem KV.repl{kvs:List (κ×V)}{vs:List (κ×Value)}(r:KV kvs vs)(k:κ){y:V}{u:Value}(ry:RelV y u):
  KV (kvs.map fun kv=>if kv.1=k then(kv.1,y)else kv) (vs.map fun kv=>if kv.1=k then(kv.1,u)else kv):=by
 unfold KV at r |-
 induction r with
 |nil=>exact .nil
 | @cons p q ps qs h t ih=>
  rw[w1b,w1b];refine .cons ?_ ih;obtain⟨h1,h2⟩:=h
  by_cases e:p.1=k
  ·rw[if_pos e,if_pos (h1.symm.trans e)];exact⟨h1,ry⟩
  ·rw[if_neg e,if_neg (fun z=>e (h1.trans z))];exact⟨h1,h2⟩
theorem KV.put{kvs:List (κ×V)}{vs:List (κ×Value)}(r:KV kvs vs)(k:κ){y:V}{u:Value}(ry:RelV y u):KV (putK kvs k y) (stored vs k u):=by
 unfold putK stored;rw[r.any k]
 by_cases e:(vs.any fun kv=>decide (kv.1=k))=true
 ·rw[if_pos e,if_pos e];exact r.repl k ry
 ·rw[if_neg e,if_neg e];exact Paired.snoc r ⟨rfl,ry⟩
theorem KV.length{kvs:List (κ×V)}{vs:List (κ×Value)}(r:KV kvs vs):kvs.length=vs.length:=Paired.length r
end
variable{a b:Addr}{A:Around}{X:Cx}{H H':Hp}{pins:List (Addr×Obj)}{xs:List (Kx×Addr×Value)}{kvs:List (Kx×V)}{kas:List Addr}{pos:Pos}{P:Program}{sh:Sh}{s:Shared}{σ:St}{v y:V}{u:Value}{E:Value->Shared->Prop}{w:World}
theorem x1v{k:Key}(r:RelV (kV k) u):(mixKind P w).is k u=true:=by
 cases k with
 |inl i=>obtain⟨t,e⟩:=(show ∃t,u=Value.int i t from r);subst e;exact x3w P w i t
 |inr x=>obtain⟨t,e⟩:=(show ∃t,u=Value.str x t from r);subst e;exact x3x P w x t
abbrev KT(sh:Sh)(H:Hp):List (Kx×V)->List (Kx×Addr×Value)->Prop:=Paired fun p q=>p.1=q.1/\(KRep H p.1 (.ref q.2.1)/\Conf p.1 sh/\p.1.depth<=7)/\RelV p.2 q.2.2
theorem KT.val(r:KT sh H kvs xs)(k:Kx):RelO (valV kvs k) ((atKey xs k).map (·.2)):=by
 induction r with
 |nil=>exact True.intro
 | @cons p q ps qs h t ih=>
  obtain⟨h1,_,h2⟩:=h
  by_cases e:p.1=k
  ·have e':q.1=k:=h1.symm.trans e;have b:atKey (q::qs) k=some q.2:=by simp[atKey,w1y,e']
   rw[q5r e,b];exact h2
  ·have e':¬q.1=k:=fun z=>e (h1.trans z)
   have b:atKey (q::qs) k=atKey qs k:=by simp[atKey,w1y,e']
   rw[q4p e,b];exact ih
theorem KT.repl(r:KT sh H kvs xs)(k:Kx)(ry:RelV y u):
  KT sh H (kvs.map fun kv=>if kv.1=k then(kv.1,y)else kv) (xs.map (putAt k u)):=by
 induction r with
 |nil=>exact .nil
 | @cons p q ps qs h t ih=>
  rw[w1b,w1b];refine .cons ?_ ih;obtain⟨h1,h2,h3⟩:=h;unfold putAt
  by_cases e:p.1=k
  ·rw[if_pos e,if_pos (h1.symm.trans e)];exact⟨h1,h2,ry⟩
  ·rw[if_neg e,if_neg (fun z=>e (h1.trans z))];exact⟨h1,h2,h3⟩
theorem KT.put(r:KT sh H kvs xs)(k:Kx)(hb:KRep H k (.ref b)/\Conf k sh/\k.depth<=7)(ry:RelV y u):
  KT sh H (putK kvs k y) (storedH xs k b u):=by
 have e:(kvs.any fun kv=>decide (kv.1=k))=(atKey xs k).isSome:=by
  rw[q8k,(r.val k).isSome_eq,w3d]
 unfold putK storedH;rw[e]
 by_cases q:(atKey xs k).isSome=true
 ·rw[if_pos q,if_pos q];exact r.repl k ry
 ·rw[if_neg q,if_neg q];exact Paired.snoc r ⟨rfl,hb,ry⟩
def putAd(kvs:List (Kx×V))(kas:List Addr)(k:Kx)(b:Addr):List Addr:=if(valV kvs k).isSome=true then kas else kas++[b]
theorem KT.putAd(r:KT sh H kvs xs)(ka:xs.map (·.2.1)=kas)(k:Kx):(storedH xs k b u).map (·.2.1)=L2.putAd kvs kas k b:=by
 unfold storedH L2.putAd;rw[(r.val k).isSome_eq,w3d]
 by_cases q:(atKey xs k).isSome=true
 ·rw[if_pos q,if_pos q,w1g,<- ka];refine w1i fun x _=>?_
  show(putAt k u x).2.1=x.2.1;unfold putAt;split<;>rfl
 ·rw[if_neg q,if_neg q,w0n,ka];rfl
theorem KT.keeps(r:KT sh H kvs xs)(ht:∀b u,TupLike u->H b=some u->H' b=some u):KT sh H' kvs xs:=
 Paired.mapP r fun _ _ z=>⟨z.1,⟨KRep.keeps ht _ z.2.1.1,z.2.1.2⟩,z.2.2⟩
section
variable{h:Heap}
theorem y32{u:HO}(ok:HOk P w H h)(e:Rd H a u):ObjOk P w H h a u:=e.ok ok
theorem q9a{kvs:List (Key×V)}(ok:HOk P w H h)(e:Rd H a (.dK kvs)):kvs.length<=sizeLine/\(a==sysModules)=false/\∃vs,KV kvs vs/\h.DictOf (mixKind P w) a vs:=
 show ObjOk P w H h a (.dK kvs)from y32 ok e
theorem y33{kvs:List (Key×V)}(ok:HOk P w H h)(e:H a=some (.dK kvs)):kvs.length<=sizeLine/\(a==sysModules)=false/\∃vs,KV kvs vs/\h.DictOf (mixKind P w) a vs:=q9a ok (.inl e)
theorem IsTup.seq{h:Heap}{its:List Value}(p:IsTup h a its.toArray):∃o n,h.get? a=some o/\o.cls=.type "tuple" /\ o.data=.seq its.toArray n:=by
 obtain⟨o,h1,h2,n,h3⟩:=p;exact⟨o,n,h1,h2,h3⟩
mutual
theorem KRep.is(ok:HOk P w H h):∀(k:Kx){x:V}{v:Value},KRep H k x->RelV x v->KIs h k v
 |.non,x,v,e,r=>by cases(show x=.non from e);exact r
 |.bl b,x,v,e,r=>by cases(show x=.bl b from e);exact r
 |.int b,x,v,e,r=>by cases(show x=.int b from e);exact r
 |.str b,x,v,e,r=>by cases(show x=.str b from e);exact r
 |.tup ks,x,v,e,r=>by
  obtain⟨a,xs,rfl,q,rs⟩:=e;cases(show v=Value.ref a from r);obtain⟨_,its,rv,p,_⟩:=(show ObjOk P w H h a (.tup xs)from Rd.ok q ok);obtain⟨o,n,h1,h2,h3⟩:=IsTup.seq p;exact⟨a,o,its.toArray,n,rfl,h1,h2,h3,by simpa using KReps.are ok ks rs rv⟩
theorem KReps.are(ok:HOk P w H h):∀(ks:List Kx){xs:List V}{vs:List Value},KReps H ks xs->Vals xs vs->KAre h ks vs
 |[],xs,vs,e,r=>by
  cases(show xs=[]from e);cases r;rfl
 |k::ks,xs,vs,e,r=>by
  obtain⟨x,r0,rfl,h1,h2⟩:=e;cases r with
  |cons q t=>exact⟨_,_,rfl,KRep.is ok k h1 q,KReps.are ok ks h2 t⟩
end
theorem q9b{k:Kx}(ok:HOk P w H h)(e:KRep H k (.ref a)/\Conf k sh/\k.depth<=7):(treeKind P w sh).is h k a:=⟨KRep.is ok k e.1 rfl,e.2⟩
theorem q9c(ok:HOk P w H h)(e:Rd H a (.dT sh kvs kas)):kvs.length<=sizeLine/\(a==sysModules)=false /\
  ∃xs,KT sh H kvs xs/\xs.map (·.2.1)=kas/\h.DictOfH (treeKind P w sh) a xs:=by
 obtain⟨z,y,xs,r,ka,o,es,ep,h1,h2,h3,h4,h5⟩:=(show ObjOk P w H h a (.dT sh kvs kas)from y32 ok e);refine⟨z,y,xs,r,ka,o,es,ep,h1,h2,h3,h4,fun x hx=>?_,h5⟩
 have all:∀{l:List (Kx×V)}{m:List (Kx×Addr×Value)},KT sh H l m->∀x∈m,(treeKind P w sh).is h x.1 x.2.1:=by
  intro l m q
  induction q with
  |nil=>intro x hx;exact nomatch hx
  | @cons p q ps qs hq t ih=>
   intro x hx;rcases w0h.mp hx with e|hx
   ·subst e;exact q9b ok (by rw[<- hq.1];exact hq.2.1)
   ·exact ih x hx
 exact all r x hx
theorem z37(ok:HOk P w H h)(e:H a=some (.dT sh kvs kas)):kvs.length<=sizeLine/\(a==sysModules)=false /\
  ∃xs,KT sh H kvs xs/\xs.map (·.2.1)=kas/\h.DictOfH (treeKind P w sh) a xs:=q9c ok (.inl e)
end
def DGet(H:Hp)(a:Addr)(y:V)(r:Option V):Prop:=
 (∃kvs k,Rd H a (.dK kvs)/\y=kV k/\r=valV kvs k)\/∃sh kvs kas k b,Rd H a (.dT sh kvs kas)/\y=.ref b/\(KRep H k (.ref b)/\Conf k sh/\k.depth<=7)/\r=valV kvs k
def DPut(H:Hp)(a:Addr)(y v:V)(H':Hp):Prop:=
 (∃kvs k,H a=some (.dK kvs)/\y=kV k/\kvs.length<sizeLine/\H'=upd H a (.dK (putK kvs k v))) \/
 ∃sh kvs kas k b,H a=some (.dT sh kvs kas)/\y=.ref b/\(KRep H k (.ref b)/\Conf k sh/\k.depth<=7)/\kvs.length<sizeLine/\H'=upd H a (.dT sh (putK kvs k v) (putAd kvs kas k b))
theorem DGet.k{kvs:List (Key×V)}{k:Key}(e:H a=some (.dK kvs)):DGet H a (kV k) (valV kvs k):=.inl ⟨kvs,k,.inl e,rfl,rfl⟩
theorem DGet.t{k:Kx}(e:Rd H a (.dT sh kvs kas))(eb:KRep H k (.ref b)/\Conf k sh/\k.depth<=7):DGet H a (.ref b) (valV kvs k):=.inr ⟨sh,kvs,kas,k,b,e,rfl,eb,rfl⟩
theorem DPut.k{kvs:List (Key×V)}{k:Key}(e:H a=some (.dK kvs))(hl:kvs.length<sizeLine):DPut H a (kV k) v (upd H a (.dK (putK kvs k v))):=.inl ⟨kvs,k,e,rfl,hl,rfl⟩
theorem DPut.t{k:Kx}(e:H a=some (.dT sh kvs kas))(eb:KRep H k (.ref b)/\Conf k sh/\k.depth<=7)(hl:kvs.length<sizeLine):
  DPut H a (.ref b) v (upd H a (.dT sh (putK kvs k v) (putAd kvs kas k b))):=.inr ⟨sh,kvs,kas,k,b,e,rfl,eb,hl,rfl⟩
section
variable{r:Value}{o:Option V}
theorem Inv.big(I:Inv X pins σ H s):sysModules<s.heap.objs.size:=by
 have h:mainGlobals<s.heap.objs.size:=(I.mod.glob.keeps I.bk).lt;exact Nat.lt_trans (by decide) h
theorem q8l(hu:A.units+20<cLine):(treeKind P w sh).room A.in1:=by
 show A.in1.units+8<cLine;rw[Around.in1_units];omega
theorem x8i{Q:Value->Shared->Prop}(hu:A.units+20<cLine)(I:Inv X pins σ H s)(g:DGet H a y (some v))(ry:RelV y u)(h:∀w' s',Inv X pins σ H s'->RelV v w'->Q w' s'):
  wpAny (model X.prog X.w) A (getItem (.ref a) u) Q E s:=by
 rcases g with⟨kvs,k,e,ey,l⟩|⟨sh,kvs,kas,k,b,e,ey,eb,l⟩
 ·subst ey;obtain⟨z,hd,vs,rel,dd⟩:=q9a I.hok e;obtain⟨w',hw,rw'⟩:=RelO.some_of (v:=v) (o:=valueAt vs k) (by rw[l];exact rel.val k);exact wpAny_getItem_of (x1v ry) dd.mapOf hw (h w' _ (I.tok _) rw')
 ·subst ey;cases(show u=Value.ref b from ry);obtain⟨z,hd,xs,rel,_,dd⟩:=q9c I.hok e;obtain⟨w',hw,rw'⟩:=RelO.some_of (v:=v) (o:=(atKey xs k).map (·.2)) (by rw[l];exact rel.val k);obtain⟨p,hp,hp2⟩:=w0d.mp hw;refine wpAny_getItem_heap (q8l hu) (q9b I.hok eb) dd hp ?_;rw[hp2];exact h w' _ (I.tok _) rw'
theorem y6k{Q:Value->Shared->Prop}(hu:A.units+20<cLine)(I:Inv X pins σ H s)(g:DGet H a y o)(ry:RelV y u)(h:∀s',Inv X pins σ H s'->Q (.bool (!o.isSome)) s'):
  wpAny (model X.prog X.w) A (compareOp .NotIn u (.ref a)) Q E s:=by
 rcases g with⟨kvs,k,e,ey,l⟩|⟨sh,kvs,kas,k,b,e,ey,eb,l⟩
 ·subst ey;obtain⟨z,hd,vs,rel,dd⟩:=q9a I.hok e;refine wpAny_notIn_of (x1v ry) hd dd.mapOf ?_;rw[<- (rel.val k).isSome_eq,<- l];exact h _ (I.tok _)
 ·subst ey;cases(show u=Value.ref b from ry);obtain⟨z,hd,xs,rel,_,dd⟩:=q9c I.hok e;refine wpAny_notIn_heap (q8l hu) (q9b I.hok eb) hd dd ?_;have q:=(rel.val k).isSome_eq;rw[w3d]at q;rw[<- q,<- l];exact h _ (I.tok _)
theorem q93{h':Heap}{t':Nat}{ob:HO}(I:Inv X pins σ H s)(mu:Mut (H a))(hs:Heap.SameBut a s.heap h')(he:∃q,h'.get? a=some q)(new:ObjOk X.prog X.w (upd H a ob) h' a ob):
  Inv X pins σ (upd H a ob) {s with heap:=h',toks:=t'}:=
 I.write (x:=a) (e:=a) mu (.inl rfl) (fun b q hb z=>(hs.2 b hb).trans z) he new
theorem x8j{h':Heap}{kvs:List (Key×V)}{vs:List (Key×Value)}(z:kvs.length<=sizeLine)(hd:(a==sysModules)=false)(rel:KV kvs vs)(dd:h'.DictOf (mixKind P w) a vs):
  ObjOk P w H' h' a (.dK kvs):=⟨z,hd,vs,rel,dd⟩
theorem x8k{Q:Unit->Shared->Prop}(hu:A.units+20<cLine)(I:Inv X pins σ H s)(g:DPut H a y v H')(ry:RelV y u)(rv:RelV v r)(h:∀s',Inv X pins σ H' s'->Q () s'):
  wpAny (model X.prog X.w) A (setItem (.ref a) u r) Q E s:=by
 rcases g with⟨kvs,k,e,ey,l,eH⟩|⟨sh,kvs,kas,k,b,e,ey,eb,l,eH⟩
 ·subst ey eH;obtain⟨z,hd,vs,rel,dd⟩:=y33 I.hok e;have hz:vs.length<=sizeLine:=by rw[<- rel.length];exact z
  have hl:(putK kvs k v).length<=sizeLine:=by have:=q79 kvs k v;omega
  refine wpAny_setItem_pairs (hsz:=hz) (x1v ry) dd fun h' dd' hs=>h _ ?_
  have he:∃q,h'.get? a=some q:=let ⟨q,_,_,hq,_⟩:=dd';⟨q,hq⟩;exact q93 I (by rw[e];exact True.intro) hs he (x8j hl hd (rel.put k rv) dd')
 ·subst ey eH;cases(show u=Value.ref b from ry);obtain⟨z,hd,xs,rel,ka,dd⟩:=z37 I.hok e;have hz:xs.length<=sizeLine:=by rw[<- Paired.length rel];exact z
  have hl:(putK kvs k v).length<=sizeLine:=by have:=q79 kvs k v;omega
  refine wpAny_setItem_heap (hsz:=hz) (q8l hu) (q9b I.hok eb) dd fun h' dd' hs=>h _ ?_
  obtain⟨q,es,ep,hq,h2,h3,h4,_,h5⟩:=dd';refine q93 I (by rw[e];exact True.intro) hs ⟨q,hq⟩ ⟨hl,hd,_,(rel.put k eb rv).keeps fun c u ys ec=>?_,rel.putAd ka k,q,es,ep,hq,h2,h3,h4,h5⟩
  rw[q0b (q0o ec e (fun z=>by subst z;exact ys))]
  exact ec
end
section
variable{kvs:List (Key×V)}{k:Key}
theorem z38{Q:Value->Shared->Prop}(I:Inv X pins σ H s)(e:Rd H a (.dK kvs))(h:∀t s',Inv X pins σ H s'->Q (.int kvs.length t) s'):wpAny (model X.prog X.w) A (call (.builtin "len") [.ref a]) Q E s:=by
 obtain⟨z,hd,vs,rel,dd⟩:=q9a I.hok e;refine call_len_dict hd dd (by rw[<- rel.length];rw[sizeLine_eq]at z;omega) ?_;rw[<- rel.length];exact h _ _ (I.tok _)
end
def NoSl(i:Expr):Prop:=∀ov iv,subscripted i false ov iv=operate [ov,iv] (getItem ov iv)
theorem y6l{prog:Program}{env:Env}{value slice:Expr}{T id:String}{Q:Value->Shared->Prop}
  (hl:typeLookup (.type T) "__getitem__"=pure (some (.builtin id)))(hs:NoSl slice)
  (h:wpAny (model prog w) A (eval value env) (fun o s₁=>wpAny (model prog w) A (eval slice env) (fun i s₂=>s₂.TypeIs o T/\wpAny (model prog w) A (getItem o i) Q E s₂) E s₁) E s):
  wpAny (model prog w) A (eval (.Subscript value slice pos) env) Q E s:=by
 refine Subscript_ (wpAny_mono h (fun o s₁ h₁=>wpAny_mono h₁ (fun i s₂ h₂=>?_) fun _ _ x=>x) fun _ _ x=>x)
 obtain⟨hT,h₂⟩:=h₂;unfold subscriptTail;refine wpAny_bind ?_;rw[getitemInPython_of_ne hT.not_modules];refine wpAny_bind (wpAny_specialOf hT hl ?_)
 have fin:wpAny (model prog w) A (subscripted slice false o i) (fun r s₃=>wpAny (model prog w) A (letTemporaryGo value o r >>= fun _=>pure r) Q E s₃) E s₂:=by
  rw[hs o i];exact wpAny_operating (wpAny_mono h₂ (fun r s₃ h₃=>wpAny_bind (wpAny_letTemporaryGo (wpAny_pure h₃))) fun _ _ x=>x)
 first
  |exact wpAny_pure (wpAny_bind fin)
  |exact wpAny_bind (wpAny_pure (wpAny_bind fin))
  |exact wpAny_bind fin
theorem x33{o:Option V}(I:Inv X pins σ H s)(g:DGet H a y o):s.TypeIs (.ref a) "dict":=by
 rcases g with⟨kvs,k,e,_,_⟩|⟨sh,kvs,kas,k,b,e,_,_,_⟩
 ·obtain⟨_,_,vs,_,dd⟩:=q9a I.hok e;exact dd.typeIs
 ·obtain⟨_,_,xs,_,_,dd⟩:=q9c I.hok e;exact dd.typeIs
def tDGet(td ty:TE):TE:=fun σ H Q=>td σ H fun x H1=>ty σ H1 fun y H2=>∃a v,x=.ref a/\DGet H2 a y (some v)/\Q v H2
def tDNotIn(ty td:TE):TE:=fun σ H Q=>ty σ H fun y H1=>td σ H1 fun x H2=>∃a o,x=.ref a/\DGet H2 a y o/\Q (.bl (!o.isSome)) H2
def sDPut(td ty tv:TE):TS:=fun D σ H=>tv σ H fun v H1=>td σ H1 fun x H2=>ty σ H2 fun y H3=>∃a H4,x=.ref a/\DPut H3 a y v H4/\D.nx σ H4
section
variable{o i e value:Expr}{pos' tpos:Pos}{td ty tv:TE}
theorem x4t(hu:X.A.units+20<cLine)(ho:PE X o td)(hi:PE X i ty)(hs:NoSl i):PE X (.Subscript o i pos) (tDGet td ty):=by
 intro pins s σ H Q I h;refine y6l PySem.F.slot_dict_getitem.lookup hs (thn (ho pins s σ H _ I h) fun u s1 ⟨x,H1,I1,rx,q1⟩=>thn (hi pins s1 σ H1 _ I1 q1) fun iv s2 ⟨y,H2,I2,ry,a,v,ex,g,q2⟩=>?_)
 subst ex;obtain rfl:u=Value.ref a:=rx;exact⟨x33 I2 g,x8i hu I2 g ry fun w' s3 I3 rw'=>⟨v,H2,I3,rw',q2⟩⟩
theorem x05(hu:X.A.units+20<cLine)(hi:PE X i ty)(ho:PE X o td):PC X .NotIn i o (tDNotIn ty td):=by
 intro pins s σ H Q I h;refine thn (hi pins s σ H _ I h) fun iv s1 ⟨y,H1,I1,ry,q1⟩=>thn (ho pins s1 σ H1 _ I1 q1) fun u s2 ⟨x,H2,I2,rx,a,ov,ex,g,q2⟩=>?_
 subst ex;obtain rfl:u=Value.ref a:=rx;exact y6k hu I2 g ry fun s3 I3=>⟨.bl (!ov.isSome),H2,I3,rfl,q2⟩
theorem x4u(hu:X.A.units+20<cLine)(ho:PE X o td)(hi:PE X i ty)(hv:PE X value tv)(hs:swapsWith value (some (.Subscript o i pos')) pos.line X.env=pure false):
  PS X (.Assign [.Subscript o i pos'] value pos) (sDPut td ty tv):=by
 intro pins s σ H D I h;refine wpAny_Assign_Subscript (thn (hv pins s σ H _ I h) fun r s1 ⟨v,H1,I1,rv,q1⟩=>thn (ho pins s1 σ H1 _ I1 q1) fun u s2 ⟨x,H2,I2,rx,q2⟩=>thn (hi pins s2 σ H2 _ I2 q2) fun iv s3 ⟨y,H3,I3,ry,a,H4,ex,g,q3⟩=>?_) hs
 subst ex;obtain rfl:u=Value.ref a:=rx;exact x8k hu I3 g ry rv fun s4 I4=>⟨σ,H4,I4,q3⟩
end
theorem y1j(h:Heap)(hb:sysModules<h.objs.size):ObjOk P w H (h.push {cls:=.type "dict", data:=.dict #[]}) h.objs.size (.dK []):=
 ⟨w1k _,beq_eq_false_iff_ne.mpr (Ne.symm (w0x hb)),[],.nil,Heap.DictOf.new h⟩
theorem y1k(h:Heap)(hb:sysModules<h.objs.size):ObjOk P w H (h.push {cls:=.type "dict", data:=.dict #[]}) h.objs.size (.dT sh [] []):=
 ⟨w1k _,beq_eq_false_iff_ne.mpr (Ne.symm (w0x hb)),[],.nil,rfl,_,#[],0,Heap.get?_push_size _ rfl,⟨rfl,rfl,rfl⟩,rfl,rfl,List.nodup_nil⟩
def tDNewT(sh:Sh):TE:=fun _ H Q=>∀p,H p=none->Q (.ref p) (upd H p (.dT sh [] []))
theorem y1l{sh:Sh}:PE X (.Dict [] [] pos) (tDNewT sh):=fun pins s σ H Q I h=>
 wpAny_Dict_empty ⟨.ref s.heap.objs.size,_,I.laid (a:=s.heap.objs.size) (o:=.dT sh [] []) (t':=s.toks) (fun _ _ q=>Heap.get?_push_of_some _ q) (w0j _) (y1k s.heap I.big),rfl,h _ (I.hok.fresh (w0j _))⟩
section
variable{o:Obj}{kvs:List (Key×V)}
theorem Inv.swapAt{u u':HO}(I:Inv X pins σ H s)(e:H a=some u)(ht:¬TupLike u)(hb:∀ps,u≠.tbl ps)(hf:∀o v,X.H₀ a≠some (.frz o v))(hw:∀x,u≠.own x)(ok:HOk X.prog X.w H s.heap->ObjOk X.prog X.w (upd H a u') s.heap a u'):Inv X pins σ (upd H a u') s:=by
 have up:∀b,H b=none->upd H a u' b=none:=fun b n=>by
  rw[q0b (fun z=>by subst z;rw[e]at n;cases n)];exact n
 refine⟨I.ok,I.os,I.bare,⟨I.base.keep,I.base.slot,fun b ob q n hx=>up b (I.base.free b ob q n hx),I.base.there,fun b xs q=>?_,fun b ob v q=>?_,fun b ps q=>?_⟩,I.loc,I.cell,up _ I.free,fun x c q=>up c (I.freeC x c q),fun p hp=>?_,fun b v q=>?_,I.len⟩
 ·have z:=I.base.tups b xs q
  by_cases hb':b=a
  ·subst hb';rw[e]at z;exact absurd (show TupLike u by rw[Option.some.inj z];exact True.intro) ht
  ·rw[q0b hb'];exact z
 ·by_cases hb':b=a
  ·subst hb';exact absurd q (hf ob v)
  ·rw[q0b hb'];exact I.base.frzs b ob v q
 ·obtain⟨more,z⟩:=I.base.tbls b ps q
  by_cases hb':b=a
  ·subst hb';rw[e]at z;exact absurd (Option.some.inj z) (hb _)
  ·exact⟨more,by rw[q0b hb'];exact z⟩
 ·obtain⟨q1,q2,q3⟩:=I.pin p hp;exact⟨q1,up _ q2,q3⟩
 ·by_cases hb':b=a
  ·subst hb';rw[q0f]at q;cases q;exact ok I.hok
  ·rw[q0b hb']at q;refine(I.hok b v q).stay (fun _ _ _ z=>z) (fun c z=>?_) fun c xs tl z=>?_
   ·rw[q0b (fun y=>by subst y;rw[e]at z;exact hw _ (Option.some.inj z))];exact z
   ·rw[q0b (fun y=>by subst y;rw[e]at z;exact ht ((Option.some.inj z) ▸ tl))];exact z
end
section
variable{o:Obj}{xs:List V}
theorem Inv.freezeL(I:Inv X pins σ H s)(e:H a=some (.lst xs))(q:s.heap.get? a=some o):Inv X pins σ (upd H a (.frz o (.lst xs))) s:=
 I.swapAt e (fun z=>z) (fun _ z=>nomatch z) (fun ob v z=>by have:=I.base.frzs a ob v z;rw[e]at this;cases this) (fun _ z=>nomatch z) fun ok=>⟨q,(ok a _ e).stay (fun _ _ _ z=>z) (fun c z=>by rw[q0b (q0o z e (fun y=>nomatch y))];exact z) fun c xs tl z=>by rw[q0b (q0o z e (fun y=>by subst y;exact tl))];exact z⟩
theorem Inv.meltL(I:Inv X pins σ H s)(e:H a=some (.frz o (.lst xs)))(hf:∀o v,X.H₀ a≠some (.frz o v)):Inv X pins σ (upd H a (.lst xs)) s:=
 I.swapAt e (fun z=>z) (fun _ z=>nomatch z) hf (fun _ z=>nomatch z) fun ok=>(ok a _ e).2.stay (fun _ _ _ z=>z) (fun c z=>by rw[q0b (q0o z e (fun y=>nomatch y))];exact z) fun c xs tl z=>by rw[q0b (q0o z e (fun y=>by subst y;exact tl))];exact z
end
theorem q94{l:Expr}{tl:TE}(hl:PE X l tl):PE X l (fun σ H Q=>tl σ H fun v H1=>∃a xs,v=.ref a/\H1 a=some (.lst xs)/\∀o,Q v (upd H1 a (.frz o (.lst xs)))):=by
 intro pins s σ H Q I h;refine thn (hl pins s σ H _ I h) fun v s1 ⟨x,H1,I1,r1,q1⟩=>?_
 obtain⟨a,xs,rfl,e,q⟩:=q1;obtain⟨its,_,⟨o,n,g,_⟩,_⟩:=I1.list (SqL.of e);exact⟨.ref a,_,I1.freezeL e g,r1,q o⟩
theorem x2x{l:Expr}{tl:TE}(hl:PE X l tl):PE X l (fun σ H Q=>tl σ H fun v H1=>∃a o xs,v=.ref a/\H1 a=some (.frz o (.lst xs))/\(∀o v,X.H₀ a≠some (.frz o v))/\Q v (upd H1 a (.lst xs))):=by
 intro pins s σ H Q I h;refine thn (hl pins s σ H _ I h) fun v s1 ⟨x,H1,I1,r1,q1⟩=>?_
 obtain⟨a,o,xs,rfl,e,hf,q⟩:=q1;exact⟨.ref a,_,I1.meltL e hf,r1,q⟩
end L2
namespace D
open PySem L2 PySem.Spec PyProof.Rows
open PyProof.Rows (envOfC)
section
variable{P:Program}{w:World}{K:Fg}{mg:Str->Option Value}{base:Heap}
theorem conZ{x:Str}{st:Stmt}{N ps:List Str}{k:Nat}{F:List W->FR}(A:At K mg x st ps)(sc:FnScope N ps (defScope st))(len:∀ws,F ws≠.no->ws.length=ps.length)
  (hb:∀ws,F ws≠.no->∀(f:Addr)(cdv:Value)(A:Around)(outer:List Env)(s:Shared)(H:Hp)(E:XK)(Z:Zt),Room k (A.deeper (envOfC x (defScope st) s.heap.objs.size f cdv))->(Z.H=H/\Z.io=[]) ->
   ∃d,DSs Z (cxOf (CX1 P w) P w K mg base N x (defScope st) f cdv A outer s H E) (fun _=>E) (defBody st) d/\(d (init N.length ws)).fn=F ws):Cal P w K mg base (k+1) x ps (spF K F):=by
 refine A.cal sc (fun vs H Q E h=>?_) (fun f cdv A outer s H vs Q E hr h=>?_)
 ·obtain⟨G,ws,hn,r⟩:=q7d h;rw[r.length];exact len ws hn
 ·obtain⟨G,ws,sg,rp,h⟩:=h;have hn:F ws≠.no:=fun z=>by rw[z]at h;exact h
  obtain⟨d,hd,he⟩:=hb ws hn f cdv A outer s H E ⟨H,G,[]⟩ hr ⟨rfl,rfl⟩;exact⟨_,hd,G,init N.length ws,q5p sg rp,q7s he h⟩
end
section
variable{X:Cx}{Z:Zt}{EE:L2.St->XK}{a b c e:Expr}{es:List Expr}{da db d:Den W}{dF dA:Den (List W)}{x:Str}{pos p tpos:Pos}
def isT:S->Bool
 |.thr _ _ _=>true
 |.nest _=>true
 |.x (.acc _)=>true
 |.x (.thro _ _ _)=>true
 |.x (.tn _ _)=>true
 |.x (.pt _ _ _)=>true
 |.x (.fz _)=>true
 |.x (.fzo _)=>true
 |_=>false
theorem Rel.mutL{K:Fg}{G H:Hp}{σ:L2.St}{e:List S}{l:Addr}{o:Obj}{ys:List V}{u:HO}(r:Rel K Z G σ H e)(hl:H l=some (.frz o (.lst ys)))(hg:G l=none)(hz:Z.H l=none)(hT:∀s∈e,isT s=false):Rel K Z G σ (upd H l u) e:=by
 refine⟨fun c u z=>?_,fun j s z=>?_,r.len,r.dis,fun c u z n=>?_,fun c z=>?_,r.gen⟩
 ·rw[q0b (q0i z hg)];exact r.sub c u z
 ·have y:=r.slot j s z;cases s with
  |no=>trivial
  |fr w=>exact y
  |own b2 w2=>
   obtain⟨c,ys,y1,y2,y3,y4,y5⟩:=y;refine⟨c,ys,y1,?_,y3,y4,y5⟩;rw[q0b (q0o y2 hl (fun z=>nomatch z))];exact y2
  |dic kvs=>
   obtain⟨c,y1,y2,y3,y4⟩:=y;refine⟨c,y1,?_,y3,y4⟩;rw[q0b (q0o y2 hl (q2l rfl))];exact y2
  |thr us ws vs=>have:=hT _ (w0m z);cases this
  |nest _=>have:=hT _ (w0m z);cases this
  |x k=>
   have hk:=hT _ (w0m z);cases k with
   |old _=>exact y
   |new _=>exact y
   |_=>cases hk
  |dw sh ks ws=>exact DwOk.move y (.refl _) fun l o ys k1 k2 k3=>⟨by rw[q0b (q0o k1 hl (q18 rfl))];exact k1,k2,k3⟩
 ·rw[q0b (q0i z hz)];exact r.ent c u z n
 ·by_cases hc:c=l
  ·subst hc;rw[q0f];exact fun z=>nomatch z
  ·rw[q0b hc];exact r.ion c z
end
variable{X:Cx}{e:Expr}{EE:L2.St->XK}{K:Fg}{Z:Zt}
mutual
def flatW:W->Bool
 |.non=>true
 |.bl _=>true
 |.int _=>true
 |.str _=>true
 |.tup ws=>flatWs ws
 |_=>false
def flatWs:List W->Bool
 |[]=>true
 |w::ws=>flatW w&&flatWs ws
end
def keepT:HO->Bool
 |.tup _=>true
 |.frz _ (.tup _)=>true
 |_=>false
theorem y1m{sh:Sh}{kvs:List (Kx×V)}{kas:List Addr}:keepT (dwO sh kvs kas)=false:=by unfold dwO;split<;>rfl
def lentG(Z:Zt)(G H:Hp):Hp:=fun a=>match Z.H a with
 |some _=>G a
 |none=>H a
section
variable{d:Den (List W)}{G H:Hp}{σ:L2.St}{e0:List S}
theorem Rel.lent(r:Rel K Z G σ H e0)(hio:Z.io=[]):Rel K ⟨H,lentG Z G H,[]⟩ (lentG Z G H) σ H (hideS e0):=by
 have sg:Same G (lentG Z G H):=fun a o h=>by
  unfold lentG;cases q:Z.H a with
  |none=>exact r.sub a o h
  |some _=>exact h
 have fresh:∀a o,Z.H a=none->H a=some o->lentG Z G H a=some o:=fun a o h1 h2=>by
  unfold lentG;rw[h1];exact h2
 have g:∀(i:Nat)(s:S),(hideS e0)[i]?=some s->∃s0,e0[i]?=some s0/\s=hide1 s0:=fun i s h=>by
  unfold hideS at h;rw[w0i]at h;obtain⟨s0,h1,h2⟩:=w0d.mp h;exact⟨s0,h1,h2.symm⟩
 refine⟨fun a o h=>?_,fun i s h=>?_,by unfold hideS;rw[w0a];exact r.len,fun i j b b' ws ws' a h1 _ _ _=>?_,fun a o h _=>h,(fun a h=>nomatch h),fun a _=>rfl⟩
 ·unfold lentG at h;cases q:Z.H a with
  |none=>rw[q]at h;exact h
  |some _=>rw[q]at h;exact r.sub a o h
 ·obtain⟨s0,h0,rfl⟩:=g i s h;have q:=r.slot i s0 h0;cases s0 with
  |no=>trivial
  |fr w=>
   obtain⟨u,q1,q2⟩:=q;exact⟨u,q1,Rep.mono sg w q2⟩
  |own b ws=>
   obtain⟨a,xs,q1,q2,q3,q4,q5⟩:=q
   have hz:Z.H a=none:=by
    cases b with
    |none=>exact q4
    |some j=>have q4:a∈Z.io:=w0m q4;rw[hio]at q4;cases q4
   exact⟨.ref a,q1,a,xs,rfl,SqL.of (fresh _ _ hz q2),Reps.mono sg ws q5⟩
  |dic kvs=>
   obtain⟨a,q1,q2,_,q4⟩:=q;exact⟨.ref a,q1,a,rfl,fresh _ _ q4 q2⟩
  |thr us ws vs=>
   obtain⟨t,l,o,xs,ys,zs,q1,q2,q3,_,q5,q6,q7,q8⟩:=q;exact⟨.ref t,q1,t,_,rfl,SqT.of (sg _ _ q2),(Reps.mono sg us q6).append ⟨.ref l,zs,rfl,⟨l,ys,rfl,.inl (.inr ⟨o,fresh _ _ q5 q3⟩),Reps.mono sg ws q7⟩,Reps.mono sg vs q8⟩⟩
  |nest wss=>
   obtain⟨a,ls,q1,q2,_,q4⟩:=q;exact⟨.ref a,q1,a,_,rfl,SqL.of (sg _ _ q2),q4.reps sg fun l o ys z=>fresh _ _ z.2.2 z.1⟩
  |x k=>
   cases k with
   |old w=>obtain⟨u,q1,_,q2⟩:=q;exact⟨u,q1,Rep.mono sg w q2⟩
   |new w=>obtain⟨u,q1,q2⟩:=q;exact⟨u,q1,Rep.mono sg w (RepN.rep w q2)⟩
   |acc ws=>obtain⟨a,o,xs,q1,q2,q3⟩:=q;exact⟨.ref a,q1,a,xs,rfl,.inl (.inr ⟨o,fresh _ _ q2.2.2 q2.1⟩),Reps.mono sg ws (RepNs.reps ws q3)⟩
   |thro us ws vs=>
    obtain⟨t,l,o,xs,ys,zs,q1,_,q2,q3,_,q6,q7,q8⟩:=q;exact⟨.ref t,q1,t,_,rfl,SqT.of (sg _ _ q2),(Reps.mono sg us q6).append ⟨.ref l,zs,rfl,⟨l,ys,rfl,.inl (.inr ⟨o,fresh _ _ q3.2.2 q3.1⟩),Reps.mono sg ws q7⟩,Reps.mono sg vs q8⟩⟩
   |tn us wss=>
    obtain⟨t,l,o,ls,xs,q1,q2,q3,_,q5,q6⟩:=q;exact⟨.ref t,q1,t,_,rfl,SqT.of (sg _ _ q2),(Reps.mono sg us q5).append ⟨.ref l,[],rfl,⟨l,_,rfl,.inl (.inr ⟨o,fresh _ _ q3.2.2 q3.1⟩),q6.reps sg fun l o ys z=>fresh _ _ z.2.2 z.1⟩,rfl⟩⟩
   |pt _ _ _=>trivial
   |fz w=>obtain⟨u,as,q1,_,q3⟩:=q;exact⟨u,q1,RepF.rep sg (fun l o ys z=>fresh _ _ z.2.2 z.1) w q3⟩
   |fzo w=>obtain⟨u,as,q1,_,_,q3⟩:=q;exact⟨u,q1,RepF.rep sg (fun l o ys z=>fresh _ _ z.2.2 z.1) w q3⟩
  |dw sh ks ws=>
   obtain⟨a,kvs,kas,q1,q2,_,q4,q5,q6,q7⟩:=q;exact⟨.ref a,q1,a,kvs,kas,rfl,fresh _ _ q4 q2,q5,q6.mono sg,Reps.mono sg ws q7.reps⟩
 ·obtain⟨s0,_,h2⟩:=g i _ h1;cases s0 with
  |x k=>cases k<;>cases h2
  |_=>cases h2
end
section
variable{e e':List S}{ws us vs:List W}{v:Value}
theorem x8l{wss:List (List W)}:hide1 (.nest wss)=.fr (.lst (wss.map W.lst)):=rfl
theorem y1n:hide1 (.thr us ws vs)=.fr (.tup (us++.lst ws::vs)):=rfl
end
end D
namespace L2
open PySem PySem.Spec PyProof.Rows
section
variable{X:Cx}
def rSetM(X:Cx):V->V->V->Hp->(Hp->Prop)->Prop:=fun o i v H Q=>∃l ob ys,o=.ref l/\H l=some (.frz ob (.lst ys))/\(∀o v,X.H₀ l≠some (.frz o v))/\rSetL o i v (upd H l (.lst ys)) Q
theorem y1o:PSet X (rSetM X):=by
 intro pins s σ H o i v ov iv u Q I ro ri rv hq;obtain⟨l,ob,ys,rfl,e,hf,q⟩:=hq;exact x19 pins s σ _ _ i v ov iv u Q (I.meltL e hf) ro ri rv q
end
end L2
namespace D
open PySem L2 PySem.Spec PyProof.Rows
section
variable{K:Fg}{Z:Zt}{G H:Hp}{ls:List Addr}{wss:List (List W)}
theorem NestIn.mem:∀{ls:List Addr}{wss:List (List W)},NestIn K Z G H ls wss->∀l∈ls,∃o ys,FzAt Z G H l o ys
 |[],_,_,_,hl=>nomatch hl
 |l::ls,ws::wss,⟨⟨o,ys,h1,_⟩,h⟩,c,hc=>by
  rcases w0h.mp hc with rfl|hc
  ·exact⟨o,ys,h1⟩
  ·exact h.mem c hc
 |_::_,[],h,_,_=>h.elim
theorem NestIn.snoc{a:Addr}{ws:List W}(hn:∃o ys,FzAt Z G H a o ys/\Reps K G ws ys):∀{ls:List Addr}{wss:List (List W)},NestIn K Z G H ls wss->NestIn K Z G H (ls++[a]) (wss++[ws])
 |[],[],_=>⟨hn,trivial⟩
 |_::_,_::_,⟨h1,h⟩=>⟨h1,h.snoc hn⟩
 |[],_::_,h=>h.elim
 |_::_,[],h=>h.elim
theorem NestIn.len:∀{ls:List Addr}{wss:List (List W)},NestIn K Z G H ls wss->ls.length=wss.length
 |[],[],_=>rfl
 |_::_,_::_,⟨_,h⟩=>by rw[w0z,w0z,h.len]
 |[],_::_,h=>h.elim
 |_::_,[],h=>h.elim
theorem NestIn.at:∀{ls:List Addr}{wss:List (List W)}{j:Nat}{ws:List W},NestIn K Z G H ls wss->wss[j]?=some ws->∃l o ys,ls[j]?=some l/\FzAt Z G H l o ys/\Reps K G ws ys
 |l::ls,_::wss,0,_,⟨⟨o,ys,h1,h2⟩,_⟩,e=>by cases e;exact⟨l,o,ys,rfl,h1,h2⟩
 |_::ls,_::wss,j+1,_,⟨_,h⟩,e=>by
  obtain⟨l,o,ys,h1,h2⟩:=h.at e;exact⟨l,o,ys,h1,h2⟩
 |[],[],_,_,_,e=>by simp at e
 |[],_::_,_,_,h,_=>h.elim
 |_::_,[],_,_,h,_=>h.elim
def LsIn(K:Fg)(G H:Hp):List Addr->List (List W)->Prop
 |[],[]=>True
 |l::ls,ws::wss=>(∃ys,(H l=some (.lst ys)\/∃o,H l=some (.frz o (.lst ys)))/\Reps K G ws ys)/\LsIn K G H ls wss
 |[],_::_=>False
 |_::_,[]=>False
theorem NestIn.toLs{H':Hp}:∀{ls:List Addr}{wss:List (List W)},NestIn K Z G H ls wss->(∀l∈ls,H' l=H l)->LsIn K G H' ls wss
 |[],[],_,_=>trivial
 |l::ls,_::wss,⟨⟨o,ys,h1,h2⟩,h⟩,e=>⟨⟨ys,.inr ⟨o,by rw[e l (by simp)];exact h1.1⟩,h2⟩,h.toLs fun l hl=>e l (by simp[hl])⟩
 |[],_::_,h,_=>h.elim
 |_::_,[],h,_=>h.elim
theorem NestIn.lsSet{a:Addr}{ws':List W}{ys':List V}(rp:Reps K G ws' ys'):∀{ls:List Addr}{wss:List (List W)}{j:Nat},NestIn K Z G H ls wss->ls.Nodup->ls[j]?=some a->LsIn K G (upd H a (.lst ys')) ls (wss.set j ws')
 |l::ls,_::wss,0,⟨_,h⟩,hn,e=>by
  cases e;refine⟨⟨ys',.inl q0f,rp⟩,h.toLs fun c hc=>q0b fun z=>?_⟩
  subst z;exact(w1r.mp hn).1 hc
 |l::ls,_::wss,j+1,⟨⟨o,ys,h1,h2⟩,h⟩,hn,e=>by
  have hj:ls[j]?=some a:=e;refine⟨⟨ys,.inr ⟨o,?_⟩,h2⟩,h.lsSet rp (w1r.mp hn).2 hj⟩;rw[q0b];exact h1.1;rintro rfl;exact(w1r.mp hn).1 (w0m hj)
 |[],[],_,_,_,e=>by simp at e
 |[],_::_,_,h,_,_=>h.elim
 |_::_,[],_,h,_,_=>h.elim
theorem LsIn.some{H:Hp}:∀{ls:List Addr}{wss:List (List W)},LsIn K G H ls wss->∀l∈ls,H l≠none
 |[],_,_,_,hl=>nomatch hl
 |l::ls,_::wss,⟨⟨ys,h1,_⟩,h⟩,c,hc=>by
  rcases w0h.mp hc with rfl|hc
  ·rcases h1 with h1|⟨o,h1⟩<;>rw[h1]<;>exact fun z=>nomatch z
  ·exact h.some c hc
 |_::_,[],h,_,_=>h.elim
theorem LsIn.reps{H G':Hp}(sg:Same G G'):∀{ls:List Addr}{wss:List (List W)},LsIn K G H ls wss->(∀l∈ls,G' l=H l)->Reps K G' (wss.map W.lst) (ls.map V.ref)
 |[],[],_,_=>rfl
 |l::ls,ws::wss,⟨⟨ys,h1,h2⟩,h⟩,e=>by
  refine⟨.ref l,ls.map V.ref,rfl,⟨l,ys,rfl,?_,Reps.mono sg ws h2⟩,h.reps sg fun l hl=>e l (by simp[hl])⟩
  have e0:=e l (by simp);rcases h1 with h1|⟨o,h1⟩
  ·exact SqL.of (by rw[e0,h1])
  ·exact .inl (.inr ⟨o,by rw[e0,h1]⟩)
 |[],_::_,h,_=>h.elim
 |_::_,[],h,_=>h.elim
end
variable{X:Cx}{d:Den (List W)}{G H:Hp}{EE:L2.St->XK}{wss:List (List W)}{e:List S}{ws:List W}{pos:Pos}{K:Fg}{Z:Zt}
def compN(d:Den (List W))(pe:List S):List W->Option (List (List W))
 |[]=>some []
 |w::ws=>match d (.fr w::pe)with
  |.ok y _=>(compN d pe ws).map (y::·)
  |_=>none
def cF(K:Fg)(d:Den (List W)):TE:=fun σ H Q=>∃Z',liftF K Z' (fun _=>E0) d σ H Q
def cFz(K:Fg)(d:Den (List W)):TE:=fun σ H Q=>cF K d σ H fun v H1=>∃a xs,v=.ref a/\H1 a=some (.lst xs)/\∀o,Q v (upd H1 a (.frz o (.lst xs)))
section
variable{G1 H1:Hp}{σ:L2.St}{e1:List S}
theorem x4v{J:It}{xs:List V}{SQ:Hp->Prop}{out:List (List W)}{js:List Nat}{Q:VK}{G0:Hp}(W0:Walk J xs SQ)(r1:Rel K Z G1 σ H1 e1)(s1:Same G0 G1)(rp:Reps K G1 ws xs)(hSQ:∀G' H',Same G1 G'->Same G' H'->SQ H')(hl:ws.length<=16777216)
  (hz:∀p,H1 p=none->p∉Z.io)(hc:compN d (pjS js e1) ws=some out)
  (h:∀G' a ls H',Rel K Z G' σ H' e1->Same G0 G'->H' a=some (.lst (ls.map V.ref))->G' a=none->Z.H a=none->Free σ e1 a->ls.Nodup->NestIn K Z G' H' ls out->Q (.ref a) H'):
  ∀D,H1 D=none->∃W:Nat->Nat->Hp->Prop,(∃m,W 0 m (upd H1 D (.lst [])))/\∀i m H2,W i m H2 ->
   (J.stop i H2/\Q (.ref D) H2)\/(J.go i H2/\∀x H3,J.yld i H2 x H3->gName 0 x (List.replicate 1 none++pj js σ) H3 fun σ4 H4=>Kp (List.replicate 1 none++pj js σ) σ4/\cT K dYes σ4 H4 fun b H5=>
    if b=true then cFz K d σ4 H5 fun y H6=>∃ys,H6 D=some (.lst ys)/\ys.length<sizeLine/\∃m',m'<m/\W (i+1) m' (upd H6 D (.lst (ys++[y])))else ∃m',m'<m/\W (i+1) m' H5):=by
 intro D hD;have hlen:=rp.length
 refine⟨fun i m H2=>m=ws.length-i/\i<=ws.length/\∃G2 ls done rest,Rel K Z G2 σ H2 e1/\Same G1 G2/\H2 D=some (.lst (ls.map V.ref))/\G2 D=none/\ls.Nodup/\NestIn K Z G2 H2 ls done/\ls.length=i/\compN d (pjS js e1) (ws.drop i)=some rest/\done++rest=out,
  ⟨ws.length,by omega,w1k _,G1,[],[],out,r1.grow (Grow.hid r1.sub hD _),.refl _,q0f,r1.sub.free hD,.nil,trivial,rfl,hc,rfl⟩,?_⟩
 rintro i m H2 ⟨rfl,hi,G2,ls,done,rest,r2,s2,hd2,hg2,hnd,hin,hll,hc2,ho⟩;have hfree:Free σ e1 D:=q4m r1 hD;have hzh:Z.H D=none:=q1y r1 hD
 by_cases hlt:i<ws.length
 ·refine .inr ⟨W0.go i H2 (hSQ G2 H2 s2 r2.sub) (by omega),fun x H3 hy=>?_⟩
  obtain⟨rfl,hx⟩:=W0.yld i H2 x H3 (hSQ G2 H2 s2 r2.sub) hy (by omega);obtain⟨w,hw,pw⟩:=rp.getV hx;rw[q7b hw]at hc2;refine⟨Kp.one,⟨H3,G2,[]⟩,G2,.fr w::pjS js e1,r2.block js (Rep.mono s2 w pw),?_⟩;intro G3 H5 r3 s3;rw[if_pos rfl];refine⟨⟨H3,G2,[]⟩,G3,.fr w::pjS js e1,r3,?_⟩;unfold compN at hc2;cases qd:d (.fr w::pjS js e1)with
  |no=>rw[qd]at hc2;cases hc2
  |ex _ _=>rw[qd]at hc2;cases hc2
  |ok y e3=>
   rw[qd]at hc2;intro G4 a xs H6 r4 s4 q1 q2 q3 q4 p4;have q3:H3 a=none:=q3;refine⟨a,xs,rfl,q1,fun o=>?_⟩
   have g4:=r4.toGrow (s3.trans s4);obtain⟨rest',hr,rfl⟩:=w0d.mp hc2;have hDa:D≠a:=q0i hd2 q3;have hd6:H6 D=some (.lst (ls.map V.ref)):=g4.hh _ _ hd2;have hg6:G4 D=none:=by rw[g4.new D (by rw[hd2];simp)];exact hg2
   have r6:=((r2.grow g4).mutFree (o:=.frz o (.lst xs)) q2 (q1y r2 q3) (ionone r2 a q3) (q4m r2 q3) q1);have hd7:(upd H6 a (.frz o (.lst xs))) D=some (.lst (ls.map V.ref)):=by rw[q0b hDa];exact hd6
   have r7:=r6.mutFree (o:=.lst (ls.map V.ref++[.ref a])) hg6 hzh (hz D hD) hfree hd7
   have hnew:∀c∈ls,c≠a/\c≠D:=fun c hcl=>by
    obtain⟨oc,yc,h1⟩:=hin.mem c hcl;exact⟨q0i h1.1 q3,q0o h1.1 hd2 (fun z=>nomatch z)⟩
   refine⟨ls.map V.ref,hd7,by rw[w0a,sizeLine_eq];omega,ws.length-(i+1),by omega,rfl,hlt,G4,ls++[a],done++[y],rest',?_,s2.trans (s3.trans s4),?_,hg6,?_,?_,by simp[hll],hr,by rw[w0p];exact ho⟩
   ·exact r7
   ·rw[q0f,w0n];rfl
   ·rw[w3t];refine⟨hnd,by simp,fun c hc d hd=>?_⟩
    rw[w0u.mp hd];exact(hnew c hc).1
   ·refine NestIn.snoc ⟨o,xs,⟨by rw[q0b (fun z=>hDa z.symm),q0f],q2,q1y r2 q3⟩,p4⟩ ?_
    refine hin.move (s3.trans s4) fun l ob ys k1 k2 k3=>⟨?_,by rw[g4.new l (by rw[k1];simp)];exact k2,k3⟩
    rw[q0b (q0o k1 hd2 (fun z=>nomatch z)),q0b (q0i k1 q3)]
    exact g4.hh _ _ k1
 ·have:i=ws.length:=by omega
  subst this;rw[w2n]at hc2;cases hc2;rw[w1j]at ho;subst ho;exact .inl ⟨W0.stop _ H2 (hSQ G2 H2 s2 r2.sub) (by omega),h G2 D ls H2 r2 (s1.trans s2) hd2 hg2 hzh hfree hnd hin⟩
end
theorem allT(h:e.all (fun s=>!isT s)=true):∀s∈e,isT s=false:=fun s hs=>by
 have:=w0s.mp h s hs;simpa using this
section
variable{ls:List Addr}
theorem NestIn.atI{i:Int}(h:NestIn K Z G H ls wss)(e:L2.atI wss i=some ws):∃j l o ys,ixN wss.length i=some j/\ls[j]?=some l/\L2.atI (ls.map V.ref) i=some (.ref l)/\FzAt Z G H l o ys/\Reps K G ws ys:=by
 have hl:=h.len;unfold L2.atI at e;cases q:ixN wss.length i with
 |none=>rw[q]at e;cases e
 |some j=>
  rw[q]at e;obtain⟨l,o,ys,h1,h2,h3⟩:=h.at e;refine⟨j,l,o,ys,rfl,h1,?_,h2,h3⟩;unfold L2.atI;rw[w0a,hl,q];simp[h1]
end
section
variable{a b k:Expr}{es:List Expr}{d1 d2 dk dv:Den W}{dA:Den (List W)}{x:Str}{p spos tpos:Pos}
theorem Reps.erase:∀(k:Nat){ws:List W}{xs:List V},Reps K G ws xs->Reps K G (ws.eraseIdx k) (xs.eraseIdx k)
 |_,[],_,r=>by cases(show _=[]from r);exact rfl
 |0,w::ws,_,⟨y,r,rfl,h1,h2⟩=>h2
 |k+1,w::ws,_,⟨y,r,rfl,h1,h2⟩=>⟨y,r.eraseIdx k,rfl,h1,Reps.erase k h2⟩
end
section
variable{e':List S}{us vs:List W}{v:Value}{w:W}
theorem x06{pe:List S}{g:W->List W}:∀(ws:List W),(∀w∈ws,∃e',d (.fr w::pe)=.ok (g w) e')->compN d pe ws=some (ws.map g)
 |[],_=>rfl
 |w::ws,h=>by
  obtain⟨e',h1⟩:=h w (by simp);unfold compN;rw[h1,x06 ws fun u hu=>h u (by simp[hu])]
  rfl
end
end D
namespace L2
open PySem PySem.Spec PyProof.Rows
section
variable{X:Cx}{pins:List (Addr×Obj)}{σ:St}{H:Hp}{s:Shared}{a:Addr}{A:Around}{E:Value->Shared->Prop}{sh:Sh}{kvs:List (Kx×V)}{kas:List Addr}
theorem x55{prog:Program}{w:World}{d:Addr}(hd:(d==sysModules)=false):
  MeetsIn prog w (Builtin.«dict.__len__» ⟨[.ref d],[]⟩) (fun _ R s=>∃o es ep,s.heap.get? d=some o/\o.data=.dict es ep/\R (.ok (.ret (.int es.size s.toks))) {s with toks:=s.toks+1}):=
 .of_wp fun A R s ⟨o,es,ep,ho,hdat,h⟩=>by
  show wpAny _ _ (dictSize d >>= _) _ _ s;unfold dictSize;refine wpAny_bind (wpAny_bind (wpAny_dictEntries ho hdat (wpAny_pure ?_)));show wpAny _ _ (Builtin.Dict.pendingCount d >>= _) _ _ s;refine wpAny_bind (wpAny_pendingCount_other hd ?_);refine wpAny_ret_mkInt ?_;rw[Nat.add_zero];exact h
theorem z05{Q:Value->Shared->Prop}(I:Inv X pins σ H s)(e:Rd H a (.dT sh kvs kas))(h:∀t s',Inv X pins σ H s'->Q (.int kvs.length t) s'):wpAny (model X.prog X.w) A (call (.builtin "len") [.ref a]) Q E s:=by
 obtain⟨z,hd,xs,rel,_,dd⟩:=q9c I.hok e;have hT:=dd.typeIs;obtain⟨o,es,ep,ho,_,hdat,hes,_⟩:=dd;have hsz:es.size=kvs.length:=by rw[size_of_entries hes,Paired.length rel]
 rw[sizeLine_eq]at z;refine Calls.call_function_entry kind_len plain_len entry_len (args_len1 _) ?_
 unfold Builtin.«len»;refine wpAny_bind (m:=oneArg "len" _) (wpAny_pure ?_)
 refine wpAny_bind (m:=callSpecial? (.ref a) (Str.ofString "__len__")) (wpAny_callSpecial?_slot (name:=Str.ofString "__len__") hT F.slot_dict_len
  (call_meetsIn F.slot_dict_len hT F.entry_dict_len (F.args_dict_len_1 _) (x55 hd) ⟨o,es,ep,ho,hdat,?_⟩))
 rw[hsz];show wpAny _ _ _ _ _ {s with toks:=s.toks+1};refine wpAny_bind (wpAny_holding (wpAny_pure ?_));refine wpAny_bind (wpAny_letGo ?_);show wpAny _ _ (if((kvs.length:Nat):Int)<0 then _ else _) _ _ _;rw[if_neg (by omega)];show wpAny _ _ (if((kvs.length:Nat):Int)>=2^63 then _ else _) _ _ _;rw[if_neg (by omega)];exact wpAny_bind (wpAny_mkInt (wpAny_pure ⟨_,rfl,h _ _ (I.tok _)⟩))
def rLenT:List V->Hp->VK->Prop:=fun xs H Q=>∃a sh kvs kas,xs=[.ref a]/\Rd H a (.dT sh kvs kas)/\Q (.int kvs.length) H
theorem x8m:CallR X (.builtin "len") rLenT:=by
 intro pins s σ H xs us Q I r h;obtain⟨a,sh,kvs,kas,rfl,e,q⟩:=h;obtain⟨u,rfl,rx⟩:=vals1 r;cases(show u=Value.ref a from rx);exact z05 I e fun t s' I'=>⟨.int kvs.length,H,I',⟨t,rfl⟩,q⟩
end
def rLenI:List V->Hp->VK->Prop:=fun xs H Q=>∃a kvs,xs=[.ref a]/\Rd H a (.dK kvs)/\Q (.int kvs.length) H
theorem x8n{X:Cx}:CallR X (.builtin "len") rLenI:=by
 intro pins s σ H xs us Q I r h;obtain⟨a,kvs,rfl,e,q⟩:=h;obtain⟨u,rfl,rx⟩:=vals1 r;cases(show u=Value.ref a from rx);exact z38 I e fun t s' I'=>⟨.int kvs.length,H,I',⟨t,rfl⟩,q⟩
end L2
namespace D
open PySem L2 PySem.Spec PyProof.Rows
open Classical
variable{a b:Addr}{fz:Bool}{X:Cx}{d dk:Den W}{G H:Hp}{n:Int}{σ:L2.St}{EE:L2.St->XK}{ks:List Kx}{e:List S}{ws:List W}{i:Nat}{pos:Pos}{K:Fg}{sh:Sh}{x:Str}{κ:Type}{v:V}{w:W}{Z:Zt}
mutual
def kxW:W->Option Kx
 |.non=>some .non
 |.bl b=>some (.bl b)
 |.int i=>some (.int i)
 |.str x=>some (.str x)
 |.tup ws=>(kxWs ws).map .tup
 |_=>none
def kxWs:List W->Option (List Kx)
 |[]=>some []
 |w::ws=>match kxW w,kxWs ws with
  |some k,some ks=>some (k::ks)
  |_,_=>none
end
def NoTup(K:Fg):Prop:=∀a o,K.lookup a=some o->o.cls≠.type "tuple"
theorem SqT.rd{xs:List V}(hK:NoTup K)(q:SqT K G a xs):Rd G a (.tup xs):=by
 rcases q with q|⟨o,its,n,h1,h2,_⟩
 ·exact q
 ·exact absurd h2 (hK a o h1)
mutual
theorem x8o{K:Fg}{G H:Hp}(hK:NoTup K)(s:Same G H):∀(w:W){k:Kx}{v:V},kxW w=some k->Rep K G w v->KRep H k v
 |.bl b,k,v,e,r=>by cases e;exact r
 |.int b,k,v,e,r=>by cases e;exact r
 |.str b,k,v,e,r=>by cases e;exact r
 |.tup ws,k,v,e,r=>by
  have e:(kxWs ws).map Kx.tup=some k:=e;obtain⟨ks,h1,rfl⟩:=w0d.mp e;obtain⟨a,xs,rfl,q,rs⟩:=r;refine⟨a,xs,rfl,?_,x4w hK s ws h1 rs⟩;rcases SqT.rd hK q with z|⟨o,z⟩
  ·exact .inl (s _ _ z)
  ·exact .inr ⟨o,s _ _ z⟩
 |.non,k,v,e,r=>by cases e;exact r
 |.lst _,k,v,e,r=>by cases e
 |.exc _,k,v,e,r=>by cases e
 |.dic _,k,v,e,r=>by cases e
 |.dw _ _ _ _,k,v,e,r=>by cases e
 |.fn _ _ _,k,v,e,r=>by cases e
theorem x4w{K:Fg}{G H:Hp}(hK:NoTup K)(s:Same G H):∀(ws:List W){ks:List Kx}{vs:List V},kxWs ws=some ks->Reps K G ws vs->KReps H ks vs
 |[],ks,vs,e,r=>by cases e;exact r
 |w::ws,ks,vs,e,r=>by
  have e:(match kxW w,kxWs ws with|some k,some ks=>some (k::ks)|_,_=>none)=some ks:=e;split at e
  ·rename_i k0 ks0 h1 h2;cases e;obtain⟨x,xs,rfl,r1,r2⟩:=r;exact⟨x,xs,rfl,x8o hK s w h1 r1,x4w hK s ws h2 r2⟩
  ·cases e
end
def keyT:W->Option Kx
 |.tup ws=>(kxWs ws).map .tup
 |_=>none
theorem q8m(hK:NoTup K)(s:Same G H){k:Kx}(e:keyT w=some k)(r:Rep K G w v):∃b,v=.ref b/\KRep H k (.ref b):=by
 cases w with
 |tup ws=>
  have z:=x8o hK s (.tup ws) e r;obtain⟨a,xs,rfl,q,rs⟩:=r;exact⟨a,rfl,z⟩
 |_=>cases e
def fits(k:Kx)(sh:Sh):Prop:=Conf k sh/\k.depth<=7
theorem KeysG.snoc{k:Kx}(hk:KRep G k (.ref b)):∀{ks:List Kx}{bs:List Addr},KeysG G ks bs->KeysG G (ks++[k]) (bs++[b])
 |[],[],_=>⟨hk,trivial⟩
 |_::_,_::_,h=>⟨h.1,KeysG.snoc hk h.2⟩
 |[],_::_,h=>h.elim
 |_::_,[],h=>h.elim
def lkW:List Kx->List W->Kx->Option W
 |k::ks,w::ws,x=>if k=x then some w else lkW ks ws x
 |_,_,_=>none
theorem x2y{K:Fg}{G:Hp}{x:Kx}:∀{kvs:List (Kx×V)}{ws:List W},Reps K G ws (kvs.map (·.2)) ->
  (∀w,lkW (kvs.map (·.1)) ws x=some w->∃v,valV kvs x=some v/\Rep K G w v)/\(lkW (kvs.map (·.1)) ws x=none->valV kvs x=none)
 |[],ws,r=>by
  cases ws with
  |nil=>exact⟨(fun w z=>nomatch z),fun _=>rfl⟩
  |cons w ws=>obtain⟨_,_,z,_⟩:=r;cases z
 |p::kvs,[],r=>by cases(show _=[]from r)
 |p::kvs,w::ws,r=>by
  obtain⟨v,rr,z,h1,h2⟩:=r;cases z;have ih:=x2y (x:=x) h2
  by_cases e:p.1=x
  ·refine⟨fun w' z=>?_,fun z=>?_⟩
   ·have z:(if p.1=x then some w else lkW (kvs.map (·.1)) ws x)=some w':=z;rw[if_pos e]at z;cases z;exact⟨p.2,q5r e,h1⟩
   ·have z:(if p.1=x then some w else lkW (kvs.map (·.1)) ws x)=none:=z;rw[if_pos e]at z;cases z
  ·refine⟨fun w' z=>?_,fun z=>?_⟩
   ·have z:(if p.1=x then some w else lkW (kvs.map (·.1)) ws x)=some w':=z;rw[if_neg e]at z;rw[q4p e];exact ih.1 w' z
   ·have z:(if p.1=x then some w else lkW (kvs.map (·.1)) ws x)=none:=z;rw[if_neg e]at z;rw[q4p e];exact ih.2 z
theorem DAt.rd{kvs:List (Kx×V)}{kas:List Addr}(s:Same G H)(h:DAt fz G a sh kvs kas):Rd H a (dwO sh kvs kas):=by
 cases fz with
 |true=>obtain⟨o,h⟩:=h;exact .inr ⟨o,s _ _ h⟩
 |false=>exact .inl (s _ _ h)
theorem noI{t:Kx}(kr:KRep H t (.ref b))(hc:fits t sh):sh.isI=false:=by
 cases sh with
 |int=>
  cases t with
  |int i=>exact nomatch (show V.ref b=V.int i from kr)
  |_=>exact hc.1.elim
 |_=>rfl
def inT(w d:W):Option W:=match keyT w,d with
 |some k,.dw _ sh ks ws=>if fits k sh then some (.bl (lkW ks ws k).isSome)else none
 |_,_=>none
def ninT(w d:W):Option W:=match keyT w,d with
 |some k,.dw _ sh ks ws=>if fits k sh then some (.bl (!(lkW ks ws k).isSome))else none
 |_,_=>none
def ixT(d w:W):Option W:=match keyT w,d with
 |some k,.dw _ sh ks ws=>if fits k sh then lkW ks ws k else none
 |_,_=>none
def lenT1:List W->Option W
 |[.dw _ _ ks _]=>some (.int ks.length)
 |_=>none
theorem x8p{k:Kx}(s:Same G H)(p:Rep K G (.dw fz sh ks ws) v)(kr:KRep H k (.ref b))(hc:fits k sh):
  ∃a o,v=.ref a/\DGet H a (.ref b) o/\(∀w,lkW ks ws k=some w->∃u,o=some u/\Rep K G w u)/\(lkW ks ws k=none->o=none):=by
 obtain⟨a,kvs,kas,rfl,h1,rfl,h3,h4⟩:=p;refine⟨a,_,rfl,DGet.t (by have:=h1.rd s;rwa [q7q (noI kr hc)]at this) ⟨kr,hc⟩,?_⟩;exact x2y h4
theorem y6m(hK:NoTup K):Op2 K (fun y x H Q=>∃a o,x=.ref a/\DGet H a y o/\Q (.bl (!o.isSome)) H) ninT:=by
 intro G H x y wx wy w Q s px py hf h;unfold ninT at hf;split at hf
 ·rename_i k fz sh ks ws hk;split at hf
  ·rename_i hc;cases hf;obtain⟨b,rfl,kr⟩:=q8m hK s hk px;obtain⟨a,o,rfl,g,g1,g2⟩:=x8p s py kr hc;refine⟨a,o,rfl,g,h G _ H (.refl s) ?_⟩;show V.bl (!o.isSome)=V.bl (!(lkW ks ws k).isSome);cases q:lkW ks ws k with
   |none=>rw[g2 q];rfl
   |some w=>obtain⟨u,hu,_⟩:=g1 w q;rw[hu];rfl
  ·cases hf
 ·cases hf
theorem z06(hK:NoTup K):Op2 K (fun x y H Q=>∃a v,x=.ref a/\DGet H a y (some v)/\Q v H) ixT:=by
 intro G H x y wx wy w Q s px py hf h;unfold ixT at hf;split at hf
 ·rename_i k fz sh ks ws hk;split at hf
  ·rename_i hc;obtain⟨b,rfl,kr⟩:=q8m hK s hk py;obtain⟨a,o,rfl,g,g1,g2⟩:=x8p s px kr hc;obtain⟨u,rfl,ru⟩:=g1 w hf;exact⟨a,u,rfl,g,h G u H (.refl s) ru⟩
  ·cases hf
 ·cases hf
def rLenW:List V->Hp->VK->Prop:=fun xs H Q=>∃a sh kvs kas,xs=[.ref a]/\Rd H a (dwO sh kvs kas)/\Q (.int kvs.length) H
theorem x8q:CallR X (.builtin "len") rLenW:=by
 intro pins s σ H xs us Q I r h;obtain⟨a,sh,kvs,kas,e1,e2,q⟩:=h;cases hI:sh.isI with
 |false=>rw[q7q hI]at e2;exact x8m pins s σ H xs us Q I r ⟨a,sh,kvs,kas,e1,e2,q⟩
 |true=>
  rw[show dwO sh kvs kas=.dK (kvs.map fun p=>(kxK p.1,p.2))from if_pos hI]at e2
  exact x8n pins s σ H xs us Q I r ⟨a,_,e1,e2,by rw[w0a];exact q⟩
theorem y6n:OpN K rLenW lenT1:=by
 intro G H xs ws w Q s pr hf h;unfold lenT1 at hf;split at hf
 ·rename_i fz sh ks vs;cases hf;obtain⟨x,r,rfl,px,pr⟩:=pr;cases(show r=[]from pr);obtain⟨a,kvs,kas,rfl,h1,rfl,h3,h4⟩:=px;refine⟨a,sh,kvs,kas,rfl,h1.rd s,h G _ H (.refl s) ?_⟩;show V.int _=V.int _;rw[w0a]
 ·cases hf
section
variable{a b e k o:Expr}{es:List Expr}{da db:Den W}{dA:Den (List W)}{p tpos:Pos}{body:List Stmt}{s1:List S->SR}
theorem y6o(hK:NoTup X.K)(hu:X.A.units+150<cLine)(ha:DE Z X EE a da)(hb:DE Z X EE b db)(hm:behindInMarks .NotIn b=false:=by rfl):DT Z X EE (.Compare a [.NotIn] [b] pos) (dTest (dOp ninT da db)):=
 PT.mono (x6k (x05 (by omega) ha hb) hm) fun σ H Q h=>q32 (y6m hK) σ H _ (q67 h)
theorem z07(hK:NoTup X.K)(hu:X.A.units+150<cLine)(ha:DE Z X EE a da)(hb:DE Z X EE b db)(hs:NoSl b:=by intro _ _;rfl):DE Z X EE (.Subscript a b pos) (dOp ixT da db):=
 PE.mono (x4t (by omega) ha hb hs) (q32 (z06 hK))
theorem y6p(hm:X.mg "len"=none)(ha:DA Z X EE [e] dA)(hg:Gl X "len":=by rfl)(he:starEach [e] X.env=(false,eval e X.env)::starEach [] X.env:=by rfl)(hpl:(backTo pos (starEach [] X.env)).any (·.1)=false:=by rfl):DE Z X EE (.Call (.Name "len" p) [e] [] pos) (dFn lenT1 dA):=
 q59 x8q y6n PySem.boot_len hm ha hg (by decide) (by decide) he hpl
def isDw:S->Bool
 |.dw _ _ _=>true
 |.dic _=>true
 |_=>false
theorem Rel.dwX{e:List S}(r:Rel K Z G σ H e)(h:e[i]?=some (.dw sh ks ws)):∃a kvs kas,σ[i]?=some (some (.ref a))/\H a=some (dwO sh kvs kas)/\G a=none/\Z.H a=none/\kvs.map (·.1)=ks/\KeysS sh G ks kas/\RepsX K Z G sh ws (kvs.map (·.2)):=by
 obtain⟨a,kvs,kas,h1,h2,h3,h4,h5,h6,h7⟩:=r.slot i _ h;refine⟨a,kvs,kas,?_,h2,h3,h4,h5,h6,h7⟩;cases q:σ[i]? with
 |none=>rw[q]at h1;cases h1
 |some z=>rw[q]at h1;rw[show z=some (V.ref a)from h1]
theorem Rel.dw{e:List S}(r:Rel K Z G σ H e)(h:e[i]?=some (.dw sh ks ws)):∃a kvs kas,σ[i]?=some (some (.ref a))/\H a=some (dwO sh kvs kas)/\G a=none/\Z.H a=none/\kvs.map (·.1)=ks/\KeysS sh G ks kas/\Reps K G ws (kvs.map (·.2)):=by
 obtain⟨a,kvs,kas,h1,h2,h3,h4,h5,h6,h7⟩:=r.dwX h;exact⟨a,kvs,kas,h1,h2,h3,h4,h5,h6,h7.reps⟩
theorem Rel.setS{e:List S}(r:Rel K Z G σ H e){i:Nat}{s:S}(hs:∀b ws,s≠.own b ws)(q:SlotOk K Z G H s (some v)):Rel K Z G (σ.set i (some v)) H (e.set i s):=by
 refine⟨r.sub,fun j t z=>?_,by simpa using r.len,fun j k b1 b2 w1 w2 c z1 z2 z3 z4=>?_,r.ent,r.ion,r.gen⟩
 ·by_cases hj:j=i
  ·subst hj
   have hi:j<e.length:=by
    have:=(w0b.mp z).1;simpa using this
   rw[w0g hi]at z;cases z;rw[w0g (by rw[<- r.len];exact hi)];exact q
  ·rw[w0f (fun z=>hj z.symm)]at z |-
   exact r.slot j t z
 ·have old:∀(k:Nat)(bb:Option Nat)(ww:List W),(e.set i s)[k]?=some (.own bb ww)->k≠i/\e[k]?=some (.own bb ww):=fun k bb ww z=>by
   by_cases hk:k=i
   ·subst hk
    have hi:k<e.length:=by
     have:=(w0b.mp z).1;simpa using this
    rw[w0g hi]at z;cases z;exact absurd rfl (hs _ _)
   ·rw[w0f (fun z=>hk z.symm)]at z;exact⟨hk,z⟩
  obtain⟨n1,q1⟩:=old _ _ _ z1;obtain⟨n2,q2⟩:=old _ _ _ z2;rw[w0f (fun z=>n1 z.symm)]at z3
  rw[w0f (fun z=>n2 z.symm)]at z4
  exact r.dis _ _ _ _ _ _ _ q1 q2 z3 z4
theorem Rel.mutDw{e:List S}(r:Rel K Z G σ H e){ks':List Kx}{ws':List W}{a:Addr}{kvs':List (Kx×V)}{kas':List Addr}(h:e[i]?=some (.dw sh ks ws))(ha:σ[i]?=some (some (.ref a)))(ho:∀s∈e.set i .no,isDw s=false)
  (h5:kvs'.map (·.1)=ks')(h6:KeysS sh G ks' kas')(h7:RepsX K Z G sh ws' (kvs'.map (·.2))):Rel K Z G σ (upd H a (dwO sh kvs' kas')) (e.set i (.dw sh ks' ws')):=by
 obtain⟨a',kvs,kas,h1,h2,h3,h4,_⟩:=r.dw h;rw[ha]at h1;cases h1;have hi:i<e.length:=(w0b.mp h).1;refine⟨fun c o z=>?_,fun j s z=>?_,by simpa using r.len,fun j k b1 b2 w1 w2 c z1 z2 z3 z4=>?_,fun c o z n=>?_,fun c z=>?_,r.gen⟩
 ·rw[q0b (q0i z h3)];exact r.sub c o z
 ·by_cases hj:j=i
  ·subst hj;rw[w0g hi]at z;cases z;exact⟨a,kvs',kas',by rw[ha];rfl,q0f,h3,h4,h5,h6,h7⟩
  ·rw[w0f (fun z=>hj z.symm)]at z
   have y:=r.slot j s z;cases s with
   |no=>trivial
   |fr w=>exact y
   |own b2 w2=>
    obtain⟨c,ys,y1,y2,y3,y4,y5⟩:=y;refine⟨c,ys,y1,?_,y3,y4,y5⟩;rw[q0b (q0o y2 h2 (fun z=>q18 rfl z.symm))];exact y2
   |dic _=>
    have:=ho _ (w0m (i:=j) (by rw[w0f (fun z=>hj z.symm)];exact z))
    cases this
   |thr us w2 vs=>
    obtain⟨t,l,o,xs2,ys,zs,y1,y2,y3,y4,y5,y6⟩:=y;refine⟨t,l,o,xs2,ys,zs,y1,y2,?_,y4,y5,y6⟩;rw[q0b (q0o y3 h2 (fun z=>q18 rfl z.symm))];exact y3
   |nest wss=>exact NestOk.move y (.refl _) fun l o ys k1 k2 k3=>⟨by rw[q0b (q0o k1 h2 (fun z=>q18 rfl z.symm))];exact k1,k2,k3⟩
   |x k=>exact XOk.move y (.refl _) fun l o ys k1 k2 k3=>⟨by rw[q0b (q0o k1 h2 (fun z=>q18 rfl z.symm))];exact k1,k2,k3⟩
   |dw _ _ _=>
    have:=ho _ (w0m (i:=j) (by rw[w0f (fun z=>hj z.symm)];exact z))
    cases this
 ·have old:∀(k:Nat)(bb:Option Nat)(ww:List W),(e.set i (S.dw sh ks' ws'))[k]?=some (.own bb ww)->e[k]?=some (.own bb ww):=fun k bb ww z=>by
   by_cases hk:k=i
   ·subst hk;rw[w0g hi]at z;cases z
   ·rw[w0f (fun z=>hk z.symm)]at z;exact z
  exact r.dis _ _ _ _ _ _ _ (old _ _ _ z1) (old _ _ _ z2) z3 z4
 ·rw[q0b (q0i z h4)];exact r.ent c o z n
 ·by_cases hc:c=a
  ·subst hc;rw[q0f];exact fun z=>nomatch z
  ·rw[q0b hc];exact r.ion c z
def dSetW(i:Nat)(sh:Sh):List S->SR:=fun e=>.nx (e.set i (.dw sh [] []))
theorem y6q(i:Nat)(sh:Sh){pos' dpos:Pos}(hN:X.N.Nodup)(hI:sh.isI=false:=by rfl)(hi:X.N[i]?=some x:=by rfl)(hx:Loc X.env.scope x:=by walk_at "3")(hs:swapsWith (.Dict [] [] dpos) (some (.Name x pos')) pos.line X.env=pure false:=by rfl)(hf:X.fn x=true\/X.env.scope.names.lookup x=some .local:=by walk_at "2"):
  DS Z X EE (.Assign [.Name x pos'] (.Dict [] [] dpos) pos) (dSetW i sh):=by
 refine PS.mono (q6j i hN (y1l (sh:=sh)) hi hx hs hf) ?_;rintro D σ H ⟨G,e,rel,h⟩;intro q hq;have g:=Grow.hid rel.sub hq (.dT sh [] []);exact h G _ _ ((rel.grow g).setS (s:=.dw sh [] []) (fun _ _ z=>nomatch z) ⟨q,[],[],rfl,by rw[q7q hI];exact q0f,rel.sub.free hq,q1y rel hq,rfl,.of trivial hI,.nil⟩) (.refl _)
def putWC(i:Nat)(w kw:W)(e:List S):Option S->SR
 |some (.dw sh ks ws)=>match keyT kw with
  |some x=>if ks.length<16777216/\(e.set i .no).all (fun s=>!isDw s)=true/\fits x sh/\lkW ks ws x=none/\sh.isN=false then .nx (e.set i (.dw sh (ks++[x]) (ws++[w])))else .no
  |none=>.no
 |_=>.no
def putW0(i:Nat)(dk:Den W)(w:W)(e1:List S):Option S->SR
 |some (.dw _ _ _)=>(dk e1).stm fun kw e2=>putWC i w kw e2 e2[i]?
 |_=>.no
def dPutW(i:Nat)(d dk:Den W):List S->SR:=fun e=>(d e).stm fun w e1=>putW0 i dk w e1 e1[i]?
theorem y6r(i:Nat)(hK:NoTup X.K)(hu:X.A.units+150<cLine)(he:DE Z X EE e d)(hk:DE Z X EE k dk)(hN:X.N[i]?=some x:=by rfl)(hv:Vis X.env.scope x:=by walk_at "1")(hd:(x==("__debug__":Str))=false:=by decide)(hcd:(x==("__classdict__":Str))=false:=by decide)
  (hs:swapsWith e (some (.Subscript (.Name x p) k tpos)) pos.line X.env=pure false:=by rfl):DS Z X EE (.Assign [.Subscript (.Name x p) k tpos] e pos) (dPutW i d dk):=by
 refine PS.mono (x4u (by omega) (pv i hN hv hd hcd) hk he hs) ?_;rintro D σ H ⟨G,e,rel,h⟩;refine⟨G,e,rel,(q0r h).imp (fun w e1 h G1 v1 H1 r1 s1 p1=>?_) fun _ _ h=>h⟩
 unfold putW0 at h;split at h
 ·rename_i sh0 ks0 ws0 he0;obtain⟨a,kvs0,kas0,q1,q2,_⟩:=r1.dw he0;refine⟨.ref a,q1,G1,e1,r1,(q0r (σ:=σ) h).imp (fun kw e2 h G2 v2 H2 r2 s2 p2=>?_) fun _ _ h G' H' r s=>h G' H' r (s1.trans s)⟩
  unfold putWC at h;split at h
  ·rename_i sh ks ws he2;obtain⟨a',kvs,kas,g1,g2,g3,g4,g5,g6,g7⟩:=r2.dw he2;rw[q1]at g1;cases g1;split at h
   ·rename_i t hk1;split at h
    ·rename_i hc;obtain⟨b,rfl,kr⟩:=q8m hK (.refl G2) hk1 p2;have krH:KRep H2 t (.ref b):=KRep.keeps (fun _ _ _ z=>r2.sub _ _ z) t kr
     subst g5;have hI:=noI kr hc.2.2.1;rw[q7q hI]at g2;have hnew:valV kvs t=none:=(x2y g7).2 hc.2.2.2.1;refine⟨a,_,rfl,DPut.t g2 ⟨krH,hc.2.2.1⟩ (by rw[sizeLine_eq];have:=hc.1;rw[w0a]at this;exact this),?_⟩;rw[y1i v1 hnew,show putAd kvs kas t b=kas++[b] by unfold putAd;rw[hnew];rfl,<- q7q hI];refine h G2 σ _ (r2.mutDw (ks':=kvs.map (·.1)++[t]) (ws':=ws++[w]) he2 q1 (fun s hs=>?_) (by rw[w0n];rfl) (.of (KeysG.snoc kr (g6.g hI)) hI) ?_) (s1.trans s2)
     ·have:=w0s.mp hc.2.1 s hs;simpa using this
     ·rw[w0n];exact .of hc.2.2.2.2 (g7.append (.one (Rep.mono s2 w p1)))
    ·exact h.elim
   ·exact h.elim
  ·exact h.elim
 ·exact h.elim
end
def maxL:Int->List Int->Int
 |x,[]=>x
 |x,y::ys=>maxL (if x<y then y else x) ys
theorem q95:∀(ys:List Int)(x:Int),(maxL x ys=x\/maxL x ys∈ys)/\x<=maxL x ys/\∀y∈ys,y<=maxL x ys
 |[],x=>⟨.inl rfl,Int.le_refl _,fun y hy=>nomatch hy⟩
 |y::ys,x=>by
  obtain⟨h1,h2,h3⟩:=q95 ys (if x<y then y else x);have e:maxL x (y::ys)=maxL (if x<y then y else x) ys:=rfl;rw[e];refine⟨?_,?_,fun z hz=>?_⟩
  ·rcases h1 with h|h
   ·by_cases hq:x<y
    ·rw[if_pos hq]at h |-;rw[h];exact .inr (by simp)
    ·rw[if_neg hq]at h |-;exact .inl h
   ·exact .inr (by simp[h])
  ·have:x<=(if x<y then y else x):=by split<;>omega
   omega
  ·rcases w0h.mp hz with rfl|hz
   ·have:z<=(if x<z then z else x):=by split<;>omega
    omega
   ·exact h3 z hz
theorem x8r(hc:X.calm=true):CallR X (.builtin "max") (fun xs H Q=>∃p n ns,xs=[.ref p]/\SqL X.K H p ((n::ns).map V.int)/\Q (.int (maxL n ns)) H):=by
 intro pins s σ H xs us Q I r h;obtain⟨p,n,ns,rfl,hq,q⟩:=h;obtain⟨u,rfl,rx⟩:=vals1 r;cases rx;obtain⟨its,r',pl,hz⟩:=I.list hq;have hl:=pl.isList;have hlt:p<s.heap.objs.size:=by obtain⟨_,e,_⟩:=hl;exact Heap.lt_size e
 have hh:X.A.in1.handled=none:=I.ok.hd hc;have hlen:its.length=(n::ns).length:=by have:=r'.length;rw[w0a]at this;exact this.symm
 have hval:∀(i:Nat)(v:Value),its.toArray[i]?=some v->∃t,v=Value.int ((n::ns).getD i 0) t:=fun i v hv=>by
  have hv':its[i]?=some v:=by simpa using hv
  have hi:i<(n::ns).length:=by rw[<- hlen];exact(w0b.mp hv').1
  obtain⟨u,hu,ru⟩:=r'.get (i:=i) (x:=V.int ((n::ns).getD i 0)) (by rw[w0i,w0c hi,x4r hi];rfl);rw[hv']at hu;cases hu;exact ru
 refine call_max_walk (wpAny_pyIter_list hl ⟨s.heap.objs.size,[s.heap.objs.size,p],[s.heap.objs.size],_,_,_,_,rfl,Walks.list hh s.heap.objs.size p (w0x hlt) its.toArray,⟨⟨_,Heap.get?_push_size _ rfl,rfl,rfl⟩,hl.push _⟩,fun b hb=>?_,by rw[w0e,hlen];simp,CmpOf.ints_gt (fun i=>(n::ns).getD i 0) hval,fun v h' tk hP hk=>?_⟩)
 ·show b<(s.heap.push _).objs.size;rw[Heap.size_push];rcases w0h.mp hb with e|hb
  ·rw[e];exact Nat.lt_succ_self _
  ·rw[w0u.mp hb];exact w2l hlt
 ·obtain⟨t,rfl⟩:=hval _ _ hP;obtain⟨b1,b2⟩:=argBest_gt (fun i=>(n::ns).getD i 0) (its.toArray.size-1)
  have e:(n::ns).getD (argBest (fun i j=>decide ((n::ns).getD i 0>(n::ns).getD j 0)) (its.toArray.size-1)) 0=maxL n ns:=by
   obtain⟨m1,m2,m3⟩:=q95 ns n;have hsz:its.toArray.size=ns.length+1:=by rw[w0e,hlen];simp
   generalize argBest (fun i j=>decide ((n::ns).getD i 0>(n::ns).getD j 0)) (its.toArray.size-1)=k at b1 b2
   have hk:k<(n::ns).length:=by simp;omega
   have ge:(n::ns).getD k 0<=maxL n ns:=by
    rw[x4r hk];rcases w0h.mp (w0v hk)with z|z
    ·rw[z];exact m2
    ·exact m3 _ z
   have le:maxL n ns<=(n::ns).getD k 0:=by
    have:∃j,j<=ns.length/\(n::ns).getD j 0=maxL n ns:=by
     rcases m1 with z|z
     ·exact⟨0,w1k _,by simp[z]⟩
     ·obtain⟨j,hj,ej⟩:=w2d.mp z;exact⟨j+1,by omega,by simp[List.getD,hj,ej]⟩
    obtain⟨j,hj,ej⟩:=this;have:=b2 j (by omega);rw[ej]at this;exact this
   omega
  rw[e];refine⟨.int (maxL n ns),H,I.kept (t':=tk) fun b o hbo=>hk b o (fun z=>?_) (Heap.get?_push_of_some _ hbo),⟨t,rfl⟩,q⟩
  rw[w0u]at z;exact absurd (Heap.lt_size hbo) (by rw[z];exact w2g _)
def max1:List W->Option W
 |[.lst ws]=>match intsW ws with
  |some (n::ns)=>some (.int (maxL n ns))
  |_=>none
 |_=>none
theorem y6s:OpN K (fun xs H Q=>∃p n ns,xs=[.ref p]/\SqL K H p ((n::ns).map V.int)/\Q (.int (maxL n ns)) H) max1:=by
 intro G H xs ws w Q s pr hf h;unfold max1 at hf;split at hf
 ·obtain⟨x,r,rfl,px,pr⟩:=pr;cases(show r=[]from pr);split at hf
  ·rename_i n ns hns;cases hf;obtain⟨a,cs,rfl,hq,rp⟩:=px;have:=q8i hns rp;subst this;exact⟨a,n,ns,rfl,s.seq hq,h G _ H (.refl s) rfl⟩
  ·cases hf
 ·cases hf
section
variable{e:Expr}{dA:Den (List W)}{p:Pos}
theorem x4x(hc:X.calm=true)(hm:X.mg "max"=none)(ha:DA Z X EE [e] dA)(hg:Gl X "max":=by rfl)(he:starEach [e] X.env=(false,eval e X.env)::starEach [] X.env:=by rfl)(hpl:(backTo pos (starEach [] X.env)).any (·.1)=false:=by rfl):DE Z X EE (.Call (.Name "max" p) [e] [] pos) (dFn max1 dA):=
 q59 (x8r hc) y6s PyProof.Rows.Boot.«max» hm ha hg (by decide) (by decide) he hpl
end
theorem z08{n:Int}{ns:List Int}:max1 [.lst ((n::ns).map .int)]=some (.int (maxL n ns)):=by
 show(match intsW ((n::ns).map .int)with|some (n::ns)=>some (W.int (maxL n ns))|_=>none)=_;rw[x4p]
section
variable{kw dflt:W}{x:Kx}
theorem y6t:dSetW i sh e=.nx (e.set i (.dw sh [] [])):=rfl
theorem y6u:dPutW i d dk e=(d e).stm fun w e1=>putW0 i dk w e1 e1[i]?:=rfl
theorem y6v:putW0 i dk w e (some (.dw sh ks ws))=(dk e).stm fun kw e2=>putWC i w kw e2 e2[i]?:=rfl
theorem y6w(hk:keyT kw=some x)(h1:ks.length<16777216)(h2:(e.set i .no).all (fun s=>!isDw s)=true)(h3:fits x sh)(h4:lkW ks ws x=none)(h5:sh.isN=false:=by rfl):putWC i w kw e (some (.dw sh ks ws))=.nx (e.set i (.dw sh (ks++[x]) (ws++[w]))):=by
 show(match keyT kw with|some x=>_|none=>_)=_;rw[hk];exact if_pos ⟨h1,h2,h3,h4,h5⟩
theorem z09(hk:keyT w=some x)(hc:fits x sh):ninT w (.dw fz sh ks ws)=some (.bl (!(lkW ks ws x).isSome)):=by
 unfold ninT;rw[hk];exact if_pos hc
theorem z39(hk:keyT w=some x)(hc:fits x sh):ixT (.dw fz sh ks ws) w=lkW ks ws x:=by
 unfold ixT;rw[hk];exact if_pos hc
theorem z1a:lenT1 [.dw fz sh ks ws]=some (.int ks.length):=rfl
theorem y6x:hide1 (.dw sh ks ws)=.fr (.dw false sh ks ws):=rfl
end
def tupAt(K:Fg)(a:Addr):Bool:=match K.lookup a with
 |some o=>(match o.cls with
  |.type n=>n=="tuple"
  |_=>false)
 |none=>false
def dropT(K:Fg):Fg:=K.filter fun p=>!tupAt K p.1
theorem q4x{q:Addr->Bool}:∀{K:Fg}{o:Obj},(K.filter fun p=>q p.1).lookup a=some o->K.lookup a=some o/\q a=true
 |[],_,h=>by cases h
 |(b,u)::K,o,h=>by
  by_cases hq:q b=true
  ·rw[w2x (p:=fun p:Addr×Obj=>q p.1) (a:=(b,u)) hq]at h
   by_cases e:a=b
   ·subst e;rw[show List.lookup a ((a,u)::(K.filter fun p=>q p.1))=some u by simp[List.lookup]]at h
    refine⟨?_,hq⟩;rw[<- h];simp[List.lookup]
   ·rw[show List.lookup a ((b,u)::(K.filter fun p=>q p.1))=List.lookup a (K.filter fun p=>q p.1) by simp only[List.lookup];rw[beq_eq_false_iff_ne.mpr e]]at h
    obtain⟨h1,h2⟩:=q4x h;refine⟨?_,h2⟩;rw[<- h1];simp only[List.lookup];rw[beq_eq_false_iff_ne.mpr e]
  ·rw[w3v (p:=fun p:Addr×Obj=>q p.1) (a:=(b,u)) hq]at h
   obtain⟨h1,h2⟩:=q4x h;have e:a≠b:=fun z=>hq (by rw[<- z];exact h2)
   refine⟨?_,h2⟩;rw[<- h1];simp only[List.lookup];rw[beq_eq_false_iff_ne.mpr e]
theorem y1p{h:Heap}(X:K.In h):(dropT K).In h:=fun a o e=>X a o (q4x (q:=fun a=>!tupAt K a) e).1
theorem y1q:NoTup (dropT K):=fun a o e z=>by
 obtain⟨h1,h2⟩:=q4x (q:=fun a=>!tupAt K a) e
 unfold tupAt at h2;rw[h1]at h2;simp[z]at h2
theorem q0l{o:Obj}(h:K.lookup a=some o)(t:tupAt K a=false):(dropT K).lookup a=some o:=by
 have gen:∀(l:Fg)(q:Addr->Bool),q a=true->l.lookup a=some o->(l.filter fun p=>q p.1).lookup a=some o:=by
  intro l q hq
  induction l with
  |nil=>intro h;cases h
  |cons p l ih=>
   obtain⟨b,u⟩:=p;intro h
   by_cases e:a=b
   ·subst e;rw[w2x (p:=fun p:Addr×Obj=>q p.1) (a:=(a,u)) hq]
    rw[show List.lookup a ((a,u)::l)=some u by simp[List.lookup]]at h;rw[<- h];simp[List.lookup]
   ·rw[show List.lookup a ((b,u)::l)=List.lookup a l by simp only[List.lookup];rw[beq_eq_false_iff_ne.mpr e]]at h
    by_cases hb:q b=true
    ·rw[w2x (p:=fun p:Addr×Obj=>q p.1) (a:=(b,u)) hb,<- ih h]
     simp only[List.lookup];rw[beq_eq_false_iff_ne.mpr e]
    ·rw[w3v (p:=fun p:Addr×Obj=>q p.1) (a:=(b,u)) hb]
     exact ih h
 exact gen K (fun a=>!tupAt K a) (by rw[t];rfl) h
theorem q0j{r:Option Value}(h:PySem.W.nsIn K a x=some r)(t:tupAt K a=false):PySem.W.nsIn (dropT K) a x=some r:=by
 unfold PySem.W.nsIn at h |-
 cases q:K.lookup a with
 |none=>rw[q]at h;cases h
 |some o=>rw[q0l q t];rw[q]at h;exact h
def tupAtV(K:Fg):Value->Bool
 |.ref a=>tupAt K a
 |_=>false
theorem q0p{cd:Value}(h:PySem.W.codeIn K cd x=true)(t:tupAtV K cd=false):PySem.W.codeIn (dropT K) cd x=true:=by
 cases cd with
 |ref a=>
  unfold PySem.W.codeIn at h |-
  dsimp only at h |-
  cases q:K.lookup a with
  |none=>rw[q]at h;cases h
  |some o=>rw[q0l q t];rw[q]at h;exact h
 |_=>cases h
def funAt(K:Fg)(a:Addr):Bool:=!tupAt K a&&(match K.lookup a with
 |some ⟨_,_,.func _,_⟩=>true
 |_=>false)
def lk [DecidableEq κ](kvs:List (κ×Sv))(x:κ):Option Sv:=(kvs.find? fun p=>decide (p.1=x)).map (·.2)
def putL [DecidableEq κ](kvs:List (κ×Sv))(x:κ)(v:Sv):List (κ×Sv):=if(kvs.any fun p=>decide (p.1=x))=true then kvs.map (fun p=>if p.1=x then(p.1,v)else p)else kvs++[(x,v)]
theorem x2z [DecidableEq κ](x:κ):∀kvs:List (κ×Sv),valV (kvV kvs) x=(lk kvs x).map sV
 |[]=>rfl
 |p::r=>by
  have ih:=x2z x r
  by_cases h:p.1=x
  ·have e1:valV (kvV (p::r)) x=some (sV p.2):=q5r (p:=(p.1,sV p.2)) h;rw[e1];simp[lk,w1y,h]
  ·have e1:valV (kvV (p::r)) x=valV (kvV r) x:=q4p (p:=(p.1,sV p.2)) h;rw[e1,ih];simp[lk,w1y,h]
theorem z1b [DecidableEq κ](x:κ)(v:Sv)(kvs:List (κ×Sv)):putK (kvV kvs) x (sV v)=kvV (putL kvs x v):=by
 unfold putK putL kvV;rw[List.any_map];have e:((fun kv:κ×V=>decide (kv.1=x)) ∘ fun p:κ×Sv=>(p.1,sV p.2))=fun p:κ×Sv=>decide (p.1=x):=rfl
 rw[e];split
 ·rw[w1g,w1g];refine w1i fun p _=>?_
  simp only[Function.comp];split<;>rfl
 ·rw[w0n];rfl
def keyW:W->Option Key
 |.int i=>some (.inl i)
 |.str x=>some (.inr x)
 |_=>none
def svW:W->Option Sv
 |.int i=>some (.inl i)
 |.bl b=>some (.inr b)
 |_=>none
def wSv:Sv->W
 |.inl i=>.int i
 |.inr b=>.bl b
theorem q96{k:Key}(p:Rep K G w v)(h:keyW w=some k):v=kV k:=by
 cases w<;>cases h<;>exact p
theorem z1c{k:Sv}(p:Rep K G w v)(h:svW w=some k):v=sV k:=by
 cases w<;>cases h<;>exact p
theorem x8s(k:Sv):Rep K G (wSv k) (sV k):=by cases k<;>rfl
def dicOf:W->Option (List (Key×Sv))
 |.dic (.k kvs)=>some kvs
 |_=>none
theorem x20{kvs:List (Key×Sv)}(h:dicOf w=some kvs):w=.dic (.k kvs):=by
 cases w with
 |dic d=>cases d<;>cases h;rfl
 |_=>cases h
def ninD(w d:W):Option W:=(keyW w).bind fun k=>(dicOf d).map fun kvs=>.bl (!(lk kvs k).isSome)
def ixD(d w:W):Option W:=(keyW w).bind fun k=>(dicOf d).bind fun kvs=>(lk kvs k).map wSv
theorem y6y:Op2 K (fun y x H Q=>∃a o,x=.ref a/\DGet H a y o/\Q (.bl (!o.isSome)) H) ninD:=by
 intro G H x y wx wy w Q s px py hf h;obtain⟨k,hk,hf⟩:=w1l.mp hf;obtain⟨kvs,hd,hf⟩:=w0d.mp hf;cases hf;cases q96 px hk;cases x20 hd;obtain⟨e,rfl,he⟩:=py;refine⟨e,_,rfl,DGet.k (k:=k) (s _ _ he),h G _ H (.refl s) ?_⟩;rw[x2z,w3d];rfl
theorem z1d:Op2 K (fun x y H Q=>∃a v,x=.ref a/\DGet H a y (some v)/\Q v H) ixD:=by
 intro G H x y wx wy w Q s px py hf h;obtain⟨k,hk,hf⟩:=w1l.mp hf;obtain⟨kvs,hd,hf⟩:=w1l.mp hf;obtain⟨v,hv,rfl⟩:=w0d.mp hf;cases q96 py hk;cases x20 hd;obtain⟨e,rfl,he⟩:=px;have g:=DGet.k (k:=k) (s _ _ he);rw[x2z,hv]at g;exact⟨e,_,rfl,g,h G _ H (.refl s) (x8s v)⟩
section
variable{a b e k:Expr}{da db:Den W}{p tpos:Pos}
theorem y6z(hu:X.A.units+150<cLine)(ha:DE Z X EE a da)(hb:DE Z X EE b db)(hm:behindInMarks .NotIn b=false:=by rfl):DT Z X EE (.Compare a [.NotIn] [b] pos) (dTest (dOp ninD da db)):=
 PT.mono (x6k (x05 (by omega) ha hb) hm) fun σ H Q h=>q32 y6y σ H _ (q67 h)
theorem z1e(hu:X.A.units+150<cLine)(ha:DE Z X EE a da)(hb:DE Z X EE b db)(hs:NoSl b:=by intro _ _;rfl):DE Z X EE (.Subscript a b pos) (dOp ixD da db):=
 PE.mono (x4t (by omega) ha hb hs) (q32 z1d)
theorem Rel.dic{e:List S}(r:Rel K Z G σ H e){kvs:Dd}(h:e[i]?=some (.dic kvs)):∃a,σ[i]?=some (some (.ref a))/\H a=some (dO kvs)/\G a=none/\Z.H a=none:=by
 obtain⟨a,h1,h2,h3,h4⟩:=r.slot i _ h;refine⟨a,?_,h2,h3,h4⟩;cases q:σ[i]? with
 |none=>rw[q]at h1;cases h1
 |some z=>rw[q]at h1;rw[show z=some (.ref a)from h1]
theorem Rel.setDic{e:List S}(r:Rel K Z G σ H e){kvs:Dd}{a:Addr}(h2:H a=some (dO kvs))(h3:G a=none)(h4:Z.H a=none):Rel K Z G (σ.set i (some (.ref a))) H (e.set i (.dic kvs)):=by
 refine⟨r.sub,fun j s z=>?_,by simpa using r.len,fun j k b1 b2 w1 w2 c z1 z2 z3 z4=>?_,r.ent,r.ion,r.gen⟩
 ·by_cases hj:j=i
  ·subst hj
   have hi:j<e.length:=by
    have:=(w0b.mp z).1;simpa using this
   rw[w0g hi]at z;cases z;rw[w0g (by rw[<- r.len];exact hi)];exact⟨a,rfl,h2,h3,h4⟩
  ·rw[w0f (fun z=>hj z.symm)]at z |-
   exact r.slot j s z
 ·have old:∀(k:Nat)(bb:Option Nat)(ww:List W),(e.set i (S.dic kvs))[k]?=some (.own bb ww)->k≠i/\e[k]?=some (.own bb ww):=fun k bb ww z=>by
   by_cases hk:k=i
   ·subst hk
    have hi:k<e.length:=by
     have:=(w0b.mp z).1;simpa using this
    rw[w0g hi]at z;cases z
   ·rw[w0f (fun z=>hk z.symm)]at z;exact⟨hk,z⟩
  obtain⟨n1,q1⟩:=old _ _ _ z1;obtain⟨n2,q2⟩:=old _ _ _ z2;rw[w0f (fun z=>n1 z.symm)]at z3
  rw[w0f (fun z=>n2 z.symm)]at z4
  exact r.dis _ _ _ _ _ _ _ q1 q2 z3 z4
def isD:S->Bool
 |.dic _=>true
 |.dw sh _ _=>sh.isI
 |_=>false
theorem Rel.mutDic{e:List S}(r:Rel K Z G σ H e){kvs kvs':Dd}{a:Addr}(h:e[i]?=some (.dic kvs))(ha:σ[i]?=some (some (.ref a)))(ho:∀j s,j≠i->e[j]?=some s->isD s=false):Rel K Z G σ (upd H a (dO kvs')) (e.set i (.dic kvs')):=by
 obtain⟨a',h1,h2,h3,h4⟩:=r.dic h;rw[ha]at h1;cases h1;have hi:i<e.length:=(w0b.mp h).1;refine⟨fun c o z=>?_,fun j s z=>?_,by simpa using r.len,fun j k b1 b2 w1 w2 c z1 z2 z3 z4=>?_,fun c o z n=>?_,fun c z=>?_,r.gen⟩
 ·rw[q0b (q0i z h3)];exact r.sub c o z
 ·by_cases hj:j=i
  ·subst hj;rw[w0g hi]at z;cases z;exact⟨a,by rw[ha];rfl,q0f,h3,h4⟩
  ·rw[w0f (fun z=>hj z.symm)]at z
   have y:=r.slot j s z;cases s with
   |no=>trivial
   |fr w=>exact y
   |own b2 w2=>
    obtain⟨c,ys,y1,y2,y3,y4,y5⟩:=y;refine⟨c,ys,y1,?_,y3,y4,y5⟩;rw[q0b (q0o y2 h2 (fun z=>q2l rfl z.symm))];exact y2
   |dic kv=>have:=ho j _ hj z;cases this
   |thr us w2 vs=>
    obtain⟨t,l,o,xs2,ys,zs,y1,y2,y3,y4,y5,y6⟩:=y;refine⟨t,l,o,xs2,ys,zs,y1,y2,?_,y4,y5,y6⟩;rw[q0b (q0o y3 h2 (fun z=>q2l rfl z.symm))];exact y3
   |nest wss=>exact NestOk.move y (.refl _) fun l o ys k1 k2 k3=>⟨by rw[q0b (q0o k1 h2 (fun z=>q2l rfl z.symm))];exact k1,k2,k3⟩
   |x k=>exact XOk.move y (.refl _) fun l o ys k1 k2 k3=>⟨by rw[q0b (q0o k1 h2 (fun z=>q2l rfl z.symm))];exact k1,k2,k3⟩
   |dw sh ks ws=>
    have hI:sh.isI=false:=ho j _ hj z;exact DwOk.move y (.refl _) fun l o ys k1 k2 k3=>⟨by rw[q0b (q0o k1 h2 (fun z=>by rw[q7q hI]at z;exact q2l rfl z.symm))];exact k1,k2,k3⟩
 ·have old:∀(k:Nat)(bb:Option Nat)(ww:List W),(e.set i (S.dic kvs'))[k]?=some (.own bb ww)->e[k]?=some (.own bb ww):=fun k bb ww z=>by
   by_cases hk:k=i
   ·subst hk;rw[w0g hi]at z;cases z
   ·rw[w0f (fun z=>hk z.symm)]at z;exact z
  exact r.dis _ _ _ _ _ _ _ (old _ _ _ z1) (old _ _ _ z2) z3 z4
 ·rw[q0b (q0i z h4)];exact r.ent c o z n
 ·by_cases hc:c=a
  ·subst hc;rw[q0f];exact fun z=>nomatch z
  ·rw[q0b hc];exact r.ion c z
def dRetD(i:Nat):List S->SR:=fun e=>match e[i]? with
 |some (.dic d)=>.rt (.dic d) e
 |_=>.no
def onlyD(i:Nat)(e:List S):Bool:=(List.range e.length).all fun j=>decide (j=i)||!((e[j]?.map isD).getD false)
theorem y60{e:List S}(h:onlyD i e=true):∀j s,j≠i->e[j]?=some s->isD s=false:=fun j s hj hs=>by
 have hl:j<e.length:=(w0b.mp hs).1;have:=w0s.mp h j (w0o.mpr hl);rw[hs]at this
 simpa [hj]using this
def putDC(i:Nat)(w kw:W)(e:List S):Option S->SR
 |some (.dic (.k kvs))=>match svW w,keyW kw with
  |some v,some x=>if kvs.length<16777216/\onlyD i e=true then .nx (e.set i (.dic (.k (putL kvs x v))))else .no
  |_,_=>.no
 |_=>.no
def dPutD(i:Nat)(d dk:Den W):List S->SR:=fun e=>(d e).stm fun w e1=>match e1[i]? with
 |some (.dic _)=>(dk e1).stm fun kw e2=>putDC i w kw e2 e2[i]?
 |_=>.no
theorem y61(i:Nat)(hu:X.A.units+150<cLine)(he:DE Z X EE e d)(hk:DE Z X EE k dk)(hN:X.N[i]?=some x:=by rfl)(hv:Vis X.env.scope x:=by walk_at "1")(hd:(x==("__debug__":Str))=false:=by decide)(hcd:(x==("__classdict__":Str))=false:=by decide)
  (hs:swapsWith e (some (.Subscript (.Name x p) k tpos)) pos.line X.env=pure false:=by rfl):DS Z X EE (.Assign [.Subscript (.Name x p) k tpos] e pos) (dPutD i d dk):=by
 refine PS.mono (x4u (by omega) (pv i hN hv hd hcd) hk he hs) ?_;rintro D σ H ⟨G,e,rel,h⟩;refine⟨G,e,rel,(q0r h).imp (fun w e1 h G1 v1 H1 r1 s1 p1=>?_) fun _ _ h=>h⟩
 split at h
 ·rename_i kv0 he0;obtain⟨a,q1,q2,q3,q4⟩:=r1.dic he0;refine⟨.ref a,q1,G1,e1,r1,(q0r (σ:=σ) h).imp (fun kw e2 h G2 v2 H2 r2 s2 p2=>?_) fun _ _ h G' H' r s=>h G' H' r (s1.trans s)⟩
  unfold putDC at h;split at h
  ·rename_i kvs he2;obtain⟨a',g1,g2,g3,g4⟩:=r2.dic he2;rw[q1]at g1;cases g1;split at h
   ·rename_i v t hv1 hk1;split at h
    ·rename_i hc;cases z1c p1 hv1;cases q96 p2 hk1;refine⟨a,_,rfl,DPut.k (k:=t) g2 (by rw[sizeLine_eq];unfold kvV;rw[w0a];exact hc.1),?_⟩;rw[z1b];exact h G2 σ _ (r2.mutDic (kvs':=.k (putL kvs t v)) he2 q1 (y60 hc.2)) (s1.trans s2)
    ·exact h.elim
   ·exact h.elim
  ·exact h.elim
 ·exact h.elim
end
def lkB(kvs:List (Key×Sv))(k:Key):Option Bool:=match lk kvs k with
 |some (.inr b)=>some b
 |_=>none
def keysB(kvs l:List (Key×Sv)):List Key:=(l.filter fun p=>lkB kvs p.1==some true).map (·.1)
def kW:Key->W
 |.inl i=>.int i
 |.inr x=>.str x
def keysC(e:List S):Option S->R (List W)
 |some (.dic (.k kvs))=>if kvs.length<16777216/\(kvs.all fun p=>(lkB kvs p.1).isSome)=true then .ok ((keysB kvs kvs).map kW) e else .no
 |_=>.no
section
variable{kw:W}{kvs:List (Key×Sv)}
theorem y62:keysC e (some (.dic (.k kvs)))=if kvs.length<16777216/\(kvs.all fun p=>(lkB kvs p.1).isSome)=true then .ok ((keysB kvs kvs).map kW) e else .no:=rfl
def putD0(i:Nat)(dk:Den W)(w:W)(e1:List S):Option S->SR
 |some (.dic _)=>(dk e1).stm fun kw e2=>putDC i w kw e2 e2[i]?
 |_=>.no
theorem y63:dPutD i d dk e=(d e).stm fun w e1=>putD0 i dk w e1 e1[i]?:=by
 unfold dPutD putD0;rfl
theorem y64{dd:Dd}:putD0 i dk w e (some (.dic dd))=(dk e).stm fun kw e2=>putDC i w kw e2 e2[i]?:=rfl
theorem y1r{b:Bool}:putDC i (.bl b) (.int n) e (some (.dic (.k kvs)))=if kvs.length<16777216/\onlyD i e=true then .nx (e.set i (.dic (.k (putL kvs (.inl n) (.inr b)))))else .no:=rfl
theorem y1s{dd:Dd}:hide1 (.dic dd)=.fr (.dic dd):=rfl
theorem z1f:ninD (.int n) (.dic (.k kvs))=some (.bl (!(lk kvs (.inl n)).isSome)):=rfl
theorem z4a:ixD (.dic (.k kvs)) (.int n)=(lk kvs (.inl n)).map wSv:=rfl
end
end D
namespace L2
open PySem PySem.Spec PyProof.Rows
theorem x8t{P:Program}{w:World}{K:Fg}{mg mb:Str->Option Value}{CX:CXT}{k:Nat}{fa a:Addr}{fd:FuncData}{x:Str}{sp:Sp}{s₁:Shared}{vs:List Value}{ns:List Int}{tabs:List (Addr×Str)}
  (KX:K.In s₁.heap)(hns:s₁.heap.Ns mainGlobals mg)(hb:s₁.heap.Ns builtinsNs mb)(hbb:∀x:Str,x≠"__name__"->mb x=bootBuiltins x)(hlim:s₁.heap.NoLimit)(hg:s₁.gens=#[])
  (ha:s₁.heap.get? a=some {cls:=.type "list", data:=.seq vs.toArray})(hi:IntsAre vs ns)(hl:ns.length<=sizeLine)(hr:Room k callerA)
  (F:∀base:Heap,K.In base->base.Ns mainGlobals mg->BMain base mg->FnOk P w K mg base CX k fa fd [x] sp)(hbind:∀(s:Shared)(u:Value),BindsTo s fd ⟨[u],[]⟩ [(x,u)])
  (hsp:∀H:Hp,SqL K H a (ns.map V.int)->sp [.ref a] H (fun v _=>v=.bl true) fun _ _ _=>False)
  (hCX:∀H e s',CX [] H s₁ (fun _ _ _=>False) e s'->False)
  (hBM:BMain s₁.heap mg)(hM:∀a q P,(a,markO P q)∈K->tabs.lookup P=some q)(hT:∀P q,tabs.lookup P=some q->s₁.heap.get? P=some (tabObj #[])/\isCodeTable s₁.heap P)(hKT:∀P q,tabs.lookup P=some q->K.lookup P=none):
  codeAny (model P w) callerA (.call (.ref fa) ⟨[.ref a],[]⟩) (fun r s'=>r=.ok (.ret (.bool true))/\OldK s₁.heap s'.heap/\s'.os=s₁.os/\AllBare s'.gens) s₁:=by
 have rv:=q63 hi;have lenV:=hi.length
 have aT:tabs.lookup a=none:=by
  cases q:tabs.lookup a with
  |none=>rfl
  |some t=>rw[(hT a t q).1]at ha;cases ha
 have core:∀H0:Hp,(∀b,H0 b=none\/∃o xs,H0 b=some (.frz o (.lst xs)))->SqL K H0 a (ns.map V.int)->HOk P w H0 s₁.heap->(∀b,H0 b≠none->b=a)->(H0 a≠none->K.lookup a=none) ->
   codeAny (model P w) callerA (.call (.ref fa) ⟨[.ref a],[]⟩) (fun r s'=>r=.ok (.ret (.bool true))/\OldK s₁.heap s'.heap/\s'.os=s₁.os/\AllBare s'.gens) s₁:=by
  intro H0 hO hS0 hok0 hA hK;obtain⟨H,hH⟩:∃H:Hp,H=fun b=>match tabs.lookup b with|some q=>some (.tbl #[.bool true,.str q 0])|none=>H0 b:=⟨_,rfl⟩
  have inT:∀b q,tabs.lookup b=some q->H b=some (.tbl #[.bool true,.str q 0]):=fun b q z=>by rw[hH];simp only[z]
  have outT:∀b,tabs.lookup b=none->H b=H0 b:=fun b z=>by rw[hH];simp only[z]
  have up:∀b u,H0 b=some u->H b=some u:=fun b u z=>by
   have:b=a:=hA b (by rw[z];simp);subst this;rw[outT b aT];exact z
  have hS:SqL K H a (ns.map V.int):=by
   rcases hS0 with(z|⟨o,z⟩)|z
   ·exact .inl (.inl (up _ _ z))
   ·exact .inl (.inr ⟨o,up _ _ z⟩)
   ·exact .inr z
  have hok:HOk P w H s₁.heap:=fun b u z=>by
   cases q:tabs.lookup b with
   |some t=>
    rw[inT b t q]at z;cases z;exact .inl ⟨t,#[],rfl,rfl,(hT b t q).1,trivial,fun pos cv z=>by cases z⟩
   |none=>
    rw[outT b q]at z;exact(hok0 b u z).stay (fun c v _ q=>q) (fun c q=>up c _ q) fun c v _ q=>up c v q
  have base_of:∀{b:Addr}{o:Obj},s₁.heap.get? b=some o->H b=none->(hidT s₁.heap H).get? b=some o:=fun e n=>x1z e n
  have free:∀{b:Addr}{o:Obj},s₁.heap.get? b=some o->o≠{cls:=.type "list", data:=.seq vs.toArray}->o≠tabObj #[]->H b=none:=fun {b o} e d1 d2=>by
   cases q:tabs.lookup b with
   |some t=>rw[(hT b t q).1]at e;cases e;exact absurd rfl d2
   |none=>
    rw[outT b q];cases q0:H0 b with
    |none=>rfl
    |some u=>
     have e':b=a:=hA b (by rw[q0];simp);subst e';rw[ha]at e;cases e;exact absurd rfl d1
  have nsK:∀{b:Addr}{m:Str->Option Value},s₁.heap.Ns b m->(hidT s₁.heap H).Ns b m:=fun {b m} ⟨o,es,ep,e,d,r⟩=>⟨o,es,ep,base_of e (free e (fun z=>by rw[z]at d;cases d) fun z=>by rw[z]at d;cases d),d,r⟩
  have hKb:K.In (hidT s₁.heap H):=fun b o e=>base_of (KX b o e) (by
   cases q:tabs.lookup b with
   |some t=>rw[hKT b t q]at e;cases e
   |none=>
    rw[outT b q];cases q0:H0 b with
    |none=>rfl
    |some u=>
     have e':b=a:=hA b (by rw[q0];simp);subst e';rw[hK (by rw[q0];simp)]at e;cases e)
  have hBb:BMain (hidT s₁.heap H) mg:=by
   obtain⟨bm,ob,b1,b2,b3,b4,b5,b6⟩:=hBM;exact⟨bm,ob,b1,b2,base_of b3 (free b3 (fun z=>by rw[z]at b4;simp at b4) fun z=>by rw[z]at b4;cases b4),b4,b5,b6⟩
  have hMd:Mod K mg (hidT s₁.heap H):=⟨hKb,nsK hns,⟨mb,nsK hb,hbb⟩,let ⟨mc,h1,h2⟩:=hlim;⟨mc,nsK h1,h2⟩⟩;have e0:Env0 P w K mg (hidT s₁.heap H) callerA [] s₁ H:=⟨rfl,hMd,fun b o e=>x4f e,Nat.le_of_eq (x0p _ _),trivial,fun b hb=>absurd (show b∈([]:List Addr)from hb) (by simp),hok,.of_eq hg,fun a q P m=>⟨_,inT P q (hM a q P m),rfl,rfl⟩⟩
  refine codeAny_mono ((F _ hKb (nsK hns) hBb).run callerA [] s₁ H ⟨[.ref a],[]⟩ [.ref a] [.ref a] _ _ hr e0 (hbind s₁ (.ref a)) (.cons rfl .nil) (hsp H hS)) fun r s' h=>?_
  cases r with
  |error e=>exact(hCX H e s' h).elim
  |ok fl=>
   cases fl with
   |next=>exact False.elim h
   |brk=>exact False.elim h
   |cont=>exact False.elim h
   |ret u=>
    obtain⟨v,H',os,bare,un,hok',r',q⟩:=h;have q':v=.bl true:=q;subst q';obtain rfl:u=Value.bool true:=r'
    have kp:∀b o,tabs.lookup b=none->s₁.heap.get? b=some o->s'.heap.get? b=some o:=fun b o z e=>by
     cases q:H b with
     |none=>exact un.keep b o e q (by intro z;exact absurd (show b∈([]:List Addr)from z) (by simp)) (by simp)
     |some u=>
      have q0:=q;rw[outT b z]at q0;rcases hO b with z|⟨ob,xs,z⟩
      ·rw[q0]at z;cases z
      ·rw[q0]at z;cases z;have z2:=un.frzs b ob _ q;obtain⟨e1,_⟩:=(show s₁.heap.get? b=some ob/\_ from hok b _ q);obtain⟨e2,_⟩:=(show s'.heap.get? b=some ob/\_ from hok' b _ z2);rw[e]at e1;cases e1;exact e2
    have gr:∀b t,tabs.lookup b=some t->∃qs,s'.heap.get? b=some (tabObj qs):=fun b t z=>by
     obtain⟨more,e⟩:=un.tbls b _ (inT b t z);have o1:ObjOk P w H' s'.heap b (.tbl (#[.bool true,.str t 0]++more)):=hok' b _ e;rcases o1 with⟨_,qs,_,_,g,_⟩|⟨_,_,_,_,_,_,p0,_⟩
     ·exact⟨qs,g⟩
     ·rw[w1s (by simp)]at p0;cases p0
    refine⟨rfl,⟨fun b o e=>?_,fun b o e=>?_⟩,os,bare⟩
    ·cases z:tabs.lookup b with
     |none=>exact .inl (kp b o z e)
     |some t=>
      obtain⟨qs,g⟩:=gr b t z;obtain⟨g1,g2⟩:=hT b t z;rw[e]at g1;cases g1;exact .inr (.inl ⟨g2,rfl,#[],qs,rfl,by rw[Array.empty_append];exact g⟩)
    ·cases z:tabs.lookup b with
     |none=>exact⟨o,kp b o z e⟩
     |some t=>
      obtain⟨qs,g⟩:=gr b t z;exact⟨_,g⟩
 cases hk:K.lookup a with
 |some o=>
  have e:=KX a o hk;rw[ha]at e;cases e;refine core (fun _=>none) (fun _=>.inl rfl) (.inr ⟨_,vs.toArray,_,hk,rfl,rfl,rfl,by rw[w0e,lenV];exact hl,by simpa using rv⟩) (fun b u z=>by have z':(none:Option HO)=some u:=z;cases z') (fun b z=>absurd rfl z) fun z=>absurd rfl z
 |none=>
  refine core (fun b=>if b=a then some (.frz {cls:=.type "list", data:=.seq vs.toArray} (.lst (ns.map V.int)))else none) (fun b=>?_) (.inl (.inr ⟨{cls:=.type "list", data:=.seq vs.toArray},if_pos rfl⟩)) (fun b u z=>?_) (fun b z=>?_) fun _=>hk
  ·by_cases hb:b=a
   ·exact .inr ⟨_,_,if_pos hb⟩
   ·exact .inl (if_neg hb)
  ·by_cases hb:b=a
   ·have z':=(if_pos hb).symm.trans z;cases z';subst hb;exact⟨ha,by rw[w0a];exact hl,vs,_,rv,ha⟩
   ·have z':=(if_neg hb).symm.trans z;cases z'
  ·by_cases hb:b=a
   ·exact hb
   ·exact absurd (if_neg hb) z
theorem y1t{l:PySem.W.OpenLaw}{n k:Nat}{q:Program}{loose:List Str}{XP:(Str->Option Value)->Heap->Prop}{YP:World->Heap->Prop}{d:DefRec}{K:Params->Fg}{CX:World->CXT}{sp:World->Sp}{x:Str}{tabs:List (Addr×Str)}
  (hn:l.most=some n)(hn2:n<=sizeLine)(hdf:d.params.defaults=[])(hr:Room k callerA)
  (hY:∀(w:World)(h:Heap),YP w h->(K w.params).In h)
  (F:∀(w:World)(mg:Str->Option Value)(fa:Addr)(h:Heap),(K w.params).In h->h.Ns mainGlobals mg->mg d.name=some (.ref fa) ->
   ∃fd:FuncData,(∀(s:Shared)(u:Value),BindsTo s fd ⟨[u],[]⟩ [(x,u)]) /\
    ∀base:Heap,(K w.params).In base->base.Ns mainGlobals mg->BMain base mg->FnOk l.prog w (K w.params) mg base (CX w) k fa fd [x] (sp w))
  (hsp:∀(w:World)(H:Hp)(a:Addr)(ns:List Int),ns.length<=n->SqL (K w.params) H a (ns.map V.int)->sp w [.ref a] H (fun v _=>v=.bl true) fun _ _ _=>False)
  (hCX:∀(w:World)(H:Hp)(s:Shared)(e:Value)(s':Shared),CX w [] H s (fun _ _ _=>False) e s'->False)
  (hM:∀(w:World) a q P,(a,markO P q)∈K w.params->tabs.lookup P=some q)(hT:∀(w:World)(h:Heap),YP w h->∀P q,tabs.lookup P=some q->h.get? P=some (tabObj #[])/\isCodeTable h P)(hKT:∀(w:World) P q,tabs.lookup P=some q->(K w.params).lookup P=none):
  PySem.W.WalkO q loose XP YP l.row.toRowW d [] (fun f vs=>PySem.call f vs):=by
 refine Att.attach_call hn hdf fun w s₀ s₁ mg mb fa o pm cd doc a vs ns G Y ho hd hcd hmg hobj hints hlen hg=>?_
 have KX:=hY w _ Y;obtain⟨fd,hb,hF⟩:=F w mg fa _ KX G.T.g hmg;exact x8t KX G.T.g G.T.b G.T.builtins G.T.nolimit hg hobj hints (w1d hlen hn2) hr hF hb (fun H hS=>hsp w H a ns hlen hS) (fun H e s'=>hCX w H s₁ e s') G.T.bmain (hM w) (hT w _ Y) (hKT w)
def tD1(tk tv:TE):TE:=fun σ H Q=>∀p,H p=none->tk σ (upd H p (.dK [])) fun k H1=>tv σ H1 fun v H2=>∃kk,k=kV kk/\H2 p=some (.dK [])/\Q (.ref p) (upd H2 p (.dK [(kk,v)]))
section
variable{X:Cx}{ek ev:Expr}{tk tv:TE}{pos:Pos}
theorem z4b(hk:PE X ek tk)(hv:PE X ev tv):PE X (.Dict [some ek] [ev] pos) (tD1 tk tv):=by
 intro pins s σ H Q I h;refine wpAny_Dict_any rfl rfl (by simp) (by simp) ?_;have fr:H s.heap.objs.size=none:=I.hok.fresh (w0j _);have I0:=I.laid (a:=s.heap.objs.size) (o:=.dK []) (t':=s.toks) (fun _ _ q=>Heap.get?_push_of_some _ q) (w0j _) (y1j s.heap I.big)
 show wpAny _ _ (evalPairs [(eval ek X.env,do let x <- eval ev X.env;standAt pos;pure x)]) _ _ _;refine evalPairs_cons (thn (hk pins _ σ _ _ I0 (h _ fr)) fun ku s1 ⟨k,H1,I1,rk,q1⟩=>?_)
 refine wpAny_bind (thn (hv pins s1 σ H1 _ I1 q1) fun vu s2 ⟨v,H2,I2,rv,kk,e,hp,q⟩=>wpAny_bind (wpAny_standAt (wpAny_pure (evalPairs_nil ?_))))
 subst e;obtain⟨z,hd,vs,rel,dd⟩:=y33 I2.hok hp;cases rel;refine wpAny_storeAll (knd:=mixKind X.prog X.w) [(ku,vu)] [(kk,vu)] [] s2 _ ⟨x1v rk,rfl,trivial⟩ dd (by rw[sizeLine_eq];simp) fun h' dd' hs=>?_
 have he:∃q,h'.get? s.heap.objs.size=some q:=let ⟨q,_,_,hq,_⟩:=dd';⟨q,hq⟩;have dd2:h'.DictOf (mixKind X.prog X.w) s.heap.objs.size [(kk,vu)]:=dd';refine⟨.ref s.heap.objs.size,_,q93 I2 (by rw[hp];exact True.intro) hs he (x8j (kvs:=[(kk,v)]) (by rw[sizeLine_eq];simp) hd (.cons ⟨rfl,rv⟩ .nil) dd2),rfl,q⟩
end
end L2
namespace D
open PySem L2
variable{X:Cx}{dA:Den (List W)}{G H:Hp}{EE:L2.St->XK}{es:List Expr}{e:List S}{N ps:List Str}{i:Nat}{r:Nat->List W->FR}{p pos:Pos}{K:Fg}{x:Str}{Z:Zt}
mutual
def noFn:W->Bool
 |.tup ws=>noFns ws
 |.lst ws=>noFns ws
 |.dw _ _ _ ws=>noFns ws
 |.fn _ _ _=>false
 |.non=>true
 |.bl _=>true
 |.int _=>true
 |.str _=>true
 |.exc _=>true
 |.dic _=>true
def noFns:List W->Bool
 |[]=>true
 |w::ws=>noFn w&&noFns ws
end
section
variable{cs:Cs}
theorem Rd.rm{a:Addr}{u:HO}(c:CelsIn G cs)(h:Rd G a u)(n:∀o,u≠celO o)(n2:∀φ,u≠.ext φ):Rd (rmC G cs) a u:=by
 rcases h with h|⟨o,h⟩
 ·exact .inl (c.rm_some h n)
 ·exact .inr ⟨o,c.rm_some h fun o' z=>by cases z;exact n2 _ rfl⟩
theorem KeysG.rm(c:CelsIn G cs):∀{ks:List Kx}{bs:List Addr},KeysG G ks bs->KeysG (rmC G cs) ks bs
 |[],[],_=>trivial
 |k::ks,b::bs,h=>⟨KRep.keeps (fun _ _ t z=>c.rm_some z (q76 t)) k h.1,KeysG.rm c h.2⟩
 |[],_::_,h=>h.elim
 |_::_,[],h=>h.elim
theorem KeysS.rm{sh:Sh}(c:CelsIn G cs){ks:List Kx}{bs:List Addr}(h:KeysS sh G ks bs):KeysS sh (rmC G cs) ks bs:=by
 unfold KeysS at h |-
 split at h
 ·rename_i hi;rw[if_pos hi];exact h
 ·rename_i hi;rw[if_neg hi];exact h.rm c
mutual
theorem Rep.rm(c:CelsIn G cs):∀(w:W){v:V},noFn w=true->Rep K G w v->Rep K (rmC G cs) w v
 |.non,v,_,h=>h
 |.bl b,v,_,h=>h
 |.int i,v,_,h=>h
 |.str x,v,_,h=>h
 |.tup ws,v,n,h=>by
  obtain⟨a,xs,rfl,q,r⟩:=h;refine⟨a,xs,rfl,?_,Reps.rm c ws n r⟩;rcases q with q|q
  ·exact .inl (Rd.rm c q (fun o z=>nomatch z) fun φ z=>nomatch z)
  ·exact .inr q
 |.lst ws,v,n,h=>by
  obtain⟨a,xs,rfl,q,r⟩:=h;refine⟨a,xs,rfl,?_,Reps.rm c ws n r⟩;rcases q with q|q
  ·exact .inl (Rd.rm c q (fun o z=>nomatch z) fun φ z=>nomatch z)
  ·exact .inr q
 |.exc e,v,_,h=>by
  obtain⟨a,rfl,q⟩:=h;exact⟨a,rfl,c.rm_some q fun o z=>by unfold excO at z;cases z⟩
 |.dic kvs,v,_,h=>by
  obtain⟨a,rfl,q⟩:=h;exact⟨a,rfl,c.rm_some q fun o z=>by cases kvs;cases z⟩
 |.dw fz sh ks ws,v,n,h=>by
  obtain⟨a,kvs,kas,rfl,h1,h2,h3,h4⟩:=h;refine⟨a,kvs,kas,rfl,?_,h2,KeysS.rm c h3,Reps.rm c ws n h4⟩;cases fz with
  |true=>obtain⟨o,h1⟩:=h1;exact⟨o,c.rm_some h1 fun o z=>by injection z with _ z;exact q18 rfl z⟩
  |false=>exact c.rm_some h1 fun o z=>q18 rfl z
 |.fn _ _ _,v,n,_=>by cases n
theorem Reps.rm(c:CelsIn G cs):∀(ws:List W){xs:List V},noFns ws=true->Reps K G ws xs->Reps K (rmC G cs) ws xs
 |[],xs,_,h=>h
 |w::ws,xs,n,h=>by
  obtain⟨x,r,rfl,h1,h2⟩:=h
  have n':noFn w=true/\noFns ws=true:=by
   have:(noFn w&&noFns ws)=true:=n
   rwa [w0y]at this
  exact⟨x,r,rfl,Rep.rm c w n'.1 h1,Reps.rm c ws n'.2 h2⟩
end
end
section
variable{G' H':Hp}{cs:Cs}
theorem x21(h:∀b o,cs.lookup b=some o->H b=none):Same H (addC H cs):=fun b u e=>by
 cases q:cs.lookup b with
 |some o=>rw[h b o q]at e;cases e
 |none=>rw[q0q q];exact e
theorem x07(h:Same G H):Same (addC G cs) (addC H cs):=fun b u e=>by
 cases q:cs.lookup b with
 |some o=>rw[q15 q]at e |-;exact e
 |none=>rw[q0q q]at e |-;exact h b u e
theorem x22(h:Same G H):Same (rmC G cs) (rmC H cs):=fun b u e=>by
 obtain⟨e1,e2⟩:=x5q e;rw[q05 e2];exact h b u e1
theorem Grow.lam(ch:CelsIn H cs)(cg:CelsIn G cs)(e1:Same (rmC H cs) H')(e2:Same (rmC G cs) G')(e3:Same G' H')(e4:∀a,rmC H cs a≠none->G' a=rmC G cs a):Grow G H (addC G' cs) (addC H' cs) where
 hh:=fun b u e=>by
  cases q:cs.lookup b with
  |some o=>rw[q15 q];rw[ch b o q]at e;exact e
  |none=>rw[q0q q];exact e1 b u (by rw[q05 q];exact e)
 gg:=fun b u e=>by
  cases q:cs.lookup b with
  |some o=>rw[q15 q];rw[cg b o q]at e;exact e
  |none=>rw[q0q q];exact e2 b u (by rw[q05 q];exact e)
 sub:=x07 e3
 new:=fun a ha=>by
  cases q:cs.lookup a with
  |some o=>rw[q15 q,cg a o q]
  |none=>
   rw[q0q q,e4 a (by rw[q05 q];exact ha),q05 q]
theorem Grow.nocells(g:Grow (addC G cs) (addC H cs) G' H')(hn:∀b o,cs.lookup b=some o->H b=none)(sg:Same G H):Grow G H (rmC G' cs) (rmC H' cs) where
 hh:=fun b u e=>by
  cases q:cs.lookup b with
  |some o=>rw[hn b o q]at e;cases e
  |none=>rw[q05 q];exact g.hh b u (by rw[q0q q];exact e)
 gg:=fun b u e=>by
  cases q:cs.lookup b with
  |some o=>have:=sg b u e;rw[hn b o q]at this;cases this
  |none=>rw[q05 q];exact g.gg b u (by rw[q0q q];exact e)
 sub:=x22 g.sub
 new:=fun a ha=>by
  cases q:cs.lookup a with
  |some o=>exact absurd (hn a o q) ha
  |none=>rw[q05 q,g.new a (by rw[q0q q];exact ha),q0q q]
end
def exprFR:R W->FR
 |.ok w _=>.ok (.fr w)
 |.ex c _=>.ex c
 |.no=>.no
def spV(K:Fg)(lams:Nat->Option Lm)(r:Nat->List W->FR):V->List V->Hp->VK->XK->Prop:=fun x vs H Q _=>∃G i l caps ws w,Same G H/\Rep K G (.fn i l caps) x/\Reps K G ws vs/\noFns ws=true/\noFns caps=true/\lams i=some l /\
 r i (ws++caps)=.ok (.fr w)/\∀G' H' v,Grow G H G' H'->Rep K G' w v->Q v H'
structure LamOk(P:Program)(w:World)(K:Fg)(mg:Str->Option Value)(base:Heap)(n:Nat)(l:Lm)(ps:List Str)(F:List W->FR):Prop where
 sc:LamScope ps l.nf l.scope
 bind:∀(cl:List (Str×Addr))(pm:Value)(c':Addr)(ctv:Value)(us:List Value),us.length=ps.length->bindArgs (PySem.W.kla_fn "<lambda>" l.qual l.params l.body l.scope cl pm (.ref c') ctv) ⟨us,[]⟩=pure (ps.zip us)
 len:∀ws,F ws≠.no->ws.length=ps.length+l.nf.length
 body:∀ws,F ws≠.no->∀(Z:Zt)(f:Addr)(cd:Value)(cl:List (Str×Addr))(A:Around)(outer:List Env)(s:Shared)(H:Hp),Room n (A.deeper (lamEnv l.qual l.scope f cd cl s)) ->
  ∃d,DE Z (cxLam P w K mg base (ps++l.nf) l.qual l.scope f cd cl A outer s H) (fun _=>E0) l.body d/\exprFR (d (ws.map .fr))=F ws
theorem z1g{P:Program}{w:World}{mg:Str->Option Value}{base:Heap}{n:Nat}{lams:Nat->Option Lm}(h:∀i l,lams i=some l->∃ps,LamOk P w K mg base n l ps (r i)):
  FnV P w K mg base (CX1 P w) (n+1) (spV K lams r):=by
 rintro x vs H Q E ⟨G,i,l,caps,ws,w',sg,rf,rv,nw,nc,hl,hr,q⟩;obtain⟨ps,L⟩:=h i l hl;obtain⟨f,cl,zs,cs,rfl,⟨pm,c',ctv,ef⟩,FC,rz⟩:=rf;have hn:r i (ws++caps)≠.no:=by rw[hr];exact fun z=>nomatch z
 have hlen:=L.len _ hn;have hz:zs.length=l.nf.length:=FC.len;have hcl:caps.length=l.nf.length:=by rw[<- rz.length];exact hz
 have hwl:ws.length=ps.length:=by rw[w1o,hcl]at hlen;omega
 have hvl:vs.length=ps.length:=by rw[rv.length];exact hwl
 have cg:CelsIn G cs:=fun b o e=>(FC.cel b o e).1
 have ch:CelsIn H cs:=fun b o e=>sg _ _ (cg b o e)
 refine⟨f,_,_,_,_,_,rfl,sg _ _ ef,fun A outer s us hR e0 ru=>?_⟩
 have hul:us.length=ps.length:=by rw[<- ru.length];exact hvl
 have FC2:LamCells cl l.nf l.scope zs s.heap cs:=⟨FC.inj,FC.has,FC.all,fun c o e=>⟨(show s.heap.get? c=some o/\_ from e0.hok c _ (ch c o e)).1,(FC.cel c o e).2⟩,FC.val⟩
 obtain⟨d,hd,he⟩:=L.body _ hn ⟨rmC H cs,rmC G cs,[]⟩ f (.ref c') cl A outer s (rmC H cs) (hR.deeper _);refine y4t hR e0 (sg _ _ ef) L.sc ch FC2 (L.bind cl pm c' ctv us hul) hvl hz ru hd ?_;have sg':Same (rmC G cs) (rmC H cs):=x22 sg;have rr:Reps K (rmC G cs) (ws++caps) (vs++zs):=(Reps.rm cg ws nw rv).append (Reps.rm cg caps nc rz);have rel:=q5p (N:=ps++l.nf) sg' rr
 have e1:L2.start (ps++l.nf) (vs++zs)=vs.map some++zs.map some:=by
  unfold L2.start;rw[show(ps++l.nf).length-(vs++zs).length=0 by simp[hvl,hz],w4d,w1j,w0n]
 have e2:init (ps++l.nf).length (ws++caps)=(ws++caps).map .fr:=by
  unfold init;rw[show(ps++l.nf).length-(ws++caps).length=0 by simp[hwl,hcl],w4d,w1j]
 rw[e1,e2]at rel;refine⟨rmC G cs,_,rel,?_⟩;cases hde:d ((ws++caps).map .fr)with
 |ok w2 e'=>
  rw[hde,hr]at he;cases he;intro G' v H' r' sG rp hnone
  have hn':∀b o,cs.lookup b=some o->G' b=none:=fun b o z=>by
   cases q2:G' b with
   |none=>rfl
   |some u=>have:=r'.sub b u q2;rw[hnone b o z]at this;cases this
  exact q (addC G' cs) (addC H' cs) v (Grow.lam ch cg (fun b u e=>r'.ent b u e (fun z=>nomatch z)) sG r'.sub r'.gen) (Rep.mono (x21 hn') _ rp)
 |ex c e'=>rw[hde,hr]at he;cases he
 |no=>rw[hde,hr]at he;cases he
section
variable{e:Expr}{k:Nat}{lams:Nat->Option Lm}
open Classical in
def callVK(lams:Nat->Option Lm)(r:Nat->List W->FR)(j:Nat)(l:Lm)(caps:List W)(ws:List W)(e1:List S):R W:=
 if lams j=some l/\noFns ws=true/\noFns caps=true then(match r j (ws++caps)with
  |.ok (.fr w)=>.ok w e1
  |_=>.no)else .no
def callV0(lams:Nat->Option Lm)(r:Nat->List W->FR)(dA:Den (List W))(e:List S):Option S->R W
 |some (.fr (.fn j l caps))=>(dA e).bind fun ws e1=>callVK lams r j l caps ws e1
 |_=>.no
def dCallV(lams:Nat->Option Lm)(r:Nat->List W->FR)(i:Nat)(dA:Den (List W)):Den W:=fun e=>callV0 lams r dA e e[i]?
theorem y1u(i:Nat)(F:FnV X.prog X.w X.K X.mg X.base (CX1 X.prog X.w) k (spV X.K lams r))(hr:Room k X.A)(hx:PassX (CX1 X.prog X.w) X EE)(ha:DA Z X EE (e::es) dA)(hv:PE X (.Name x p) (tVar i))
  (he:starEach (e::es) X.env=(false,eval e X.env)::starEach es X.env:=by rfl)(hpl:(backTo pos (starEach es X.env)).any (·.1)=false:=by rfl):
  DE Z X EE (.Call (.Name x p) (e::es) [] pos) (dCallV lams r i dA):=by
 refine PE.mono (x98 F hr hv hx ha he hpl) ?_;rintro σ H Q ⟨G,en,rel,h⟩;unfold dCallV callV0 at h;split at h
 ·rename_i j l caps hs;obtain⟨v,hv,rv⟩:=rel.fr hs;refine⟨v,hv,?_,G,en,rel,?_⟩
  ·obtain⟨f,cl,zs,cs,rfl,⟨pm,c',ctv,ef⟩,_⟩:=rv;exact⟨f,_,_,_,_,_,rfl,rel.sub _ _ ef⟩
  ·rw[R.holds_bind]at h;refine h.imp (fun ws e1 h G1 vs H1 r1 s1 p1=>?_) fun _ _ h=>h
   unfold callVK at h;split at h
   ·rename_i hc;split at h
    ·rename_i w hw;exact⟨G1,j,l,caps,ws,w,r1.sub,Rep.mono s1 (.fn j l caps) rv,p1,hc.2.1,hc.2.2,hc.1,hw,fun G' H' v g rp=>h G' v H' (r1.grow g) (s1.trans g.gg) rp⟩
    ·exact h.elim
   ·exact h.elim
 ·exact h.elim
end
def capsOf:List Nat->List S->Option (List W)
 |[],_=>some []
 |j::js,e=>match e[j]? with
  |some (.fr w)=>(capsOf js e).map (w::·)
  |_=>none
theorem x08{σ:L2.St}(r:Rel K Z G σ H e):∀{js:List Nat}{caps:List W},capsOf js e=some caps->∃zs:List V,Reps K G caps zs/\zs.length=js.length/\∀(i j:Nat) z,js[i]?=some j->zs[i]?=some z->σ[j]?=some (some z)
 |[],caps,h=>by
  cases h;exact⟨[],rfl,rfl,fun i j z h _=>by simp at h⟩
 |j::js,caps,h=>by
  unfold capsOf at h;split at h
  ·rename_i w hw;obtain⟨cs,h1,rfl⟩:=w0d.mp h;obtain⟨zs,r1,r2,r3⟩:=x08 r h1;obtain⟨v,v1,v2⟩:=r.fr hw;refine⟨v::zs,⟨v,zs,rfl,v2,r1⟩,by simp[r2],fun i j' z g1 g2=>?_⟩
   cases i with
   |zero=>
    simp only[w1q,Option.some.injEq]at g1 g2;subst g1;subst g2;exact v1
   |succ i=>exact r3 i j' z (by simpa using g1) (by simpa using g2)
  ·cases h
section
variable{a b:Expr}{da db:Den W}
def repL:W->W->Option (List W)
 |.lst ws,.int k=>if okI k=true/\ws.length*k.toNat<=16777216 then some (List.replicate k.toNat ws).flatten else none
 |_,_=>none
def dRepF(da db:Den W):Den (List W):=fun e=>(da e).bind fun x e1=>(db e1).bind fun y e2=>ofOpt (repL x y) e2
theorem z1h(ha:DE Z X EE a da)(hb:DE Z X EE b db):DF Z X EE (.BinOp a .Mult b pos) (dRepF da db):=by
 refine PE.mono (x5l x4m ha hb) ?_;rintro σ H Q ⟨G,e,rel,h⟩;simp only[dRepF,R.holds_bind,ofOpt_holds]at h;refine⟨G,e,rel,h.imp (fun x e1 h G1 v1 H1 r1 s1 p1=>?_) fun _ _ h=>h⟩
 refine⟨G1,e1,r1,h.imp (fun y e2 h G2 v2 H2 r2 s2 p2=>?_) fun _ _ h G' H' r s=>h G' H' r (s1.trans s)⟩
 obtain⟨out,hf,h⟩:=h;unfold repL at hf;split at hf
 ·rename_i ws k;split at hf
  ·rename_i hc;cases hf;obtain⟨l,xs,rfl,hq,rp⟩:=Rep.mono s2 _ p1;cases(show v2=.int k from p2);have b:=q6a hc.1;refine⟨l,k,xs,rfl,rfl,r2.sub.seq hq,by omega,by omega,by rw[rp.length,sizeLine_eq];exact hc.2,?_⟩;exact q3v r2 (s1.trans s2) (q8h rp k.toNat) h
  ·cases hf
 ·cases hf
end
theorem y65{da db:Den W}:dRepF da db e=(da e).bind fun x e1=>(db e1).bind fun y e2=>ofOpt (repL x y) e2:=rfl
def keyOf:W->Option Key
 |.int i=>some (.inl i)
 |.str x=>some (.inr x)
 |_=>none
def setD1K(i:Nat)(v:Sv)(e:List S):Option Key->SR
 |some k=>.nx (e.set i (.dic (.k [(k,v)])))
 |none=>.no
def setD1C(i:Nat)(v:Sv)(e:List S):Option S->SR
 |some (.fr w)=>setD1K i v e (keyOf w)
 |_=>.no
def dSetD1(i j:Nat)(v:Sv):List S->SR:=fun e=>setD1C i v e e[j]?
section
variable{y:Str}
theorem y1v(i j:Nat){n:Int}{c cp}{pos' dpos:Pos}(hN:X.N.Nodup)(hk:PE X (.Name y p) (tVar j))(hi:X.N[i]?=some x:=by rfl)(hx:Loc X.env.scope x:=by walk_at "3")(hs:swapsWith (.Dict [some (.Name y p)] [.Constant (.int n) c cp] dpos) (some (.Name x pos')) pos.line X.env=pure false:=by rfl)(hf:X.fn x=true\/X.env.scope.names.lookup x=some .local:=by walk_at "2"):
  DS Z X EE (.Assign [.Name x pos'] (.Dict [some (.Name y p)] [.Constant (.int n) c cp] dpos) pos) (dSetD1 i j (.inl n)):=by
 refine PS.mono (q6j i hN (z4b hk q8x) hi hx hs hf) ?_;rintro D σ H ⟨G,e,rel,h⟩;unfold dSetD1 setD1C at h;split at h
 ·rename_i w hw;obtain⟨v,hv,rv⟩:=rel.fr hw;cases hk:keyOf w with
  |none=>rw[hk]at h;exact h.elim
  |some k=>
   rw[hk]at h;intro q hq
   have ev:v=kV k:=by
    cases w with
    |int i=>cases hk;cases rv;rfl
    |str x=>cases hk;cases rv;rfl
    |_=>cases hk
   refine⟨v,hv,k,ev,q0f,?_⟩;rw[y4b];have g:=Grow.hid rel.sub hq (dO (.k [(k,.inl n)]));exact h G _ _ ((rel.grow g).setDic (kvs:=.k [(k,.inl n)]) q0f (rel.sub.free hq) (q1y rel hq)) (.refl _)
 ·exact h.elim
theorem y1w{j:Nat}{v:Sv}:dSetD1 i j v e=setD1C i v e e[j]?:=rfl
theorem y1x{v:Sv}{n:Int}:setD1C i v e (some (.fr (.int n)))=.nx (e.set i (.dic (.k [(.inl n,v)]))):=rfl
end
def noE:Expr:=.Name "" ⟨0,0,0,0⟩
def stAt(i:Nat)(st:Stmt):Stmt:=(defBody st).getD i (.Pass ⟨0,0,0,0⟩)
def stVal:Stmt->Expr
 |.Assign _ v _=>v
 |.Return (some v) _=>v
 |.For _ it _ _ _=>it
 |.Expr v _=>v
 |_=>noE
def argAt(i:Nat):Expr->Expr
 |.Call _ as _ _=>as.getD i noE
 |_=>noE
def subVal:Expr->Expr
 |.Subscript v _ _=>v
 |_=>noE
def lamParams:Expr->Arguments
 |.Lambda p _ _ _=>p
 |_=>default
def lamBody:Expr->Expr
 |.Lambda _ b _ _=>b
 |_=>noE
def lamScope:Expr->Scope
 |.Lambda _ _ s _=>s
 |_=>default
def MakK(K:Fg)(x:Str)(cdv:Value):Prop:=∃c P a,cdv=.ref c/\codeHdIn K c P=true/\(a,markO P ((x++".<locals>.")++"<lambda>"))∈K
section
variable{P:Program}{w:World}{mg:Str->Option Value}{base:Heap}
theorem y34{CX:CXT}{scope:Scope}{f:Addr}{cdv:Value}{A:Around}{outer:List Env}{s:Shared}{E:XK}(h:MakK K x cdv)(b:BMain base mg):Maker (cxOf CX P w K mg base N x scope f cdv A outer s H E):=by
 obtain⟨c,P,a,rfl,h1,h2⟩:=h;exact⟨⟨c,P,a,rfl,h1,h2⟩,b⟩
theorem conM{st:Stmt}{k:Nat}{F:List W->FR}(A:At K mg x st ps)(hm:∀f oc od fd sl,mg x=some (.ref f)->K.lookup f=some ⟨oc,od,.func fd,sl⟩->MakK K x fd.code)(sc:FnScope N ps (defScope st))(len:∀ws,F ws≠.no->ws.length=ps.length)
  (hb:∀ws,F ws≠.no->∀(f:Addr)(cdv:Value)(A:Around)(outer:List Env)(s:Shared)(H:Hp)(E:XK)(Z:Zt),Room k (A.deeper (PyProof.Rows.envOfC x (defScope st) s.heap.objs.size f cdv))->MakK K x cdv ->
   ∃d,DSs Z (cxOf (CX1 P w) P w K mg base N x (defScope st) f cdv A outer s H E) (fun _=>E) (defBody st) d/\(d (init N.length ws)).fn=F ws):Cal P w K mg base (k+1) x ps (spF K F):=by
 obtain⟨f,fd,F0,m,b⟩:=A.ex;have kp:=F0.kp;obtain⟨oc,od,kV,doc,pm,an,cdv,ct,osl,rfl,lk,hcd⟩:=F0.ex;have hk:MakK K x cdv:=hm f _ _ _ _ m lk;refine⟨f,_,y3r lk hcd sc (fun vs H Q E h=>?_) (fun A outer s H vs Q E hr h=>?_),m,kp,b⟩
 ·obtain⟨G,ws,hn,r⟩:=q7d h;rw[r.length];exact len ws hn
 ·obtain⟨G,ws,sg,rp,h⟩:=h;have hn:F ws≠.no:=fun z=>by rw[z]at h;exact h
  obtain⟨d,hd,he⟩:=hb ws hn f cdv A outer s H E ⟨H,G,[]⟩ hr hk;exact⟨_,hd,G,init N.length ws,q5p sg rp,q7s he h⟩
theorem fnV0{lams:Nat->Option Lm}(h:∀i ws,r i ws=.no:=by intro _ _;rfl):FnV P w K mg base (CX1 P w) 0 (spV K lams r):=by
 rintro x vs H Q E ⟨G,i,l,caps,ws,w',sg,rf,rv,nw,nc,hl,hr,q⟩;rw[h]at hr;cases hr
end
def markT(K:Fg)(tabs:List (Addr×Str)):Fg:=K++tabs.map fun p=>(mainGlobals,markO p.1 p.2)
section
variable{tabs:List (Addr×Str)}{a:Addr}{o:Obj}
theorem q00(h:K.lookup a=some o):(markT K tabs).lookup a=some o:=by
 unfold markT;rw[w4m,h];rfl
theorem q97(hG:(K.lookup mainGlobals).isSome=true):(markT K tabs).lookup a=K.lookup a:=by
 unfold markT;rw[w4m];cases q:K.lookup a with
 |some o=>rfl
 |none=>
  have ne:a≠mainGlobals:=fun z=>by rw[<- z,q]at hG;cases hG
  have:∀l:List (Addr×Str),(l.map fun p=>(mainGlobals,markO p.1 p.2)).lookup a=none:=fun l=>by
   induction l with
   |nil=>rfl
   |cons p l ih=>rw[w1b,w1a,beq_eq_false_iff_ne.mpr ne];exact ih
  rw[this];rfl
theorem in_m{h:Heap}(hG:(K.lookup mainGlobals).isSome=true)(X:K.In h):(markT K tabs).In h:=fun b u e=>X b u (by rw[<- q97 (tabs:=tabs) hG];exact e)
theorem no_m(hG:(K.lookup mainGlobals).isSome=true)(n:NoTup K):NoTup (markT K tabs):=fun b u e=>n b u (by rw[<- q97 (tabs:=tabs) hG];exact e)
theorem ns_m{r:Option Value}(h:PySem.W.nsIn K a x=some r):PySem.W.nsIn (markT K tabs) a x=some r:=by
 unfold PySem.W.nsIn at h |-
 cases q:K.lookup a with
 |none=>rw[q]at h;cases h
 |some o=>rw[q00 q];rw[q]at h;exact h
theorem q07{cd:Value}(h:PySem.W.codeIn K cd x=true):PySem.W.codeIn (markT K tabs) cd x=true:=by
 cases cd with
 |ref a=>
  unfold PySem.W.codeIn at h |-
  dsimp only at h |-
  cases q:K.lookup a with
  |none=>rw[q]at h;cases h
  |some o=>rw[q00 q];rw[q]at h;exact h
 |_=>cases h
theorem q08(t:funAt K a=true):keepIn (markT (dropT K) tabs) (.ref a)=true:=by
 have h:=t;unfold funAt at t
 rw[w0y]at t;obtain⟨t1,t2⟩:=t;have t1:tupAt K a=false:=by simpa using t1
 unfold keepIn;dsimp only;split at t2
 ·rename_i q;rw[q00 (q0l q t1)]
 ·cases t2
theorem x56(h:noMark K=true)(hd:tabs.all (fun p=>tabs.lookup p.1==some p.2)=true):∀a q P,(a,markO P q)∈markT K tabs->tabs.lookup P=some q:=fun a q P m=>by
 rcases w1p.mp m with m|m
 ·have:=w0s.mp h _ m;cases this
 ·obtain⟨p,hp,e⟩:=w0k.mp m;have e1:markO p.1 p.2=markO P q:=(Prod.mk.inj e).2;have e2:p.2=q:=by injection e1 with h1;injection h1
  have e3:p.1=P:=by
   injection e1 with _ _ h3
   injection h3 with h4
   have:=congrArg (fun a:Array Value=>a[0]?) h4
   simpa using this
  have:=w0s.mp hd p hp;rw[<- e2,<- e3]
  simpa using this
theorem x34(h:noMark K=true):noMark (dropT K)=true:=w0s.mpr fun p hp=>w0s.mp h p (w2t.mp hp).1
theorem tabs_none(hG:(K.lookup mainGlobals).isSome=true)(h:tabs.all (fun p=>(K.lookup p.1).isNone)=true):∀P q,tabs.lookup P=some q->(markT K tabs).lookup P=none:=fun P q e=>by
 rw[q97 hG];have:=w0s.mp h _ (mem_look e)
 simpa using this
where
 mem_look:∀{l:List (Addr×Str)}{P:Addr}{q:Str},l.lookup P=some q->(P,q)∈l
 |[],_,_,e=>by cases e
 |(b,t)::l,P,q,e=>by
  rw[w1a]at e
  by_cases hb:(P==b)=true
  ·rw[hb]at e;cases e;rw[eq_of_beq hb];exact .head _
  ·rw[w1t.mpr hb]at e;exact .tail _ (mem_look e)
theorem y66{h:Heap}(X:K.In h)(hT:∀P∈tabs.map (·.1),h.get? P=some (tabObj #[]))(hc:∀p∈tabs,∃c,codeHdIn K c p.1=true):∀P q,tabs.lookup P=some q->h.get? P=some (tabObj #[])/\isCodeTable h P:=fun P q e=>by
 have m:=tabs_none.mem_look e;obtain⟨c,hc⟩:=hc _ m;have g:=hT P (w0k.mpr ⟨_,m,rfl⟩);exact⟨g,((PySem.W.codeHd_of_K X hc).tab g).isCodeTable⟩
end
section
variable{ws caps:List W}{lams:Nat->Option Lm}{d:Den W}{j:Nat}{l:Lm}{w:W}{F:List W->FR}{js:List Nat}
theorem y1y:dCallV lams r i dA e=callV0 lams r dA e e[i]?:=rfl
theorem x8u:callV0 lams r dA e (some (.fr (.fn j l caps)))=(dA e).bind fun ws e1=>callVK lams r j l caps ws e1:=rfl
theorem x09(h1:lams j=some l)(h2:noFns ws=true)(h3:noFns caps=true)(h4:r j (ws++caps)=.ok (.fr w)):callVK lams r j l caps ws e=.ok w e:=by
 unfold callVK;rw[if_pos ⟨h1,h2,h3⟩,h4]
theorem y1z:capsOf [] e=some []:=rfl
end
end D
namespace L2
open PySem PySem.Spec PyProof.Rows
section
variable{X:Cx}
theorem z1i{l:Expr}{tl:TE}(hl:PE X l tl):PE X l (fun σ H Q=>tl σ H fun v H1=>∃a xs,H1 a=some (.lst xs)/\∀o,Q v (upd H1 a (.frz o (.lst xs)))):=by
 intro pins s σ H Q I h;refine thn (hl pins s σ H _ I h) fun v s1 ⟨x,H1,I1,r1,q1⟩=>?_
 obtain⟨a,xs,e,q⟩:=q1;obtain⟨its,_,⟨o,n,g,_⟩,_⟩:=I1.list (SqL.of e);exact⟨x,_,I1.freezeL e g,r1,q o⟩
end
end L2
namespace D
open PySem L2 PySem.Spec PyProof.Rows
open PyProof.Rows (envOfC)
variable{X:Cx}{dA:Den (List W)}{d:Den W}{G:Hp}{EE:L2.St->XK}{es:List Expr}{ws:List W}{pos:Pos}{K:Fg}{sh:Sh}{x:Str}{Z:Zt}
mutual
theorem x1a{K:Fg}{Z:Zt}{G:Hp}:∀(w:W){v:V},flatW w=true->Rep K G w v->RepN K Z G w v
 |.non,_,_,p=>p
 |.bl _,_,_,p=>p
 |.int _,_,_,p=>p
 |.str _,_,_,p=>p
 |.tup ws,_,h,⟨a,xs,e,q,r⟩=>⟨a,xs,e,q,q37 ws h r⟩
 |.lst _,_,h,_=>by cases h
 |.exc _,_,h,_=>by cases h
 |.dic _,_,h,_=>by cases h
 |.dw _ _ _ _,_,h,_=>by cases h
 |.fn _ _ _,_,h,_=>by cases h
theorem q37{K:Fg}{Z:Zt}{G:Hp}:∀(ws:List W){vs:List V},flatWs ws=true->Reps K G ws vs->RepNs K Z G ws vs
 |[],_,_,p=>p
 |w::ws,_,h,⟨x,r,e,p,q⟩=>by
  have h:(flatW w&&flatWs ws)=true:=h;rw[w0y]at h;exact⟨x,r,e,x1a w h.1 p,q37 ws h.2 q⟩
end
theorem LNd.flat:∀{ws:List W}{xs:List V},flatWs ws=true->Reps K G ws xs->LNd ws xs
 |[],_,_,h=>fun _=>by cases h;exact .nil
 |w::ws,_,h,_=>fun q=>by
  obtain⟨us,rfl⟩:=q w (w1f ..);cases h
theorem RepNs.off{l:Addr}(hl:G l=none):∀{ws:List W}{xs:List V},RepNs K Z G ws xs->(∀w∈ws,∃us,w=.lst us)->V.ref l∉xs
 |[],_,h,_=>by cases h;exact fun z=>nomatch z
 |w::ws,_,⟨x,r,e,p,h⟩,q=>by
  cases e;obtain⟨us,rfl⟩:=q w (w1f ..);obtain⟨a,ys,rfl,g,_⟩:=p;intro z;rcases w0h.mp z with z|z
  ·injection z with z;subst z;rw[hl]at g;cases g
  ·exact RepNs.off hl h (fun w m=>q w (w0t _ m)) z
theorem RepNs.append:∀{ws us:List W}{xs ys:List V},RepNs K Z G ws xs->RepNs K Z G us ys->RepNs K Z G (ws++us) (xs++ys)
 |[],_,_,_,h,q=>by cases h;exact q
 |w::ws,_,_,_,⟨x,r,e,p,h⟩,q=>by cases e;exact⟨x,_,rfl,p,RepNs.append h q⟩
theorem RepNs.get{K:Fg}{Z:Zt}{G:Hp}:∀{ws:List W}{xs:List V}{k:Nat}{w:W},RepNs K Z G ws xs->ws[k]?=some w->∃x,xs[k]?=some x/\RepN K Z G w x
 |[],_,_,_,_,q=>by cases q
 |_::_,_,0,_,⟨x,r,e,p,_⟩,q=>by cases e;cases q;exact⟨x,rfl,p⟩
 |_::_,_,k+1,_,⟨x,r,e,_,h⟩,q=>by cases e;exact RepNs.get (k:=k) h q
theorem RepNs.length{xs:List V}(h:RepNs K Z G ws xs):ws.length=xs.length:=(RepNs.reps ws h).length.symm
section
variable{H:Hp}{σ:L2.St}{e:List S}
theorem Rel.refill(r:Rel K Z G σ H (e.set i .no)){s0:S}{v:V}(hv:σ[i]?=some (some v))(hs:∀b ws,s0≠.own b ws)(q:SlotOk K Z G H s0 (some v)):Rel K Z G σ H (e.set i s0):=by
 have h:=r.setS (i:=i) hs q;rw[List.set_set]at h
 have:σ.set i (some v)=σ:=by
  obtain⟨hi,h2⟩:=w0b.mp hv;rw[<- h2,List.set_getElem_self]
 rw[this]at h;exact h
theorem Rel.drop1(r:Rel K Z G σ H e)(i:Nat):Rel K Z G σ H (e.set i .no):=r.forget (by simp) fun k s z=>by
 by_cases hk:k=i
 ·subst hk
  have hi:k<e.length:=by
   have:=(w0b.mp z).1;simpa using this
  rw[w0g hi]at z;cases z;exact .inl rfl
 ·rw[w0f (fun z=>hk z.symm)]at z;exact .inr z
theorem Rel.give(r:Rel K Z G σ H e){i:Nat}(h:e[i]?=some (.own none ws)):∃a xs,σ[i]?=some (some (.ref a))/\Same G (upd G a (.lst xs))/\Z.H a=none/\Reps K G ws xs/\H a=some (.lst xs)/\Rel K Z (upd G a (.lst xs)) σ H (e.set i .no):=by
 obtain⟨a,xs,h1,h2,h3,h4,h5⟩:=r.own h;have h4:Z.H a=none:=h4
 have fr:Free σ (e.set i .no) a:=fun j b ws' z q=>by
  by_cases hj:j=i
  ·subst hj;have hi:j<e.length:=(w0b.mp h).1;rw[w0g hi]at z;cases z
  ·rw[w0f (fun z=>hj z.symm)]at z
   exact hj (r.dis _ _ _ _ _ _ _ z h q h1)
 obtain⟨sg,r2⟩:=(r.drop1 i).seen h2 h3 h4 fr;exact⟨a,xs,h1,sg,h4,h5,h2,r2⟩
end
section
variable{a b c e:Expr}{da db:Den W}{dF dN:Den (List W)}{y:Str}{p tpos p1 p2 p3:Pos}
def dAcc0(i:Nat)(dA:Den (List W)):List S->SR:=fun e=>(dA e).stm fun ws e1=>if flatWs ws=true then .nx (e1.set i (.x (.acc ws)))else .no
theorem y67(i:Nat){pos':Pos}(hio:Z.io=[])(hN:X.N.Nodup)(he:DF Z X EE e dA)(hi:X.N[i]?=some x:=by rfl)(hx:Loc X.env.scope x:=by walk_at "3")(hs:swapsWith e (some (.Name x pos')) pos.line X.env=pure false:=by rfl)(hf:X.fn x=true\/X.env.scope.names.lookup x=some .local:=by walk_at "2"):
  DS Z X EE (.Assign [.Name x pos'] e pos) (dAcc0 i dA):=by
 refine PS.mono (q6j i hN (q94 he) hi hx hs hf) ?_;rintro D σ H ⟨G,e,rel,h⟩;refine⟨G,e,rel,(q0r h).imp (fun ws e1 h G1 a xs H1 r1 s1 q1 q2 q3 q4 p1=>?_) fun _ _ h=>h⟩
 split at h
 ·rename_i hfl;refine⟨a,xs,rfl,q1,fun o=>?_⟩
  have r4:=r1.mutFree (o:=.frz o (.lst xs)) q2 q3 (by rw[hio];exact fun z=>nomatch z) q4 q1
  exact h G1 _ _ (r4.setS (s:=.x (.acc ws)) (fun _ _ z=>nomatch z) ⟨a,o,xs,rfl,⟨q0f,q2,q3⟩,q37 ws hfl p1,.flat hfl p1⟩) s1
 ·exact h.elim
def appNK(i j:Nat)(e:List S):Option S->Option S->SR
 |some (.x (.acc us)),some (.own none ws)=>if(us.length<16777216/\flatWs ws=true)/\((e.set j .no).set i .no).all (fun s=>!isT s)=true then .nx ((e.set j .no).set i (.x (.acc (us++[.lst ws]))))else .no
 |_,_=>.no
def dAppN(i j:Nat):List S->SR:=fun e=>appNK i j e e[i]? e[j]?
theorem y68(i j:Nat){apos cpos yp:Pos}(hz:Z.H=X.H₀)(hne:i≠j:=by decide)(hN:X.N[i]?=some x:=by rfl)(hv:Vis X.env.scope x:=by walk_at "1")(hd:(x==("__debug__":Str))=false:=by decide)(hcd:(x==("__classdict__":Str))=false:=by decide)
  (hNy:X.N[j]?=some y:=by rfl)(hvy:Vis X.env.scope y:=by walk_at "1")(hdy:(y==("__debug__":Str))=false:=by decide)(hcdy:(y==("__classdict__":Str))=false:=by decide)
  (hbase:attributeBase (.Name x p) "append" X.env (eval (.Name x p) X.env)=eval (.Name x p) X.env:=by rfl)
  (hfew:((backTo cpos (starEach [.Name y yp] X.env)).all (fun x=>!x.1)&&(backToKw cpos (keywordEach [] X.env)).all (fun x=>x.1.isSome)&&decide (([.Name y yp]:List Expr).length+([]:List Keyword).length+(if([]:List Keyword).isEmpty then 0 else 1)<30))=true:=by rfl)
  (hline:(apos.endLine==cpos.line)=true:=by rfl)(hs:starEach [.Name y yp] X.env=(false,eval (.Name y yp) X.env)::starEach [] X.env:=by rfl)(hplain:(backTo cpos (starEach [] X.env)).any (·.1)=false:=by rfl)
  (hsw:swapsWith (.Call (.Attribute (.Name x p) "append" apos) [.Name y yp] [] cpos) none pos.line X.env=pure false:=by rfl):
  DS Z X EE (.Expr (.Call (.Attribute (.Name x p) "append" apos) [.Name y yp] [] cpos) pos) (dAppN i j):=by
 refine PS.mono (q7p (z1i (x60 (x2x (pv i hN hv hd hcd)) (q2u (pv j hNy hvy hdy hcdy) q5k hs) hbase hfew hline hs hplain)) hsw) ?_;rintro D σ H ⟨G,e,rel,h⟩;unfold dAppN appNK at h;split at h
 ·rename_i us ws hei hej;split at h
  ·rename_i hc;obtain⟨⟨hl,hfl⟩,hT⟩:=hc;obtain⟨a,o,xs,k1,⟨k2,k3,k4⟩,k5,k6⟩:=rel.slot i _ hei;have hvi:σ[i]?=some (some (.ref a)):=rel.at hei fun _=>k1
   obtain⟨l,ys,hvj,sg,hzl,rps,hHl,r2⟩:=rel.give hej;refine⟨.ref a,hvi,a,o,xs,rfl,k2,fun _ _ z=>(by rw[<- hz,k4]at z;cases z),.inl ⟨rfl,xs,SqL.of q0f⟩,.ref l,hvj,a,xs,.ref l,rfl,rfl,q0f,by rw[<- k5.length,sizeLine_eq];exact hl,a,xs++[.ref l],q0f,fun o'=>?_⟩
   have goff:G l=none:=by
    obtain⟨l',ys',w1,_,w3,_⟩:=rel.own hej;rw[hvj]at w1;injection w1 with w1;injection w1 with w1;injection w1 with w1
    rw[w1];exact w3
   have hal:a≠l:=fun z=>by subst z;rw[k2]at hHl;cases hHl
   have ga:upd G l (.lst ys) a=none:=by rw[q0b hal];exact k3
   have r3:Rel X.K Z (upd G l (.lst ys)) σ (upd H a (.frz o' (.lst (xs++[.ref l])))) ((e.set j .no).set i .no):=
    (r2.drop1 i).mutL k2 ga k4 fun s hs=>by have:=w0s.mp hT s hs;simpa using this
   have r4:=Rel.refill (s0:=.x (.acc (us++[.lst ws]))) r3 hvi (fun _ _ z=>nomatch z) ⟨a,o',xs++[.ref l],rfl,⟨q0f,ga,k4⟩,(RepNs.move sg (fun _ _ _ z=>z) us k5).append ⟨.ref l,[],rfl,⟨l,ys,rfl,q0f,hzl,q37 ws hfl (Reps.mono sg ws rps),.flat hfl rps⟩,rfl⟩,fun q=>by
    have hq:∀w∈us,∃us,w=.lst us:=fun w m=>q w (w1m _ m)
    refine w3t.mpr ⟨k6 hq,by simp,?_⟩;rintro v hv u hu rfl;rw[w0u]at hu;subst hu;exact RepNs.off goff k5 hq hv⟩
   have eH:upd (upd (upd H a (.lst xs)) a (.lst (xs++[.ref l]))) a (.frz o' (.lst (xs++[.ref l])))=upd H a (.frz o' (.lst (xs++[.ref l]))):=by
    funext c;unfold upd;split<;>rfl
   rw[eH];exact h _ σ _ r4 sg
  ·exact h.elim
 ·exact h.elim
end
section
variable(K:Fg)(Z:Zt)(EE:L2.St->XK)
def liftN(d:Den W):TE:=fun σ H Q=>AtG K Z σ H fun G e=>(d e).holds (fun w e'=>∀G' v H',Rel K Z G' σ H' e'->Same G G'->RepN K Z G' w v->Q v H') (XH K Z EE σ G)
def liftNA(d:Den (List W)):TA:=fun σ H Q=>AtG K Z σ H fun G e=>(d e).holds (fun ws e'=>∀G' vs H',Rel K Z G' σ H' e'->Same G G'->RepNs K Z G' ws vs->Q vs H') (XH K Z EE σ G)
end
def DN(Z:Zt)(X:Cx)(EE:L2.St->XK)(e:Expr)(d:Den W):Prop:=PE X e (liftN X.K Z EE d)
def DNA(Z:Zt)(X:Cx)(EE:L2.St->XK)(es:List Expr)(d:Den (List W)):Prop:=PA X es (liftNA X.K Z EE d)
section
variable{Z':Zt}{cs:Cs}
theorem DAt.rm(c:CelsIn G cs){fz:Bool}{a:Addr}{kvs:List (Kx×V)}{kas:List Addr}(h1:DAt fz G a sh kvs kas):DAt fz (rmC G cs) a sh kvs kas:=by
 cases fz with
 |true=>obtain⟨o,h1⟩:=h1;exact⟨o,c.rm_some h1 fun o z=>by injection z with _ z;exact q18 rfl z⟩
 |false=>exact c.rm_some h1 fun o z=>q18 rfl z
mutual
theorem RepN.rm(c:CelsIn G cs)(hz:∀a,Z.H a=none->Z'.H a=none):∀(w:W){v:V},RepN K Z G w v->RepN K Z' (rmC G cs) w v
 |.non,_,h=>h
 |.bl _,_,h=>h
 |.int _,_,h=>h
 |.str _,_,h=>h
 |.tup ws,_,⟨a,xs,e,q,r⟩=>by
  refine⟨a,xs,e,?_,RepNs.rm c hz ws r⟩;rcases q with q|q
  ·exact .inl (Rd.rm c q (fun o z=>nomatch z) fun φ z=>nomatch z)
  ·exact .inr q
 |.lst ws,_,⟨a,xs,e,q,n,r,nd⟩=>⟨a,xs,e,c.rm_some q (fun o z=>nomatch z),hz a n,RepNs.rm c hz ws r,nd⟩
 |.exc _,_,h=>h.elim
 |.dic _,_,h=>h.elim
 |.dw fz sh ks ws,_,⟨a,kvs,kas,e,q,n,h1,h2,r⟩=>⟨a,kvs,kas,e,q.rm c,hz a n,h1,KeysS.rm c h2,RepNs.rm c hz ws r⟩
 |.fn _ _ _,_,h=>h.elim
theorem RepNs.rm(c:CelsIn G cs)(hz:∀a,Z.H a=none->Z'.H a=none):∀(ws:List W){xs:List V},RepNs K Z G ws xs->RepNs K Z' (rmC G cs) ws xs
 |[],_,h=>h
 |w::ws,_,⟨x,r,e,p,q⟩=>⟨x,r,e,RepN.rm c hz w p,RepNs.rm c hz ws q⟩
end
end
section
variable{a b c e:Expr}{da db:Den W}{dF dN:Den (List W)}{y:Str}{p tpos p1 p2 p3:Pos}
def dFlat(d:Den W):Den W:=fun e=>(d e).bind fun w e1=>if flatW w=true then .ok w e1 else .no
theorem q98(he:DE Z X EE e d):DN Z X EE e (dFlat d):=by
 refine PE.mono he ?_;rintro σ H Q ⟨G,e,rel,h⟩;refine⟨G,e,rel,(R.holds_bind.mp h).imp (fun w e1 h G1 v H1 r1 s1 p1=>?_) fun _ _ h=>h⟩
 split at h
 ·rename_i hf;exact h G1 v H1 r1 s1 (x1a w hf p1)
 ·exact h.elim
theorem x8v(he:DN Z X EE e d):DE Z X EE e d:=PE.mono he fun σ H Q ⟨G,e,r,h⟩=>⟨G,e,r,h.imp (fun w e1 h G1 v H1 r1 s1 p=>h G1 v H1 r1 s1 (RepN.rep w p)) fun _ _ h=>h⟩
def nVarK(e:List S):Option S->R W
 |some (.x (.new w))=>.ok w e
 |_=>.no
def nIxK(k:Nat)(e:List S):Option S->R W
 |some (.x (.new (.tup ws)))=>ofOpt ws[k]? e
 |_=>.no
def dNIx(i k:Nat):Den W:=fun e=>nIxK k e e[i]?
theorem z4c(i k:Nat){kk kp}(hN:X.N[i]?=some x:=by rfl)(hv:Vis X.env.scope x:=by walk_at "1")(hd:(x==("__debug__":Str))=false:=by decide)(hcd:(x==("__classdict__":Str))=false:=by decide)(hs:PlainIx (.Constant (.int (k:Int)) kk kp):=by intro _ _;rfl):DN Z X EE (.Subscript (.Name x p) (.Constant (.int (k:Int)) kk kp) pos) (dNIx i k):=by
 refine PE.mono (q8z ix_tup (pv i hN hv hd hcd) q8x hs) ?_;rintro σ H Q ⟨G,e,r,h⟩;unfold dNIx nIxK at h;split at h
 ·rename_i ws he;obtain⟨u,k1,t,xs,rfl,k3,k4⟩:=r.slot i _ he;obtain⟨w,hw,h2⟩:=ofOpt_holds.mp h;obtain⟨y,hy,ry⟩:=k4.get hw;exact⟨.ref t,r.at he fun _=>k1,t,xs,(k:Int),y,rfl,rfl,r.sub.tup k3,q14 hy,h2 G y H r (.refl _) ry⟩
 ·exact h.elim
def nOwnK(i:Nat)(e:List S):Option S->R W
 |some (.own none ws)=>if flatWs ws=true then .ok (.lst ws) (e.set i .no)else .no
 |_=>.no
def dNOwn(i:Nat):Den W:=fun e=>nOwnK i e e[i]?
theorem x8w(i:Nat)(hN:X.N[i]?=some x:=by rfl)(hv:Vis X.env.scope x:=by walk_at "1")(hd:(x==("__debug__":Str))=false:=by decide)(hcd:(x==("__classdict__":Str))=false:=by decide):DN Z X EE (.Name x pos) (dNOwn i):=by
 refine PE.mono (pv i hN hv hd hcd) ?_;rintro σ H Q ⟨G,e,r,h⟩;unfold dNOwn nOwnK at h;split at h
 ·rename_i ws he;split at h
  ·rename_i hfl;obtain⟨a,xs,hv,sg,hz,rps,hH,r2⟩:=r.give he;exact⟨.ref a,hv,h _ (.ref a) H r2 sg ⟨a,xs,rfl,q0f,hz,q37 ws hfl (Reps.mono sg ws rps),.flat hfl rps⟩⟩
  ·exact h.elim
 ·exact h.elim
def nAccK(i:Nat)(e:List S):Option S->R W
 |some (.x (.acc ws))=>if(e.set i .no).all (fun s=>!isT s)=true then .ok (.lst ws) (e.set i .no)else .no
 |_=>.no
def dNAcc(i:Nat):Den W:=fun e=>nAccK i e e[i]?
theorem z1j(i:Nat)(hz:Z.H=X.H₀)(hN:X.N[i]?=some x:=by rfl)(hv:Vis X.env.scope x:=by walk_at "1")(hd:(x==("__debug__":Str))=false:=by decide)(hcd:(x==("__classdict__":Str))=false:=by decide):DN Z X EE (.Name x pos) (dNAcc i):=by
 refine PE.mono (x2x (pv i hN hv hd hcd)) ?_;rintro σ H Q ⟨G,e,r,h⟩;unfold dNAcc nAccK at h;split at h
 ·rename_i ws he;split at h
  ·rename_i hT;obtain⟨a,o,xs,k1,⟨k2,k3,k4⟩,k5,k6⟩:=r.slot i _ he;have r1:Rel X.K Z G σ (upd H a (.lst xs)) (e.set i .no):=(r.drop1 i).mutL k2 k3 k4 fun s hs=>by have:=w0s.mp hT s hs;simpa using this
   have fr:Free σ (e.set i .no) a:=fun j b ws' z q=>by
    obtain⟨a',ys,h1,h2,_⟩:=(r.drop1 i).own z;rw[q]at h1;cases h1;rw[k2]at h2;cases h2
   obtain⟨sg,r2⟩:=r1.seen q0f k3 k4 fr;exact⟨.ref a,r.at he fun _=>k1,a,o,xs,rfl,k2,fun _ _ z=>(by rw[<- hz,k4]at z;cases z),h _ (.ref a) _ r2 sg ⟨a,xs,rfl,q0f,k4,RepNs.move sg (fun _ _ _ z=>z) ws k5,k6⟩⟩
  ·exact h.elim
 ·exact h.elim
theorem q99:DNA Z X EE [] dNil:=PA.mono q5k fun σ H Q ⟨G,e,r,h⟩=>h G [] H r (.refl _) rfl
theorem q3w(ha:DN Z X EE e da)(hr:DNA Z X EE es dA)(hs:starEach (e::es) X.env=(false,eval e X.env)::starEach es X.env:=by rfl):DNA Z X EE (e::es) (dCons da dA):=by
 refine PA.mono (q2u ha hr hs) ?_;rintro σ H Q ⟨G,e,rel,h⟩;simp only[dCons,R.holds_bind]at h;refine⟨G,e,rel,h.imp (fun x e1 h G1 v1 H1 r1 s1 p1=>?_) fun _ _ h=>h⟩
 refine⟨G1,e1,r1,h.imp (fun xs e2 h G2 vs H2 r2 s2 p2=>?_) fun _ _ h=>XH.trans s1 h⟩
 exact h G2 (v1::vs) H2 r2 (s1.trans s2) ⟨v1,vs,rfl,RepN.move s2 (fun _ _ _ z=>z) x p1,p2⟩
theorem x23{x1}(h:DNA Z X EE es dA):DN Z X EE (.Tuple es x1 pos) (dTup dA):=by
 refine PE.mono (x16 h) ?_;rintro σ H Q ⟨G,e,rel,h⟩;simp only[dTup,R.holds_bind]at h;refine⟨G,e,rel,h.imp (fun ws e1 h G1 vs H1 r1 s1 p1=>?_) fun _ _ h=>h⟩
 split at h
 ·rename_i hl;refine⟨by rw[<- p1.length,sizeLine_eq];exact hl,fun p hp=>?_⟩
  have g:=Grow.laid r1.sub hp (.tup vs);exact(show ∀G' v H',_->_->RepN X.K Z G' (.tup ws) v->Q v H' from h) _ (.ref p) _ (r1.grow g) (s1.trans g.gg) ⟨p,vs,rfl,SqT.of q0f,RepNs.move g.gg (fun _ _ _ z=>z) ws p1⟩
 ·exact h.elim
def dRetNw(d:Den W):List S->SR:=fun e=>(d e).stm fun w e1=>.rt (.x (.new w)) e1
theorem x24(he:DN Z X EE e d):DS Z X EE (.Return (some e) pos) (dRetNw d):=by
 refine PS.mono (q60 he) ?_;rintro D σ H ⟨G,e,rel,h⟩;exact⟨G,e,rel,(q0r h).imp (fun w e1 h G1 v1 H1 r1 s1 p1=>h G1 σ v1 H1 r1 s1 ⟨v1,rfl,p1⟩) fun _ _ h=>h⟩
def dSetNw(i:Nat)(d:Den W):List S->SR:=fun e=>(d e).stm fun w e1=>.nx (e1.set i (.x (.new w)))
theorem y16(i:Nat){pos':Pos}(hN:X.N.Nodup)(he:DN Z X EE e d)(hi:X.N[i]?=some x:=by rfl)(hx:Loc X.env.scope x:=by walk_at "3")(hs:swapsWith e (some (.Name x pos')) pos.line X.env=pure false:=by rfl)(hf:X.fn x=true\/X.env.scope.names.lookup x=some .local:=by walk_at "2"):
  DS Z X EE (.Assign [.Name x pos'] e pos) (dSetNw i d):=by
 refine PS.mono (q6j i hN he hi hx hs hf) ?_;rintro D σ H ⟨G,e,rel,h⟩;exact⟨G,e,rel,(q0r h).imp (fun w e1 h G1 v1 H1 r1 q1 p1=>h G1 _ H1 (r1.setS (s:=.x (.new w)) (fun _ _ z=>nomatch z) ⟨v1,rfl,p1⟩) q1) fun _ _ h=>h⟩
end
def callNK(e:List S):FR->R W
 |.ok (.x (.new w))=>.ok w e
 |.ex c=>.ex c e
 |_=>.no
def lamNRes(e1:List S):FR->R W
 |.ok (.x (.new w))=>.ok w e1
 |.ex c=>.ex c e1
 |_=>.no
def lamNK(F:List W->FR)(j:Nat)(l:Lm)(w:W)(e1:List S):Option (List W)->R W
 |some caps=>lamNRes e1 (F [w,.fn j l caps])
 |none=>.no
def dLamN(F:List W->FR)(j:Nat)(l:Lm)(js:List Nat)(d:Den W):Den W:=fun e=>(d e).bind fun w e1=>lamNK F j l w e1 (capsOf js e1)
section
variable{e body:Expr}{params:Arguments}{lpos p:Pos}{k:Nat}{ps N nf:List Str}{js:List Nat}{sc scope:Scope}{F:List W->FR}
theorem q9d(j:Nat)(l:Lm)(C:Cal X.prog X.w X.K X.mg X.base k x ps (spF X.K F))(hr:Room k X.A)(hx:PassX (CX1 X.prog X.w) X EE)(M:Maker X)(hfn:∀y,X.fn y=true)(he:DE Z X EE e d)(ok:compOk sc scope N nf js=true)
  (hl:l=⟨X.env.qual++"<lambda>", params,body,scope,nf⟩:=by rfl)(hdef:defaultsOf params X.env=([],[]):=by rfl)(hsc:X.env.scope=sc:=by rfl)(hN:X.N=N:=by rfl)(hg:Gl X x:=by rfl)
  (hdb:(x==("__debug__":Str))=false:=by decide)(hst:starEach [e,.Lambda params body scope lpos] X.env=(false,eval e X.env)::starEach [.Lambda params body scope lpos] X.env:=by rfl)
  (hst2:starEach [.Lambda params body scope lpos] X.env=(false,eval (.Lambda params body scope lpos) X.env)::starEach [] X.env:=by rfl)(hpl:(backTo pos (starEach [.Lambda params body scope lpos] X.env)).any (·.1)=false:=by rfl):
  DN Z X EE (.Call (.Name x p) [e,.Lambda params body scope lpos] [] pos) (dLamN F j l js d):=by
 obtain⟨fa,fd,FF,m,kp,bd⟩:=C.ex;unfold compOk at ok;simp only[w0y,w0s,beq_iff_eq,bne_iff_ne,w3j,w0o]at ok;obtain⟨⟨⟨⟨⟨⟨k1,k2⟩,k3⟩,k4⟩,k5⟩,k6⟩,k7⟩:=ok;have kind:∀x,X.env.kindOf x=sc.names.lookup x:=fun x=>by rw[<- hsc];rfl
 refine PE.mono (x5s (Nf:=nf) (js:=js) FF hr hg m kp bd hx M hfn he hdef (fun x hx hf=>?_) (fun i j y e1 e2=>?_) hdb hst hst2 hpl) ?_
 ·rw[kind];rcases k4 x hx with(z|z)|z
  ·exact absurd hf z
  ·exact .inl z
  ·exact .inr z
 ·have hlt:i<js.length:=(w0b.mp e2).1;have z:=k6 i hlt;rw[e1,e2]at z;obtain⟨z1,z2⟩:=k7 y (w0m e1);refine⟨by rw[hN];simpa using z,PySem.mem_of_lookup z1,?_,?_⟩
  ·rw[hsc];rcases z2 with z|z
   ·exact .inr (.inl z)
   ·exact .inr (.inr z)
  ·rw[kind];rcases z2 with z|z<;>(rw[z];decide)
 ·rintro σ H Q ⟨G,en,rel,h⟩;simp only[dLamN,R.holds_bind]at h;refine⟨G,en,rel,h.imp (fun w e1 h G1 v1 H1 r1 s1 p1 f clos H2 la=>?_) fun _ _ h=>h⟩
  obtain⟨hclos,Hm,pm,ctv,c',hH,hf,rfl⟩:=la
  have rm:Rel X.K Z G1 σ Hm e1:=by
   rcases hH with rfl|⟨c,oc,hc,rfl⟩
   ·exact r1
   ·exact r1.grow (Grow.hid r1.sub hc _)
  have gl:=Grow.laid rm.sub hf (fnO (kla_obj "<lambda>" (X.env.qual++"<lambda>") params body scope clos pm c' ctv) (X.env.qual++"<lambda>") c');have r2:=rm.grow gl;refine⟨clos,hclos,fun cs co=>?_⟩
  cases hcap:capsOf js e1 with
  |none=>rw[hcap]at h;exact h.elim
  |some caps=>
   rw[hcap]at h;obtain⟨zs,rz,zl,zv⟩:=x08 r1 hcap;have hn2:∀b o,cs.lookup b=some o->upd Hm f (fnO (kla_obj "<lambda>" (X.env.qual++"<lambda>") params body scope clos pm c' ctv) (X.env.qual++"<lambda>") c') b=none:=fun b o z=>(co.cel b o z).1
   have gn2:∀b o,cs.lookup b=some o->upd G1 f (fnO (kla_obj "<lambda>" (X.env.qual++"<lambda>") params body scope clos pm c' ctv) (X.env.qual++"<lambda>") c') b=none:=fun b o z=>by
    cases q:upd G1 f (fnO (kla_obj "<lambda>" (X.env.qual++"<lambda>") params body scope clos pm c' ctv) (X.env.qual++"<lambda>") c') b with
    |none=>rfl
    |some u=>have:=r2.sub b u q;rw[hn2 b o z]at this;cases this
   have sA:=gl.gg.trans (x21 gn2)
   have fout:cs.lookup f=none:=by
    cases q:cs.lookup f with
    |none=>rfl
    |some o=>have:=gn2 f o q;rw[q0f]at this;cases this
   have fc:FnCells (addC (upd G1 f (fnO (kla_obj "<lambda>" (X.env.qual++"<lambda>") params body scope clos pm c' ctv) (X.env.qual++"<lambda>") c')) cs) clos l zs cs:=by
    subst hl;refine⟨co.inj,co.has,co.all,fun c o z=>⟨q15 z,(co.cel c o z).2⟩,fun i y z g1 g2=>?_,by rw[zl];exact k5⟩
    have hi:i<js.length:=by rw[<- zl];exact(w0b.mp g2).1
    have g3:js[i]?=some js[i]:=w0c hi;exact co.val i y js[i] z g1 g3 (zv i _ z g3 g2)
   have rfn:Rep X.K (addC (upd G1 f (fnO (kla_obj "<lambda>" (X.env.qual++"<lambda>") params body scope clos pm c' ctv) (X.env.qual++"<lambda>") c')) cs) (.fn j l caps) (.ref f):=by
    refine⟨f,clos,zs,cs,rfl,⟨pm,c',ctv,?_⟩,fc,Reps.mono sA caps rz⟩;rw[q0q fout,q0f,hl]
   refine⟨_,[w,.fn j l caps],x07 r2.sub,⟨v1,[.ref f],rfl,Rep.mono sA w p1,⟨.ref f,[],rfl,rfn,rfl⟩⟩,?_⟩;cases q:F [w,.fn j l caps]with
   |ok s=>
    simp only[lamNK,q]at h;cases s with
    |x k=>
     cases k with
     |new w'=>
      intro G' H' v g sl;obtain⟨u,h1,h2⟩:=sl;cases h1;have g':=Grow.nocells g hn2 r2.sub;have ci:CelsIn G' cs:=fun b o z=>g.gg b _ (q15 z)
      refine h (rmC G' cs) v (rmC H' cs) (r2.grow g') (s1.trans (gl.gg.trans g'.gg)) (RepN.rm ci (fun c z=>q1y r2 ?_) w' h2)
      cases q3:cs.lookup c with
      |some o=>have z:addC _ cs c=none:=z;rw[q15 q3]at z;cases z
      |none=>have z:addC _ cs c=none:=z;rw[q0q q3]at z;exact z
     |_=>exact h.elim
    |_=>exact h.elim
   |ex c=>
    simp only[lamNK,q,lamNRes]at h;intro H' sh;refine y3s r2 (s1.trans gl.gg) h (rmC H' cs) fun b u z=>?_
    cases q2:cs.lookup b with
    |some o=>rw[hn2 b o q2]at z;cases z
    |none=>rw[q05 q2];exact sh b u (by rw[q0q q2];exact z)
   |no=>simp only[lamNK,q,lamNRes]at h;exact h.elim
end
def keepN(h:Option HO)(o:HO):Bool:=keepT o||h.isNone
def withN(G G2 H:Hp):Hp:=fun a=>match G a with
 |some o=>some o
 |none=>match G2 a with
  |some o=>if keepN (H a) o=true then some o else none
  |none=>none
section
variable{Z':Zt}{G':Hp}
theorem DAt.via{fz:Bool}{a:Addr}{kvs:List (Kx×V)}{kas:List Addr}(q:DAt fz G a sh kvs kas)(h:∀o,G a=some o->G' a=some o):DAt fz G' a sh kvs kas:=by
 cases fz with
 |true=>obtain⟨o,q⟩:=q;exact⟨o,h _ q⟩
 |false=>exact h _ q
mutual
theorem KRep.via(hU:∀a u,keepT u=true->G a=some u->G' a=some u):∀(k:Kx){v:V},KRep G k v->KRep G' k v
 |.non,_,x=>x
 |.bl _,_,x=>x
 |.int _,_,x=>x
 |.str _,_,x=>x
 |.tup ks,_,⟨a,xs,e,q,r⟩=>⟨a,xs,e,q.imp (fun z=>hU _ _ rfl z) (fun⟨o,z⟩=>⟨o,hU _ _ rfl z⟩),KReps.via hU ks r⟩
theorem KReps.via(hU:∀a u,keepT u=true->G a=some u->G' a=some u):∀(ks:List Kx){vs:List V},KReps G ks vs->KReps G' ks vs
 |[],_,x=>x
 |k::ks,_,⟨v,r,e,h1,h2⟩=>⟨v,r,e,KRep.via hU k h1,KReps.via hU ks h2⟩
end
theorem KeysG.via(hU:∀a u,keepT u=true->G a=some u->G' a=some u):∀{ks:List Kx}{bs:List Addr},KeysG G ks bs->KeysG G' ks bs
 |[],[],_=>trivial
 |k::ks,b::bs,h=>⟨KRep.via hU k h.1,KeysG.via hU h.2⟩
 |[],_::_,h=>h.elim
 |_::_,[],h=>h.elim
theorem KeysS.via(hU:∀a u,keepT u=true->G a=some u->G' a=some u){ks:List Kx}{bs:List Addr}(h:KeysS sh G ks bs):KeysS sh G' ks bs:=by
 unfold KeysS at h |-
 split at h
 ·rename_i hi;rw[if_pos hi];exact h
 ·rename_i hi;rw[if_neg hi];exact h.via hU
mutual
theorem RepN.via(hT:∀a xs,SqT K G a xs->SqT K G' a xs)(hU:∀a u,keepT u=true->G a=some u->G' a=some u)(hL:∀a o,G a=some o->Z.H a=none->G' a=some o/\Z'.H a=none):∀(w:W){v:V},RepN K Z G w v->RepN K Z' G' w v
 |.non,_,h=>h
 |.bl _,_,h=>h
 |.int _,_,h=>h
 |.str _,_,h=>h
 |.tup ws,_,⟨a,xs,e,q,r⟩=>⟨a,xs,e,hT _ _ q,RepNs.via hT hU hL ws r⟩
 |.lst ws,_,⟨a,xs,e,q,n,r,nd⟩=>⟨a,xs,e,(hL _ _ q n).1,(hL _ _ q n).2,RepNs.via hT hU hL ws r,nd⟩
 |.exc _,_,h=>h.elim
 |.dic _,_,h=>h.elim
 |.dw fz sh ks ws,_,⟨a,kvs,kas,e,q,n,h1,h2,r⟩=>⟨a,kvs,kas,e,q.via (fun o z=>(hL _ o z n).1),(let ⟨_,z⟩:=q.ex;(hL _ _ z n).2),h1,KeysS.via hU h2,RepNs.via hT hU hL ws r⟩
 |.fn _ _ _,_,h=>h.elim
theorem RepNs.via(hT:∀a xs,SqT K G a xs->SqT K G' a xs)(hU:∀a u,keepT u=true->G a=some u->G' a=some u)(hL:∀a o,G a=some o->Z.H a=none->G' a=some o/\Z'.H a=none):∀(ws:List W){vs:List V},RepNs K Z G ws vs->RepNs K Z' G' ws vs
 |[],_,h=>h
 |w::ws,_,⟨x,r,e,p,q⟩=>⟨x,r,e,RepN.via hT hU hL w p,RepNs.via hT hU hL ws q⟩
end
end
section
variable{e:Expr}{H:Hp}{σ:L2.St}{e0:List S}
theorem Rel.unlentN{G2 H2:Hp}{e2:List S}(r:Rel K Z G σ H e0)(hio:Z.io=[])(r2:Rel K ⟨H,lentG Z G H,[]⟩ G2 σ H2 e2):Rel K Z (withN G G2 H) σ H2 e0:=by
 have hh:Same H H2:=fun a o h=>r2.ent a o h (fun z=>nomatch z)
 have sg:Same G (withN G G2 H):=fun a o h=>by unfold withN;rw[h]
 have stay:∀a o,H a=some o->G a=none->keepT o=false->withN G G2 H a=none:=fun a o h1 h2 h3=>by
  have z:G2 a=lentG Z G H a:=r2.gen a (by show H a≠none;rw[h1];exact fun z=>nomatch z)
  unfold withN;rw[h2,z];unfold lentG;cases q:Z.H a with
  |none=>simp only[h1,keepN,h3];rfl
  |some _=>simp only[h2]
 refine⟨fun a o h=>?_,fun i s h=>?_,r.len,r.dis,fun a o h n=>hh _ _ (r.ent a o h n),fun a h=>(by rw[hio]at h;cases h),fun a h=>?_⟩
 ·unfold withN at h;cases q:G a with
  |some u=>rw[q]at h;cases h;exact hh _ _ (r.sub _ _ q)
  |none=>
   rw[q]at h;cases q2:G2 a with
   |none=>rw[q2]at h;cases h
   |some u=>
    rw[q2]at h;dsimp only at h;split at h
    ·cases h;exact r2.sub _ _ q2
    ·cases h
 ·have q:=r.slot i s h;cases s with
  |no=>trivial
  |fr w=>
   obtain⟨u,q1,q2⟩:=q;exact⟨u,q1,Rep.mono sg w q2⟩
  |own b ws=>
   obtain⟨a,xs,q1,q2,q3,q4,q5⟩:=q;exact⟨a,xs,q1,hh _ _ q2,stay _ _ q2 q3 rfl,q4,Reps.mono sg ws q5⟩
  |dic kvs=>
   obtain⟨a,q1,q2,q3,q4⟩:=q;exact⟨a,q1,hh _ _ q2,stay _ _ q2 q3 (by cases kvs<;>rfl),q4⟩
  |thr us ws vs=>
   obtain⟨t,l,o,xs,ys,zs,q1,q2,q3,q4,q5,q6,q7,q8⟩:=q;exact⟨t,l,o,xs,ys,zs,q1,sg _ _ q2,hh _ _ q3,stay _ _ q3 q4 rfl,q5,Reps.mono sg us q6,Reps.mono sg ws q7,Reps.mono sg vs q8⟩
  |nest wss=>exact NestOk.move q sg fun l o ys k1 k2 k3=>⟨hh _ _ k1,stay _ _ k1 k2 rfl,k3⟩
  |x k=>exact XOk.move q sg fun l o ys k1 k2 k3=>⟨hh _ _ k1,stay _ _ k1 k2 rfl,k3⟩
  |dw sh ks ws=>exact DwOk.move q sg fun l o ys k1 k2 k3=>⟨hh _ _ k1,stay _ _ k1 k2 y1m,k3⟩
 ·have e:∃o,H a=some o:=by
   cases q:Z.H a with
   |none=>exact absurd q h
   |some o=>exact⟨o,r.ent a o q (by rw[hio];exact fun z=>nomatch z)⟩
  obtain⟨o,ho⟩:=e;rw[<- r.gen a h];unfold withN;cases q:G a with
  |some u=>rfl
  |none=>
   have z:G2 a=lentG Z G H a:=r2.gen a (by show H a≠none;rw[ho];exact fun z=>nomatch z)
   rw[z];unfold lentG;cases q2:Z.H a with
   |none=>exact absurd q2 h
   |some _=>simp only[q]
def lendN(e:List S):R W->R W
 |.ok w _=>.ok w e
 |.ex c _=>.ex c e
 |.no=>.no
def dLendN(d:Den W):Den W:=fun e=>lendN e (d (hideS e))
theorem y69(hio:Z.io=[])(he:∀Z',DN Z' X EE e d):DN Z X EE e (dLendN d):=by
 intro pins s σ H Q I hq;obtain⟨G,e0,rel,h⟩:=hq;refine he ⟨H,lentG Z G H,[]⟩ pins s σ H Q I ⟨_,hideS e0,rel.lent hio,?_⟩;unfold dLendN lendN at h;cases q:d (hideS e0)with
 |ok w e2=>
  rw[q]at h;dsimp only at h;intro G2 v H2 r2 s2 p
  have kp:∀b o,G2 b=some o->keepN (H b) o=true->withN G G2 H b=some o:=fun b o h1 h2=>by
   unfold withN;cases qq:G b with
   |some u=>
    have h3:G2 b=some u:=s2 b u (by
     unfold lentG;cases q9:Z.H b with
     |none=>exact rel.sub _ _ qq
     |some _=>exact qq)
    rw[h1]at h3;cases h3;rfl
   |none=>simp only[h1,h2];rfl
  refine h (withN G G2 H) v H2 (rel.unlentN hio r2) (fun b o z=>by unfold withN;rw[z]) (RepN.via (fun b ys z=>?_) (fun b u hk z=>kp _ _ z (by unfold keepN;rw[hk];rfl)) (fun b xs h1 h2=>⟨kp _ _ h1 (by have h2:H b=none:=h2;rw[h2];unfold keepN;simp),q1y rel h2⟩) w p)
  rcases z with(z|⟨o,z⟩)|z
  ·exact .inl (.inl (kp _ _ z rfl))
  ·exact .inl (.inr ⟨o,kp _ _ z rfl⟩)
  ·exact .inr z
 |ex k e2=>
  rw[q]at h;intro G2 H2 r2 s2;exact h (withN G G2 H) H2 (rel.unlentN hio r2) (fun b o z=>by unfold withN;rw[z])
 |no=>rw[q]at h;exact h.elim
end
section
variable(K:Fg)(Z:Zt)(EE:L2.St->XK)
def PostW(D:Ends):SR->Prop
 |.nx e'=>∀G' σ' H',Rel K Z G' σ' H' e'->D.nx σ' H'
 |.bk e'=>∀G' σ' H',Rel K Z G' σ' H' e'->D.bk σ' H'
 |.ct e'=>∀G' σ' H',Rel K Z G' σ' H' e'->D.ct σ' H'
 |.rt s e'=>∀G' σ' v H',Rel K Z G' σ' H' e'->SlotOk K Z G' H' s (some v)->D.rt v H'
 |.ex c e'=>∀G' σ' H',Rel K Z G' σ' H' e'->EE σ' c none H'
 |.no=>False
def liftW(d:List S->SR):TS:=fun D σ H=>AtG K Z σ H fun G e=>PostW K Z EE D (d e)
end
def DSsW(Z:Zt)(X:Cx)(EE:L2.St->XK)(sts:List Stmt)(d:List S->SR):Prop:=PSs X sts (liftW X.K Z EE d)
section
variable{e:List S}{w u v:W}{us vs:List W}{i j k:Nat}{da:Den W}{F:List W->FR}{l:Lm}{js:List Nat}{caps:List W}{c:Value}{ds:List S->SR}
theorem y7a:dAcc0 i dA e=(dA e).stm fun ws e1=>if flatWs ws=true then .nx (e1.set i (.x (.acc ws)))else .no:=rfl
theorem y17:flatWs []=true:=rfl
theorem y7b:dAppN i j e=appNK i j e e[i]? e[j]?:=rfl
theorem y7c:appNK i j e (some (.x (.acc us))) (some (.own none ws))=if(us.length<16777216/\flatWs ws=true)/\((e.set j .no).set i .no).all (fun s=>!isT s)=true then .nx ((e.set j .no).set i (.x (.acc (us++[.lst ws]))))else .no:=rfl
theorem y7d:dFlat d e=(d e).bind fun w e1=>if flatW w=true then .ok w e1 else .no:=rfl
theorem z1k{n:Int}:flatW (.int n)=true:=rfl
theorem y7e:nVarK e (some (.x (.new w)))=.ok w e:=rfl
theorem z1l:dNIx i k e=nIxK k e e[i]?:=rfl
theorem z1m:nIxK k e (some (.x (.new (.tup ws))))=ofOpt ws[k]? e:=rfl
theorem y7f:dNOwn i e=nOwnK i e e[i]?:=rfl
theorem x4y:nOwnK i e (some (.own none ws))=if flatWs ws=true then .ok (.lst ws) (e.set i .no)else .no:=rfl
theorem y7g:dNAcc i e=nAccK i e e[i]?:=rfl
theorem y7h:nAccK i e (some (.x (.acc ws)))=if(e.set i .no).all (fun s=>!isT s)=true then .ok (.lst ws) (e.set i .no)else .no:=rfl
theorem y18:dRetNw d e=(d e).stm fun w e1=>.rt (.x (.new w)) e1:=rfl
theorem y19:dSetNw i d e=(d e).stm fun w e1=>.nx (e1.set i (.x (.new w))):=rfl
theorem y2a:callNK e (.ok (.x (.new w)))=.ok w e:=rfl
theorem x8x:callNK e (.ex c)=.ex c e:=rfl
theorem y7i:dLamN F j l js d e=(d e).bind fun w e1=>lamNK F j l w e1 (capsOf js e1):=rfl
theorem q6q:lamNK F j l w e (some caps)=lamNRes e (F [w,.fn j l caps]):=rfl
theorem x8y:lamNRes e (.ok (.x (.new w)))=.ok w e:=rfl
theorem y2b:dLendN d e=lendN e (d (hideS e)):=rfl
theorem y2c{e':List S}:lendN e (.ok w e')=.ok w e:=rfl
theorem y2d:hide1 (.x (.old w))=.fr w:=rfl
theorem y2e:hide1 (.x (.new w))=.fr w:=rfl
theorem y2f:hide1 (.x (.acc ws))=.fr (.lst ws):=rfl
theorem x8z:hide1 (.x (.thro us ws vs))=.fr (.tup (us++.lst ws::vs)):=rfl
end
end D
namespace L2
open PySem PySem.Spec PyProof.Rows
end L2
namespace D
open PySem L2 PySem.Spec PyProof.Rows
open PyProof.Rows (envOfC)
section
variable{K:Fg}{Z:Zt}{G H:Hp}{σ:L2.St}{e:List S}
theorem Rel.openSet(r:Rel K Z G σ H e)(ls:List Addr) [DecidablePred (·∈ls)]{H':Hp}(hF:∀c∈ls,∃o ys,FzAt Z G H c o ys)(hT:∀s∈e,isT s=false)(hH:∀c,c∉ls->H' c=H c)(hs:∀c∈ls,H' c≠none):
  Same G (fun c=>if c∈ls then H' c else G c)/\Rel K Z (fun c=>if c∈ls then H' c else G c) σ H' e:=by
 have out:∀c u,G c=some u->c∉ls:=fun c u h hc=>by
  obtain⟨o,ys,h1⟩:=hF c hc;rw[h1.2.1]at h;cases h
 have sg:Same G (fun c=>if c∈ls then H' c else G c):=fun c u h=>by
  show(if c∈ls then H' c else G c)=some u;rw[if_neg (out c u h)];exact h
 have inn:∀c,c∉ls->(fun c=>if c∈ls then H' c else G c) c=G c:=fun c hc=>if_neg hc
 have lt:∀c o,H c=some o->(∀ob ys,o≠.frz ob (.lst ys))->c∉ls:=fun c o h hne hc=>by
  obtain⟨ob,ys,h1⟩:=hF c hc;rw[h1.1]at h;cases h;exact hne _ _ rfl
 refine⟨sg,fun c u z=>?_,fun j s z=>?_,r.len,r.dis,fun c u z n=>?_,fun c z=>?_,fun c z=>?_⟩
 ·by_cases hc:c∈ls
  ·rw[show(if c∈ls then H' c else G c)=H' c from if_pos hc]at z;exact z
  ·rw[show(if c∈ls then H' c else G c)=G c from if_neg hc]at z;rw[hH c hc];exact r.sub c u z
 ·have hns:isT s=false:=hT s (w0m z);have y:=r.slot j s z;cases s with
  |no=>trivial
  |fr w=>
   obtain⟨u,y1,y2⟩:=y;exact⟨u,y1,Rep.mono sg w y2⟩
  |own b ws=>
   obtain⟨c,xs,y1,y2,y3,y4,y5⟩:=y;have hc:=lt c _ y2 (fun _ _ z=>nomatch z)
   exact⟨c,xs,y1,by rw[hH c hc];exact y2,(inn c hc).trans y3,y4,Reps.mono sg ws y5⟩
  |dic kvs=>
   obtain⟨c,y1,y2,y3,y4⟩:=y;have hc:=lt c _ y2 (fun _ _ z=>by cases kvs<;>cases z)
   exact⟨c,y1,by rw[hH c hc];exact y2,(inn c hc).trans y3,y4⟩
  |thr _ _ _=>cases hns
  |nest _=>cases hns
  |x k=>
   cases k with
   |old w=>obtain⟨u,h1,h2,h3⟩:=y;exact⟨u,h1,h2,Rep.mono sg w h3⟩
   |new w=>obtain⟨u,h1,h2⟩:=y;exact⟨u,h1,RepN.move sg (fun _ _ _ z=>z) w h2⟩
   |_=>cases hns
  |dw sh ks ws=>
   refine DwOk.move y sg fun c kv ka k1 k2 k3=>?_
   have hc:=lt c _ k1 (fun _ _=>q18 rfl)
   exact⟨by rw[hH c hc];exact k1,by show(if c∈ls then H' c else G c)=none;rw[if_neg hc];exact k2,k3⟩
 ·have hc:c∉ls:=fun hc=>by
   obtain⟨_,_,h1⟩:=hF c hc;rw[h1.2.2]at z;cases z
  rw[hH c hc];exact r.ent c u z n
 ·by_cases hc:c∈ls
  ·exact hs c hc
  ·rw[hH c hc];exact r.ion c z
 ·have hc:c∉ls:=fun hc=>by
   obtain⟨_,_,h1⟩:=hF c hc;exact z h1.2.2
  show(if c∈ls then H' c else G c)=Z.G c;rw[if_neg hc];exact r.gen c z
theorem Rel.tnThr(r:Rel K Z G σ H e){i:Nat}{us:List W}{wss wss':List (List W)}{t l:Addr}{o:Obj}{ls:List Addr}{xs:List V}{H':Hp}(hv:σ[i]?=some (some (.ref t)))(h2:G t=some (.tup (xs++[.ref l])))(h3:FzAt Z G H l o (ls.map V.ref))(h5:l∉ls)(h6:Reps K G us xs)(h7:NestIn K Z G H ls wss)
  (hT:∀s∈e.set i .no,isT s=false)(hH:∀c,c∉ls->H' c=H c)(hin':LsIn K G H' ls wss'):∃G',Same G G'/\Rel K Z G' σ H' (e.set i (.thr us (wss'.map W.lst) [])):=by
 classical
 obtain⟨sg,r2⟩:=(r.drop1 i).openSet ls (H':=H') h7.mem hT hH hin'.some;refine⟨_,sg,r2.refill hv (fun _ _ z=>nomatch z) ⟨t,l,o,xs,ls.map V.ref,[],rfl,sg _ _ h2,by rw[hH l h5];exact h3.1,?_,h3.2.2,Reps.mono sg us h6,hin'.reps sg (fun l hl=>if_pos hl),rfl⟩⟩
 show(if l∈ls then H' l else G l)=none;rw[if_neg h5];exact h3.2.1
end
section
variable{X:Cx}{Z:Zt}{EE:L2.St->XK}{a b c e:Expr}{es:List Expr}{da db d:Den W}{dF dA:Den (List W)}{x:Str}{pos p tpos spos:Pos}
def ownFK(i:Nat)(e:List S):Option S->R (List W)
 |some (.own none ws)=>.ok ws (e.set i .no)
 |_=>.no
def varT(i:Nat)(e:List S):Option S->R W
 |some (.thr us ws [])=>if(e.set i .no).all (fun s=>!isT s)=true then .ok (.tup (us++[.lst ws])) (e.set i (.fr (.tup (us++[.lst ws]))))else .no
 |some (.x (.tn us wss))=>if(e.set i .no).all (fun s=>!isT s)=true then .ok (.tup (us++[.lst (wss.map W.lst)])) (e.set i (.fr (.tup (us++[.lst (wss.map W.lst)]))))else .no
 |s=>varS i e s
def dVarT(i:Nat):Den W:=fun e=>varT i e e[i]?
theorem x0a(i:Nat)(hN:X.N[i]?=some x:=by rfl)(hv:Vis X.env.scope x:=by walk_at "1")(hd:(x==("__debug__":Str))=false:=by decide)(hcd:(x==("__classdict__":Str))=false:=by decide):DE Z X EE (.Name x pos) (dVarT i):=by
 refine PE.mono (pv i hN hv hd hcd) ?_;rintro σ H Q ⟨G,e,r,h⟩;unfold dVarT varT at h;split at h
 ·rename_i us ws he;split at h
  ·rename_i hT
   classical
   obtain⟨t,l,o,xs,ys,zs,h1,h2,h3,h4,h5,h6,h7,h8⟩:=r.slot i _ he;cases(show zs=[]from h8);have hv:=r.at he fun _=>h1
   obtain⟨sg,r2⟩:=(r.drop1 i).openSet [l] (H':=H) (fun c hc=>by rw[w0u.mp hc];exact⟨o,ys,h3,h4,h5⟩) (allT hT) (fun _ _=>rfl) (fun c hc=>by rw[w0u.mp hc,h3];exact fun z=>nomatch z)
   have rp:Rep X.K (fun c=>if c∈[l]then H c else G c) (.tup (us++[.lst ws])) (.ref t):=⟨t,_,rfl,SqT.of (sg _ _ h2),(Reps.mono sg us h6).append ⟨.ref l,[],rfl,⟨l,ys,rfl,.inl (.inr ⟨o,by show(if l∈[l]then H l else G l)=_;rw[if_pos (by simp)];exact h3⟩),Reps.mono sg ws h7⟩,rfl⟩⟩
   exact⟨.ref t,hv,h _ _ H (r2.refill hv (fun _ _ z=>nomatch z) ⟨_,rfl,rp⟩) sg rp⟩
  ·exact h.elim
 ·rename_i us wss he;split at h
  ·rename_i hT
   classical
   obtain⟨t,l,o,ls,xs,h1,h2,h3,h4,h6,h7⟩:=r.slot i _ he;have hv:=r.at he fun _=>h1
   obtain⟨sg,r2⟩:=(r.drop1 i).openSet (l::ls) (H':=H) (fun c hc=>by
    rcases w0h.mp hc with rfl|hc
    ·exact⟨o,_,h3⟩
    ·exact h7.mem c hc) (allT hT) (fun _ _=>rfl) (fun c hc=>by
    rcases w0h.mp hc with rfl|hc
    ·rw[h3.1];exact fun z=>nomatch z
    ·obtain⟨_,_,k⟩:=h7.mem c hc;rw[k.1];exact fun z=>nomatch z)
   have rp:Rep X.K (fun c=>if c∈l::ls then H c else G c) (.tup (us++[.lst (wss.map W.lst)])) (.ref t):=⟨t,_,rfl,SqT.of (sg _ _ h2),(Reps.mono sg us h6).append ⟨.ref l,[],rfl,⟨l,_,rfl,.inl (.inr ⟨o,by show(if l∈l::ls then H l else G l)=_;rw[if_pos (by simp)];exact h3.1⟩),h7.reps0 sg fun c hc=>if_pos (w0t _ hc)⟩,rfl⟩⟩
   exact⟨.ref t,hv,h _ _ H (r2.refill hv (fun _ _ z=>nomatch z) ⟨_,rfl,rp⟩) sg rp⟩
  ·exact h.elim
 ·rw[<- x7l]at h;exact x2d σ H Q ⟨G,e,r,h⟩
def putTNK(i:Nat)(e:List S):Option S->Option S->Option S->Option S->SR
 |some (.x (.tn us wss)),some (.fr w),some (.fr (.int p)),some (.fr (.int q))=>match ixN wss.length p,(atI wss p).bind fun ws=>(ixN ws.length q).map fun j=>ws.set j w with
  |some j,some ws'=>if us.length=2/\(e.set i .no).all (fun s=>!isT s)=true then .nx (e.set i (.thr us ((wss.set j ws').map W.lst) []))else .no
  |_,_=>.no
 |_,_,_,_=>.no
def setTNK(i:Nat)(e:List S):FR->SR
 |.ok (.x (.tn us wss))=>.nx (e.set i (.x (.tn us wss)))
 |_=>.no
def dSetTN(i:Nat)(F:List W->FR)(dA:Den (List W)):List S->SR:=fun e=>(dA e).stm fun ws e1=>setTNK i e1 (F ws)
theorem y2g(i:Nat){f:Str}{k:Nat}{ps:List Str}{F:List W->FR}{np cpos:Pos}(hN:X.N.Nodup)(C:Cal X.prog X.w X.K X.mg X.base k f ps (spF X.K F))(hr:Room k X.A)(hx:PassX (CX1 X.prog X.w) X EE)(ha:DA Z X EE (e::es) dA)(hg:Gl X f:=by rfl)
  (hdb:(f==("__debug__":Str))=false:=by decide)(he:starEach (e::es) X.env=(false,eval e X.env)::starEach es X.env:=by rfl)(hpl:(backTo cpos (starEach es X.env)).any (·.1)=false:=by rfl)
  (hi:X.N[i]?=some x:=by rfl)(hl:Loc X.env.scope x:=by walk_at "3")(hs:swapsWith (.Call (.Name f np) (e::es) [] cpos) (some (.Name x p)) pos.line X.env=pure false:=by rfl)(hf:X.fn x=true\/X.env.scope.names.lookup x=some .local:=by walk_at "2"):
  DS Z X EE (.Assign [.Name x p] (.Call (.Name f np) (e::es) [] cpos) pos) (dSetTN i F dA):=by
 refine PS.mono (q6j i hN (x6z C hr hx ha hg hdb he hpl) hi hl hs hf) ?_;rintro D σ H ⟨G,e,rel,h⟩;refine⟨G,e,rel,(q0r h).imp (fun ws e1 h G1 vs H1 r1 s1 p1=>?_) fun _ _ h=>h⟩
 refine⟨G1,ws,r1.sub,by rw[w1j];exact p1,?_⟩;cases q:F ws with
 |ok s=>
  rw[q]at h;intro G' H' v g sl;cases s with
  |x k=>
   cases k with
   |tn us wss=>
    have r2:=r1.grow g;obtain⟨t,l,o,ls,xs,k1,k2,⟨k3,k4,k5⟩,k6,k7,k8⟩:=sl;cases k1;exact h G' _ H' (r2.setS (s:=.x (.tn us wss)) (fun _ _ z=>nomatch z) ⟨t,l,o,ls,xs,rfl,k2,⟨k3,k4,q1y r1 k5⟩,k6,k7,k8.move (.refl _) fun _ _ _ a b c=>⟨a,b,q1y r1 c⟩⟩) (s1.trans g.gg)
   |_=>exact h.elim
  |_=>exact h.elim
 |ex c=>rw[q]at h;exact h.elim
 |no=>rw[q]at h;exact h.elim
end
variable{X:Cx}{EE:L2.St->XK}{e:List S}{ws:List W}{i:Nat}{b:Option Nat}{x:Str}{Z:Zt}
def nestCK(js:List Nat)(d:Den (List W))(e:List S):Option (List W)->R (List (List W))
 |some ws=>if ws.length<=16777216 then ofOpt (compN d (pjS js (frzs js e)) ws) (frzs js e)else .no
 |none=>.no
def dNestC(js:List Nat)(di:Den W)(d:Den (List W)):Den (List (List W)):=fun e=>(di e).bind fun w e1=>nestCK js d e1 (seqW w)
def liftX(K:Fg)(Z:Zt)(EE:L2.St->XK)(d:Den (List (List W))):TE:=fun σ H Q=>AtG K Z σ H fun G e=>(d e).holds (fun wss e'=>∀G' a ls H',Rel K Z G' σ H' e'->Same G G'->H' a=some (.lst (ls.map V.ref))->G' a=none->Z.H a=none->Free σ e' a->ls.Nodup->NestIn K Z G' H' ls wss->Q (.ref a) H') (XH K Z EE σ G)
def DX(Z:Zt)(X:Cx)(EE:L2.St->XK)(e:Expr)(d:Den (List (List W))):Prop:=PE X e (liftX X.K Z EE d)
section
variable{elt iter:Expr}{scope sc:Scope}{pos pt:Pos}{Nf N:List Str}{js:List Nat}{di:Den W}{d:Den (List W)}
theorem y7j(hc:X.calm=true)(hi:DE Z X EE iter di)(ok:compOk sc scope N Nf js=true)
  (he:∀Z' cl C s₀ H₀ ex,DF Z' (X.cp ([x]++Nf) scope cl C s₀ H₀ ex) (fun _=>E0) elt d)
  (hg:∀cl C s₀ H₀ ex,PG (X.cp ([x]++Nf) scope cl C s₀ H₀ ex) (.Name x pt) (gName 0))
  (hsc:X.env.scope=sc:=by rfl)(hN:X.N=N:=by rfl)(hs:∀x,foldedSetIterable iter X.env x=pure x:=by intro _;rfl):
  DX Z X EE (.ListComp elt [⟨.Name x pt,iter,[],0⟩] scope pos) (dNestC js di d):=by
 have hE:∀cl C s₀ H₀ ex,PE (X.cp ([x]++Nf) scope cl C s₀ H₀ ex) elt (cF X.K d):=fun cl C s₀ H₀ ex pins s σ H Q I ⟨Z',h⟩=>he Z' cl C s₀ H₀ ex pins s σ H Q I h
 refine PE.mono (q6i (Nl:=[x]) (tc:=cT X.K dYes) (te:=cFz X.K d) hc (q82 hi) ok hg (q84 fun _ _ _ _ _ _=>q5f) (fun cl C s₀ H₀ ex=>q94 (hE cl C s₀ H₀ ex)) hsc hN hs) ?_
 rintro σ H Q ⟨G,e,rel,h⟩;simp only[dNestC,R.holds_bind]at h;refine⟨G,e,rel,h.imp (fun w e1 h G1 v1 H1 r1 s1 p1=>?_) fun _ _ h=>h⟩
 unfold nestCK at h;split at h
 ·rename_i ws hw;split at h
  ·rename_i hl;obtain⟨out,ho,h⟩:=ofOpt_holds.mp h;obtain⟨G2,s2,r2⟩:=r1.frzs js;have p2:=Rep.mono s2 w p1;have io:=ionone r2;cases w with
   |tup us=>
    cases hw;obtain⟨a,xs,rfl,hq,rp⟩:=p2;exact⟨a,rfl,.inr ⟨⟨xs,r2.sub.tup hq⟩,x4v (Q:=Q) x2g r2 (s1.trans s2) rp (fun G' H' s s'=>Same.tup s' (Same.tup s hq)) hl io ho h⟩⟩
   |lst us=>
    cases hw;obtain⟨a,xs,rfl,hq,rp⟩:=p2;exact⟨a,rfl,.inl ⟨⟨xs,r2.sub.seq hq⟩,x4v (Q:=Q) x2f r2 (s1.trans s2) rp (fun G' H' s s'=>Same.seq s' (Same.seq s hq)) hl io ho h⟩⟩
   |_=>cases hw
  ·exact h.elim
 ·exact h.elim
end
section
variable{a b c:Expr}{da db dc:Den W}{dX:Den (List (List W))}{pos p tpos ipos:Pos}
def dRetTN(da db:Den W)(dX:Den (List (List W))):List S->SR:=fun e=>(da e).stm fun u e1=>(db e1).stm fun v e2=>(dX e2).stm fun wss e3=>.rt (.x (.tn [u,v] wss)) e3
theorem y2h{x1}(hio:Z.io=[])(ha:DE Z X EE a da)(hb:DE Z X EE b db)(hc:DX Z X EE c dX)
  (h1:starEach [a,b,c] X.env=(false,eval a X.env)::starEach [b,c] X.env:=by rfl)(h2:starEach [b,c] X.env=(false,eval b X.env)::starEach [c] X.env:=by rfl)(h3:starEach [c] X.env=(false,eval c X.env)::starEach [] X.env:=by rfl):
  DS Z X EE (.Return (some (.Tuple [a,b,c] x1 tpos)) pos) (dRetTN da db dX):=by
 refine PS.mono (q60 (x16 (q2u ha (q2u hb (q2u (q94 hc) q5k h3) h2) h1))) ?_;rintro D σ H ⟨G,e,rel,h⟩;refine⟨G,e,rel,(q0r h).imp (fun u e1 h G1 v1 H1 r1 s1 p1=>?_) fun _ _ h=>h⟩
 refine⟨G1,e1,r1,(q0r (σ:=σ) h).imp (fun v e2 h G2 v2 H2 r2 s2 p2=>?_) fun _ _ h=>XH.trans s1 h⟩
 refine⟨G2,e2,r2,(q0r (σ:=σ) h).imp (fun wss e3 h G3 l ls H3 r3 s3 q1 q2 q3 q4 hnd hin=>?_) fun _ _ h=>XH.trans (s1.trans s2) h⟩
 refine⟨l,ls.map V.ref,rfl,q1,fun o=>⟨by rw[sizeLine_eq];show 3<=16777216;decide,fun t ht=>?_⟩⟩
 have r4:=r3.mutFree (o:=.frz o (.lst (ls.map V.ref))) q2 q3 (by rw[hio];exact fun z=>nomatch z) q4 q1
 have htl:l≠t:=fun z=>by subst z;rw[q0f]at ht;cases ht
 have g:=Grow.laid r4.sub ht (.tup [v1,v2,.ref l]);have s23:=s2.trans s3;refine h _ σ (.ref t) _ (r4.grow g) ((s1.trans s23).trans g.gg) ⟨t,l,o,ls,[v1,v2],rfl,q0f,⟨?_,?_,q3⟩,⟨hnd,fun hl=>?_⟩,?_,?_⟩
 ·rw[q0b htl,q0f]
 ·rw[q0b htl];exact q2
 ·obtain⟨o',ys',k⟩:=hin.mem l hl;have k1:=k.1;rw[q1]at k1;cases k1
 ·exact⟨v1,[v2],rfl,Rep.mono (s23.trans g.gg) u p1,v2,[],rfl,Rep.mono (s3.trans g.gg) v p2,rfl⟩
 ·refine hin.move g.gg fun c o ys k1 k2 k3=>?_
  have n1:c≠l:=q0o k1 q1 (fun z=>nomatch z)
  have n2:c≠t:=fun z=>by subst z;rw[q0b n1,k1]at ht;cases ht
  exact⟨by rw[q0b n2,q0b n1];exact k1,by rw[q0b n2];exact k2,k3⟩
end
section
variable{w u v:W}{us vs:List W}{wss:List (List W)}{j k c:Nat}{d da db dc:Den W}{dA dF:Den (List W)}{dX:Den (List (List W))}{F:List W->FR}{js:List Nat}{kS:List S->SR}
theorem y7k:ownFK i e (some (.own none ws))=.ok ws (e.set i .no):=rfl
theorem y7l:dVarT i e=varT i e e[i]?:=rfl
theorem y7m:varT i e (some (.fr w))=.ok w e:=rfl
theorem y2i{p q:Int}{jj:Nat}{ws':List W}(h1:ixN wss.length p=some jj)(h2:(atI wss p).bind (fun ws=>(ixN ws.length q).map fun j=>ws.set j w)=some ws')(h3:us.length=2/\(e.set i .no).all (fun s=>!isT s)=true):putTNK i e (some (.x (.tn us wss))) (some (.fr w)) (some (.fr (.int p))) (some (.fr (.int q)))=.nx (e.set i (.thr us ((wss.set jj ws').map W.lst) [])):=by
 unfold putTNK;dsimp only;rw[h1,h2];exact if_pos h3
theorem y2j:dSetTN i F dA e=(dA e).stm fun ws e1=>setTNK i e1 (F ws):=rfl
theorem y2k:setTNK i e (.ok (.x (.tn us wss)))=.nx (e.set i (.x (.tn us wss))):=rfl
theorem y2l:dNestC js d dF e=(d e).bind fun w e1=>nestCK js dF e1 (seqW w):=rfl
theorem y2m:nestCK js dF e (some ws)=if ws.length<=16777216 then ofOpt (compN dF (pjS js (frzs js e)) ws) (frzs js e)else .no:=rfl
theorem y2n:dRetTN da db dX e=(da e).stm fun u e1=>(db e1).stm fun v e2=>(dX e2).stm fun wss e3=>.rt (.x (.tn [u,v] wss)) e3:=rfl
theorem y7n:hide1 (.x (.tn us wss))=.fr (.tup (us++[.lst (wss.map W.lst)])):=rfl
end
open PySem L2
def popAtK(i:Nat)(e:List S)(kw:W):Option S->R W
 |some (.own b ws)=>match kw with
  |.int k=>if 0<=k/\k<9223372036854775808 then(match ws[k.toNat]? with
   |some w=>.ok w (e.set i (.own b (ws.eraseIdx k.toNat)))
   |none=>.no)else .no
  |_=>.no
 |_=>.no
def popAt0(k:R W):Option S->R W
 |some (.own _ _)=>k
 |_=>.no
def dPopAt(i:Nat)(dk:Den W):Den W:=fun e=>popAt0 ((dk e).bind fun kw e1=>popAtK i e1 kw e1[i]?) e[i]?
section
variable{p:Pos}{a:Expr}{dk:Den W}
theorem y2o(i:Nat){apos cpos:Pos}(hk:DE Z X EE a dk)(hN:X.N[i]?=some x:=by rfl)(hv:Vis X.env.scope x:=by walk_at "1")(hd:(x==("__debug__":Str))=false:=by decide)(hcd:(x==("__classdict__":Str))=false:=by decide)
  (hbase:attributeBase (.Name x p) "pop" X.env (eval (.Name x p) X.env)=eval (.Name x p) X.env:=by rfl)
  (hfew:((backTo cpos (starEach [a] X.env)).all (fun x=>!x.1)&&(backToKw cpos (keywordEach [] X.env)).all (fun x=>x.1.isSome)&&decide (([a]:List Expr).length+([]:List Keyword).length+(if([]:List Keyword).isEmpty then 0 else 1)<30))=true:=by rfl)
  (hline:(apos.endLine==cpos.line)=true:=by rfl)(hst:starEach [a] X.env=(false,eval a X.env)::starEach [] X.env:=by rfl)(hplain:(backTo cpos (starEach [] X.env)).any (·.1)=false:=by rfl):
  DE Z X EE (.Call (.Attribute (.Name x p) "pop" apos) [a] [] cpos) (dPopAt i dk):=by
 refine PE.mono (x5o PySem.F.plainAttrs_list PySem.F.slot_list_pop PySem.F.type_list_pop x93 (pv i hN hv hd hcd) (q2u hk q5k hst) hbase hfew hline hst hplain) ?_;rintro σ H Q ⟨G,e,rel,h⟩;unfold dPopAt popAt0 at h;split at h
 ·rename_i b0 ws0 he0;obtain⟨a,xs,h1,h2,h3,h4,h5⟩:=rel.own he0;rw[R.holds_bind]at h;refine⟨.ref a,h1,.inl ⟨rfl,xs,SqL.of h2⟩,G,e,rel,h.imp (fun kw e1 h G1 v H1 r1 s1 p1=>?_) fun _ _ h=>h⟩
  unfold popAtK at h;split at h
  ·rename_i b ws he1;obtain⟨a',zs,g1,g2,g3,g4,g5⟩:=r1.own he1;rw[h1]at g1;cases g1;split at h
   ·rename_i k;split at h
    ·rename_i hc;split at h
     ·rename_i w hw;cases(show v=V.int k from p1);obtain⟨y,hy,ry⟩:=g5.get hw;have hlt:k.toNat<zs.length:=(w0b.mp hy).1;refine⟨a,zs,k,k.toNat,y,rfl,rfl,g2,by omega,by omega,(q9s (j:=k.toNat) (by unfold ixN;rw[if_pos hc.1,if_pos (by omega)])).1,hy,?_⟩;exact h G1 y _ (r1.mut he1 h1 (Reps.erase k.toNat g5)) s1 ry
     ·exact h.elim
    ·exact h.elim
   ·exact h.elim
  ·exact h.elim
 ·exact h.elim
theorem y2p:dPopAt i dk e=popAt0 ((dk e).bind fun kw e1=>popAtK i e1 kw e1[i]?) e[i]?:=rfl
theorem y2q{k:R W}:popAt0 k (some (.own b ws))=k:=rfl
theorem y2r{k : Int} : popAtK i e (.int k) (some (.own b ws)) = if 0 <= k /\ k < 9223372036854775808 then (match ws[k.toNat]? with
   | some w => .ok w (e.set i (.own b (ws.eraseIdx k.toNat)))
   | none => .no) else .no := rfl
theorem y2s{k:Nat}{w:W}(h:ws[k]?=some w)(h2:k<16777216):popAtK i e (.int (k:Int)) (some (.own b ws))=.ok w (e.set i (.own b (ws.eraseIdx k))):=by
 rw[y2r,if_pos ⟨by omega,by omega⟩,w1v,h]
end
end D
namespace L2
open PySem PySem.Spec PyProof.Rows
end L2
namespace D
open PySem L2
end D
namespace L2
open PySem PySem.Spec PyProof.Rows
end L2
namespace D
open PySem L2
section
variable{e:List S}{ws:List W}{lo hi:Option Int}{d da db:Den W}{dA:Den (List W)}{js:List Nat}{c:Den Bool}{kvs:List (Key×Sv)}{w kw:W}
theorem z4d{x:Str}:ixD (.dic (.k kvs)) (.str x)=(lk kvs (.inr x)).map wSv:=rfl
theorem y2t{i:Nat}{n:Int}{x:Str}:putDC i (.int n) (.str x) e (some (.dic (.k kvs)))=if kvs.length<16777216/\onlyD i e=true then .nx (e.set i (.dic (.k (putL kvs (.inr x) (.inl n)))))else .no:=rfl
def retDC(e:List S):Option S->SR
 |some (.dic d)=>.rt (.dic d) e
 |_=>.no
theorem y7o{i:Nat}:dRetD i e=retDC e e[i]?:=by
 rfl
theorem y7p{dd:Dd}:retDC e (some (.dic dd))=.rt (.dic dd) e:=rfl
end
end D
namespace L2
open PySem PySem.Spec PyProof.Rows
namespace RevT
end RevT
open PySem PySem.Spec PyProof.Rows
end L2
namespace D
open PySem L2
end D
namespace L2
open PySem PySem.Spec PyProof.Rows
end L2
namespace D
open PySem L2
open PySem L2 PySem.Spec PyProof.Rows
end D
namespace Att
open PySem PySem.W PySem.Calls PyProof.Rows
end Att
namespace L2
open PySem PySem.Spec PyProof.Rows
end L2
namespace D
open PySem L2
open Classical in
noncomputable instance fitsD (k:Kx) (sh:Sh):Decidable (fits k sh):=Classical.propDecidable _
open PySem L2 PySem.Spec PyProof.Rows
section
variable{K:Fg}{Z:Zt}{G H:Hp}
def clrW:List (Bool×Nat)->W->Option W
 |[],.lst _=>some (.lst [])
 |(false,k)::p,.lst ws=>(ws[k]?.bind (clrW p)).map fun w=>.lst (ws.set k w)
 |(true,k)::p,.tup ws=>(ws[k]?.bind (clrW p)).map fun w=>.tup (ws.set k w)
 |_,_=>none
end
section
variable{e:List S}{w w' u1 u2 w1 w2:W}{us:List W}{wss:List (List W)}{i j k:Nat}{q:List (Bool×Nat)}{F:List W->FR}
theorem y7q:hide1 (.x (.fz w))=.fr w:=rfl
theorem y2u:hide1 (.x (.fzo w))=.fr w:=rfl
end
section
variable{X:Cx}{Z:Zt}{EE:L2.St->XK}{a b:Expr}{da db:Den W}{pos:Pos}
def catK(u:W)(e:List S):W->R (List W)
 |.lst ys=>match u with
  |.lst xs=>if xs.length+ys.length<=16777216 then .ok (xs++ys) e else .no
  |_=>.no
 |_=>.no
def dCat(da db:Den W):Den (List W):=fun e=>(da e).bind fun u e1=>(db e1).bind fun v e2=>catK u e2 v
theorem z1n(ha:DE Z X EE a da)(hb:DE Z X EE b db):DF Z X EE (.BinOp a .Add b pos) (dCat da db):=by
 refine PE.mono (x5l x4j ha hb) ?_;rintro σ H Q ⟨G,e,rel,h⟩;simp only[dCat,R.holds_bind]at h;refine⟨G,e,rel,h.imp (fun u e1 h G1 v1 H1 r1 s1 p1=>?_) fun _ _ h=>h⟩
 refine⟨G1,e1,r1,h.imp (fun v e2 h G2 v2 H2 r2 s2 p2=>?_) fun _ _ h=>XH.trans s1 h⟩
 unfold catK at h;split at h
 ·rename_i ys;split at h
  ·rename_i xs;split at h
   ·rename_i hl;obtain⟨l1,q1,rfl,t1,rp1⟩:=Rep.mono s2 _ p1;obtain⟨l2,q2,rfl,t2,rp2⟩:=p2;exact⟨l1,l2,q1,q2,rfl,rfl,r2.sub.seq t1,r2.sub.seq t2,by rw[rp1.length,rp2.length,sizeLine_eq];exact hl,q3v r2 (s1.trans s2) (rp1.append rp2) h⟩
   ·exact h.elim
  ·exact h.elim
 ·exact h.elim
theorem z1o{e:List S}:dCat da db e=(da e).bind fun u e1=>(db e1).bind fun v e2=>catK u e2 v:=rfl
theorem z1p{e:List S}{xs ys:List W}:catK (.lst xs) e (.lst ys)=if xs.length+ys.length<=16777216 then .ok (xs++ys) e else .no:=rfl
end
section
variable{X:Cx}{a b:Expr}{ta:TA}{p p2 pos pos2:Pos}
def okR2(i j:Int):Prop:=(-(2^62)<=i/\i<2^62)/\(-(2^62)<=j/\j<2^62)/\(j-i).toNat<=16777216
instance {i j:Int}:Decidable (okR2 i j):=inferInstanceAs (Decidable (_/\_))
def tLR2(ta:TA):TE:=fun σ H Q=>ta σ H fun vs H1=>∃i j:Int,vs=[.int i,.int j]/\okR2 i j/\∀l,H1 l=none->Q (.ref l) (upd H1 l (.lst ((List.range (j-i).toNat).map fun(k:Nat)=>V.int (i+(k:Int)))))
theorem x80(hc:X.calm=true)(hgl:Gl X "list")(hml:X.mg "list"=none)(hg:Gl X "range")(hm:X.mg "range"=none)(ha:PA X [a,b] ta)(hs:starEach [a,b] X.env=[(false,eval a X.env),(false,eval b X.env)]:=by rfl)(hs2:starEach [b] X.env=[(false,eval b X.env)]:=by rfl)
  (he:starEach [.Call (.Name "range" p2) [a,b] [] pos2] X.env=[(false,eval (.Call (.Name "range" p2) [a,b] [] pos2) X.env)]:=by rfl):PE X (.Call (.Name "list" p) [.Call (.Name "range" p2) [a,b] [] pos2] [] pos) (tLR2 ta):=by
 intro pins s σ H Q I h;refine wpAny_Call_Name_kw (q43 I hgl hml PyProof.Rows.Boot.«list» ?_ (by decide) (by decide));refine PyProof.Rows.callWith_type1 ?_ (by rw[he];rfl) rfl;rw[he];show wpAny _ _ (spliced ((false,eval (.Call (.Name "range" p2) [a,b] [] pos2) X.env)::[])) _ _ s;refine Calls.spliced_cons ?_;refine Call_ (q43 I hg hm boot_range (PyProof.Rows.callWith_type1 (thn (ha pos2 pins s σ H _ I h) fun us s1 ⟨vs,H1,I1,r1,q1⟩=>?_) (by rw[hs,hs2]) (by rw[hs2];rfl)))
 obtain⟨i,j,e,⟨⟨z1,z2⟩,⟨z3,z4⟩,z5⟩,q⟩:=q1;subst e;cases r1 with
 |cons r rr=>
  cases rr with
  |cons r' rr=>
   cases rr;obtain⟨t,rfl⟩:=r;obtain⟨t',rfl⟩:=r';refine call_range_2 (Calls.spliced_nil ?_);have I2:Inv X pins σ H1 {s1 with heap:=s1.heap.push {cls:=.type "range", data:=.fields #[.int i t,.int j t',.int 1 s1.toks]},toks:=s1.toks+1}:=I1.kept fun b o e=>Heap.get?_push_of_some _ e
   have hn:Builtin.Range.rangeSize i j 1=(((j-i).toNat:Nat):Int):=by rw[rangeSize_one];split<;>omega
   refine call_list_range (I.ok.hd hc) (IsRange.new ..) (small_one z1 z2 z3 z4) hn (by omega) fun h' tk acc' c' hk hS' hacc=>?_
   refine⟨.ref _,_,I2.laid (t':=tk) hk (w0j _) (show ObjOk X.prog X.w _ h' _ (.lst ((List.range (j-i).toNat).map fun(k:Nat)=>V.int (i+(k:Int))))from⟨by simp[sizeLine];omega,acc'.toList,c',x4s (by simp[hacc.1]) (fun m h1 h2=>?_),by simpa using hS'⟩),rfl,q _ (I2.hok.fresh (w0j _))⟩
   have h2':m<acc'.size:=by simpa using h2
   obtain⟨t2,e2⟩:=hacc.2 m acc'[m] (by simp[h2']);have e3:acc'.toList[m]=.int (i+(m:Int)*1) t2:=by simpa using e2
   rw[e3];simp only[List.getElem_map,w4l];exact⟨t2,by simp⟩
end
section
variable{X:Cx}{Z:Zt}{EE:L2.St->XK}{e f:Expr}{dA:Den (List W)}{p p2 pos pos2:Pos}
def listR2:List W->Option (List W)
 |[.int i,.int j]=>if okR2 i j then some ((List.range (j-i).toNat).map fun(k:Nat)=>W.int (i+(k:Int)))else none
 |_=>none
def dListR2(dA:Den (List W)):Den (List W):=fun e=>(dA e).bind fun ws e1=>ofOpt (listR2 ws) e1
theorem q9e{K:Fg}{G:Hp}(i:Int):∀ks:List Nat,Reps K G (ks.map fun(k:Nat)=>W.int (i+(k:Int))) (ks.map fun(k:Nat)=>V.int (i+(k:Int)))
 |[]=>rfl
 |k::ks=>⟨_,_,rfl,rfl,q9e i ks⟩
theorem x81(hc:X.calm=true)(hml:X.mg "list"=none)(hm:X.mg "range"=none)(ha:DA Z X EE [e,f] dA)(hgl:Gl X "list":=by rfl)(hg:Gl X "range":=by rfl)(hs:starEach [e,f] X.env=[(false,eval e X.env),(false,eval f X.env)]:=by rfl)(hs2:starEach [f] X.env=[(false,eval f X.env)]:=by rfl)
  (he:starEach [.Call (.Name "range" p2) [e,f] [] pos2] X.env=[(false,eval (.Call (.Name "range" p2) [e,f] [] pos2) X.env)]:=by rfl):DF Z X EE (.Call (.Name "list" p) [.Call (.Name "range" p2) [e,f] [] pos2] [] pos) (dListR2 dA):=by
 refine PE.mono (x80 hc hgl hml hg hm ha hs hs2 he) ?_;rintro σ H Q ⟨G,e,rel,h⟩;simp only[dListR2,R.holds_bind,ofOpt_holds]at h;refine⟨G,e,rel,h.imp (fun ws e1 h G1 vs H1 r1 s1 p1=>?_) fun _ _ h=>h⟩
 obtain⟨out,hf,h⟩:=h;unfold listR2 at hf;split at hf
 ·rename_i i j;split at hf
  ·rename_i hj;cases hf;obtain⟨y,r,rfl,py,y2,r2,rfl,py2,pr⟩:=p1;cases(show r2=[]from pr);cases(show y=V.int i from py);cases(show y2=V.int j from py2);exact⟨i,j,rfl,hj,q3v r1 s1 (q9e i _) h⟩
  ·cases hf
 ·cases hf
end
variable{X:Cx}{dA:Den (List W)}{EE:L2.St->XK}{e:List S}{p pos:Pos}{x:Str}{Z:Zt}
theorem x1b:dListR2 dA e=(dA e).bind fun ws e1=>ofOpt (listR2 ws) e1:=rfl
theorem y2v{i j:Int}(h:okR2 i j):listR2 [.int i,.int j]=some ((List.range (j-i).toNat).map fun(k:Nat)=>W.int (i+(k:Int))):=if_pos h
section
variable{ev:Expr}{spos tpos:Pos}
def dPutTE(i:Nat)(dv:Den W)(j k:Nat):List S->SR:=fun e=>(dv e).stm fun w e1=>putTNK i e1 e1[i]? (some (.fr w)) e1[j]? e1[k]?
theorem y2w(i j k:Nat){xj xk:Str}{pj pk px:Pos}{kk kp}{dv:Den W}(hz:Z.H=X.H₀)(he:DE Z X EE ev dv)(hN:X.N[i]?=some x:=by rfl)(hv:Vis X.env.scope x:=by walk_at "1")(hd:(x==("__debug__":Str))=false:=by decide)(hcd:(x==("__classdict__":Str))=false:=by decide)
  (hNj:X.N[j]?=some xj:=by rfl)(hvj:Vis X.env.scope xj:=by walk_at "1")(hdj:(xj==("__debug__":Str))=false:=by decide)(hcdj:(xj==("__classdict__":Str))=false:=by decide)
  (hNk:X.N[k]?=some xk:=by rfl)(hvk:Vis X.env.scope xk:=by walk_at "1")(hdk:(xk==("__debug__":Str))=false:=by decide)(hcdk:(xk==("__classdict__":Str))=false:=by decide)
  (hs:PlainIx (.Constant (.int ((2:Nat):Int)) kk kp):=by intro _ _;rfl)(hsj:PlainIx (.Name xj pj):=by intro _ _;rfl)
  (ha:∀v,assign (.Subscript (.Subscript (.Subscript (.Name x px) (.Constant (.int ((2:Nat):Int)) kk kp) p) (.Name xj pj) spos) (.Name xk pk) tpos) X.env v=(do
   let ov <- holding [v] (eval (.Subscript (.Subscript (.Name x px) (.Constant (.int ((2:Nat):Int)) kk kp) p) (.Name xj pj) spos) X.env)
   let iv <- holding [v,ov] (eval (.Name xk pk) X.env)
   standAt tpos
   holding [v,ov,iv] (setItem ov iv v)
   release [v,ov,iv] []):=by intro _;rfl)
  (hs1:swapsWithSole [.Subscript (.Subscript (.Subscript (.Name x px) (.Constant (.int ((2:Nat):Int)) kk kp) p) (.Name xj pj) spos) (.Name xk pk) tpos] ev pos.line X.env=pure false:=by rfl)(hw:swappedStores [.Subscript (.Subscript (.Subscript (.Name x px) (.Constant (.int ((2:Nat):Int)) kk kp) p) (.Name xj pj) spos) (.Name xk pk) tpos] ev X.env=pure none:=by rfl)
  (h1:(assignEach [.Subscript (.Subscript (.Subscript (.Name x px) (.Constant (.int ((2:Nat):Int)) kk kp) p) (.Name xj pj) spos) (.Name xk pk) tpos] X.env).map (·.2)=[assign (.Subscript (.Subscript (.Subscript (.Name x px) (.Constant (.int ((2:Nat):Int)) kk kp) p) (.Name xj pj) spos) (.Name xk pk) tpos) X.env]:=by rfl):
  DS Z X EE (.Assign [.Subscript (.Subscript (.Subscript (.Name x px) (.Constant (.int ((2:Nat):Int)) kk kp) p) (.Name xj pj) spos) (.Name xk pk) tpos] ev pos) (dPutTE i dv j k):=by
 refine PS.mono (x13 he (x6l (q8z ix_list (q8z ix_tup (pv i hN hv hd hcd) q8x hs) (pv j hNj hvj hdj hcdj) hsj) (pv k hNk hvk hdk hcdk) y1o ha) hs1 hw h1) ?_;rintro D σ H0 ⟨G0,e0,rel0,h⟩;refine⟨G0,e0,rel0,(q0r h).imp (fun w e h G vc H rel s1 pc'=>?_) fun _ _ h=>h⟩
 unfold putTNK at h;split at h
 ·rename_i us wss w n1 n2 hei hec hej hek;cases hec;split at h
  ·rename_i j2 ws' hj2 hf2;split at h
   ·rename_i hc;obtain⟨hul,hT⟩:=hc;obtain⟨t,l,o,ls,xs,k1,k2,k3,⟨k4,k5⟩,k6,k7⟩:=rel.slot i _ hei;have hvi:=rel.at hei fun _=>k1
    obtain⟨vj,q2,pj'⟩:=rel.fr hej;obtain⟨vk,q3,pk'⟩:=rel.fr hek;cases pj';cases pk';obtain⟨ws2,hws2,hf3⟩:=w1l.mp hf2;obtain⟨j3,lp,o2,ys2,t0,t1,t2,t3,t4⟩:=k7.atI hws2;rw[hj2]at t0;cases t0;obtain⟨j4,hj4,rfl⟩:=w0d.mp hf3;have hxl:xs.length=2:=by rw[<- hul];exact k6.length
    have hat:atI (xs++[V.ref l]) ((2:Nat):Int)=some (.ref l):=by
     refine q14 ?_;rw[w1e (by omega),hxl];rfl
    have hne:l≠lp:=fun z=>k5 (by rw[z];exact w0m t1)
    refine⟨.ref t,hvi,t,xs++[V.ref l],((2:Nat):Int),.ref l,rfl,rfl,SqT.of (rel.sub _ _ k2),hat,.int n1,q2,l,ls.map V.ref,n1,.ref lp,rfl,rfl,.inl (.inr ⟨o,k3.1⟩),t2,.int n2,q3,lp,o2,ys2,rfl,t3.1,fun _ _ z=>(by rw[<- hz,t3.2.2]at z;cases z),lp,ys2,n2,j4,rfl,rfl,q0f,by rw[t4.length];exact hj4,?_⟩
    rw[show ∀u,upd (upd H lp (.lst ys2)) lp u=upd H lp u from fun u=>by funext c;unfold upd;split<;>rfl]
    obtain⟨G',sg,r'⟩:=rel.tnThr (H':=upd H lp (.lst (ys2.set j4 vc))) hvi k2 k3 k5 k6 k7 (allT hT) (fun c hc=>q0b fun z=>hc (by rw[z];exact w0m t1)) (k7.lsSet (t4.set j4 pc') k4 t1)
    exact h G' σ _ r' (s1.trans sg)
   ·exact h.elim
  ·exact h.elim
 ·exact h.elim
end
theorem y2x{i j k:Nat}{dv:Den W}:dPutTE i dv j k e=(dv e).stm fun w e1=>putTNK i e1 e1[i]? (some (.fr w)) e1[j]? e1[k]?:=rfl
end D
namespace Q
open PySem L2 D
variable{ts:List (Option Int)}{T ks l ord:List Nat}{ws:List W}{I J L L' b i j n r x y:Nat}{P:Nat->Nat->Prop}{K:Fg}{mg:Str->Option Value}{α:Type}
seal DN DNA DSsW DX DE DF DT DW DA DS DSs DTs DO DFm PE PT PW PA PS PSs PG PGs PI PF PTs PC OpR UnR IxR CallR TruR MtR MtM SlR PO
theorem us1{P:List α->Prop}(h:∀x0,P [x0]):∀us:List α,us.length=1->P us
 |[x0],_=>h x0
theorem us2{P:List α->Prop}(h:∀x0 x1,P [x0,x1]):∀us:List α,us.length=2->P us
 |[x0,x1],_=>h x0 x1
theorem us3{P:List α->Prop}(h:∀x0 x1 x2,P [x0,x1,x2]):∀us:List α,us.length=3->P us
 |[x0,x1,x2],_=>h x0 x1 x2
theorem us4{P:List α->Prop}(h:∀x0 x1 x2 x3,P [x0,x1,x2,x3]):∀us:List α,us.length=4->P us
 |[x0,x1,x2,x3],_=>h x0 x1 x2 x3
def top(i:Nat):Stmt:=PySem.Challenge.pw_circuits_k56_whole_one_value.main.body.getD i (.Pass ⟨0,0,0,0⟩)
structure Blt(mg:Str->Option Value):Prop where
 b_all:mg "all"=none
 b_int:mg "int"=none
 b_len:mg "len"=none
 b_list:mg "list"=none
 b_max:mg "max"=none
 b_min:mg "min"=none
 b_range:mg "range"=none
 b_repr:mg "repr"=none
 b_tuple:mg "tuple"=none
 b_zip:mg "zip"=none
structure Adr where
 CircuitError:Addr
 NoMachine:Addr
variable{a:Adr}
structure Exs(K:Fg)(mg:Str->Option Value)(a:Adr):Prop where
 z:True
 m_CircuitError:mg "CircuitError"=some (.ref a.CircuitError)
 m_NoMachine:mg "NoMachine"=some (.ref a.NoMachine)
 nt:NoTup K
noncomputable abbrev q3k:Nat:=0
noncomputable abbrev q1c:Nat:=1
noncomputable abbrev q2n:Nat:=2
noncomputable abbrev q33:Nat:=3
noncomputable abbrev q1q:Nat:=4
noncomputable abbrev q17:Nat:=5
noncomputable abbrev q1t:Nat:=6
noncomputable abbrev q2a:Nat:=7
noncomputable abbrev q0w:Nat:=8
noncomputable abbrev q44:Nat:=9
noncomputable abbrev q0t:Nat:=10
noncomputable abbrev q1d:Nat:=11
noncomputable abbrev q38:Nat:=12
noncomputable abbrev q2e:Nat:=13
noncomputable abbrev q1u:Nat:=14
noncomputable abbrev q3l:Nat:=15
noncomputable abbrev q1v:Nat:=16
noncomputable abbrev q2f:Nat:=17
noncomputable abbrev q1z:Nat:=18
noncomputable abbrev q7x:Nat:=19
noncomputable abbrev q2c:Stmt:=top 4
theorem sc_rows_many:FnScope ["many", "count", "place"] ["many"] (defScope q2c):=⟨rfl,rfl,rfl,by decide +kernel,rfl,by decide +kernel,by decide +kernel⟩
noncomputable abbrev q1e:Stmt:=top 6
theorem sc_check_machine:FnScope ["machine", "states", "pairs_many", "state", "told", "follower"] ["machine"] (defScope q1e):=⟨rfl,rfl,rfl,by decide +kernel,rfl,by decide +kernel,by decide +kernel⟩
noncomputable abbrev q2o:Stmt:=top 7
theorem x35:FnScope ["machine", "number"] ["machine", "number"] (defScope q2o):=⟨rfl,rfl,rfl,by decide +kernel,rfl,by decide +kernel,by decide +kernel⟩
noncomputable abbrev q25:Stmt:=top 8
theorem sc_come_to:FnScope ["begin", "pairs_of", "things", "numbers", "states", "thing", "state", "told", "follower"] ["begin", "pairs_of"] (defScope q25):=⟨rfl,rfl,rfl,by decide +kernel,rfl,by decide +kernel,by decide +kernel⟩
noncomputable abbrev q02:Stmt:=top 10
theorem sc_kinds_by_length:FnScope ["states", "levels", "finer"] ["states"] (defScope q02):=⟨rfl,rfl,rfl,by decide +kernel,rfl,by decide +kernel,by decide +kernel⟩
noncomputable abbrev q1h:Stmt:=top 11
theorem sc_finer_kinds:FnScope ["states", "kinds", "numbers", "finer", "state", "seen"] ["states", "kinds"] (defScope q1h):=⟨rfl,rfl,rfl,by decide +kernel,rfl,by decide +kernel,by decide +kernel⟩
noncomputable abbrev q2g:Stmt:=top 13
theorem sc_small:FnScope ["machine", "states", "kinds", "found", "numbers", "number"] ["machine"] (defScope q2g):=⟨rfl,rfl,rfl,by decide +kernel,rfl,by decide +kernel,by decide +kernel⟩
noncomputable abbrev q03:Stmt:=top 14
theorem q8n:FnScope ["states", "kinds", "kind"] ["states", "kinds", "kind"] (defScope q03):=⟨rfl,rfl,rfl,by decide +kernel,rfl,by decide +kernel,by decide +kernel⟩
noncomputable abbrev q04:Stmt:=top 15
theorem x0b:FnScope ["machine", "other", "numbers"] ["machine", "other", "numbers"] (defScope q04):=⟨rfl,rfl,rfl,by decide +kernel,rfl,by decide +kernel,by decide +kernel⟩
noncomputable abbrev q26:Stmt:=top 16
theorem sc_goes_as:FnScope ["state", "other", "numbers", "number", "pair", "wanted"] ["state", "other", "numbers", "number"] (defScope q26):=⟨rfl,rfl,rfl,by decide +kernel,rfl,by decide +kernel,by decide +kernel⟩
noncomputable abbrev q1i:Stmt:=top 18
theorem q9f:FnScope ["_law_script", "_law_k"] ["_law_script", "_law_k"] (defScope q1i):=⟨rfl,rfl,rfl,by decide +kernel,rfl,by decide +kernel,by decide +kernel⟩
noncomputable abbrev q10:Stmt:=top 19
theorem sc__law_mixed:FnScope ["_law_cell", "_law_k", "_law_number"] ["_law_cell", "_law_k"] (defScope q10):=⟨rfl,rfl,rfl,by decide +kernel,rfl,by decide +kernel,by decide +kernel⟩
noncomputable abbrev q2p:Stmt:=top 20
theorem sc__law_row:FnScope ["_law_number", "_law_many", "_law_row_here", "_law_step"] ["_law_number", "_law_many"] (defScope q2p):=⟨rfl,rfl,rfl,by decide +kernel,rfl,by decide +kernel,by decide +kernel⟩
noncomputable abbrev q1j:Stmt:=top 21
theorem q9g:FnScope ["_law_many"] ["_law_many"] (defScope q1j):=⟨rfl,rfl,rfl,by decide +kernel,rfl,by decide +kernel,by decide +kernel⟩
noncomputable abbrev q1k:Stmt:=top 22
theorem sc__law_machine:FnScope ["_law_script", "_law_at", "_law_cell", "_law_kinds", "_law_many", "_law_wide", "_law_size", "_law_base", "_law_states", "_law_k", "_law_state", "_law_number", "_law_left", "_law_told", "_law_goal", "_law_twin"] ["_law_script", "_law_at"] (defScope q1k):=⟨rfl,rfl,rfl,by decide +kernel,rfl,by decide +kernel,by decide +kernel⟩
noncomputable abbrev q1s:Stmt:=top 23
theorem x25:FnScope ["_law_machine_here"] ["_law_machine_here"] (defScope q1s):=⟨rfl,rfl,rfl,by decide +kernel,rfl,by decide +kernel,by decide +kernel⟩
noncomputable abbrev q1l:Stmt:=top 24
theorem sc__law_come_to:FnScope ["_law_states", "_law_found", "_law_at", "_law_pair"] ["_law_states"] (defScope q1l):=⟨rfl,rfl,rfl,by decide +kernel,rfl,by decide +kernel,by decide +kernel⟩
noncomputable abbrev q1f:Stmt:=top 25
theorem sc__law_twins:FnScope ["_law_script", "_law_machine_here", "_law_size", "_law_cell", "_law_stands", "_law_order", "_law_states", "_law_k", "_law_state", "_law_pair", "_law_there"] ["_law_script", "_law_machine_here"] (defScope q1f):=⟨rfl,rfl,rfl,by decide +kernel,rfl,by decide +kernel,by decide +kernel⟩
noncomputable abbrev q11:Stmt:=top 26
theorem sc__law_other:FnScope ["_law_machine_here", "_law_there", "_law_cell", "_law_other_here", "_law_at", "_law_number", "_law_pair", "_law_place", "_law_told"] ["_law_machine_here", "_law_there", "_law_cell"] (defScope q11):=⟨rfl,rfl,rfl,by decide +kernel,rfl,by decide +kernel,by decide +kernel⟩
noncomputable abbrev q3o:Stmt:=top 27
theorem sc_law:FnScope ["_law_script", "_law_machine_here", "_law_twin", "_law_order", "_law_least", "_law_numbers", "_law_found", "_law_others", "_law_k", "_law_size", "_law_padded", "_law_again", "_law_other_here"] ["_law_script"] (defScope q3o):=⟨rfl,rfl,rfl,by decide +kernel,rfl,by decide +kernel,by decide +kernel⟩
noncomputable abbrev q7h:Expr:=(argAt 1 (stVal (stAt 3 q2g)))
noncomputable abbrev q34:Lm:=⟨("small"++".<locals>.")++"<lambda>", lamParams q7h,lamBody q7h,lamScope q7h,["states", "kinds"]⟩
noncomputable abbrev q3p:Nat:=20
noncomputable abbrev q7i:Expr:=(argAt 1 (subVal (stVal (stAt 5 q2g))))
noncomputable abbrev q35:Lm:=⟨("small"++".<locals>.")++"<lambda>", lamParams q7i,lamBody q7i,lamScope q7i,["states"]⟩
noncomputable abbrev q3q:Nat:=21
def lams:Nat->Option Lm
 |20=>some q34
 |21=>some q35
 |_=>none
theorem x26:lams 20=some q34:=rfl
theorem x27:lams 21=some q35:=rfl
def q3r(K:Fg)(a:Adr)(r:Nat->List W->FR):Den W:=
 (dCall (r q2a) (dCons (dVar 1) (dCons (dVar 2) (dCons (dVar 0) dNil))))
def q3s(K:Fg)(a:Adr)(r:Nat->List W->FR):Den W:=
 (dOp ixW (dVar 1) (dVar 0))
def q48(K:Fg)(a:Adr)(r:Nat->List W->FR):List S->SR:=
 (dSet 1 (dOp mulW (dC (.int 2)) (dVar 1)))
def q4y(K:Fg)(a:Adr)(r:Nat->List W->FR):List S->SR:=
 (dSeq (dSet 1 (dC (.int 1)))
  (dSeq (dForR 2 rng1 (dCons (dVar 0) dNil)
  (q48 K a r))
  (dRet (dVar 1))))
def q3f(K:Fg)(a:Adr)(r:Nat->List W->FR):List S->SR:=
 (dSeq (dIfS (dTest (dOp ne2 (dFn len1 (dCons (dVar 4) dNil)) (dOp ixW (dVar 0) (dC (.int 1)))))
  dNo
  dNx)
  (dIfS (dNot (dTru (dCall (r q2n) (dCons (dVar 0) (dCons (dVar 5) dNil)))))
  dNo
  dNx))
def q3g(K:Fg)(a:Adr)(r:Nat->List W->FR):List S->SR:=
 (dSeq (dIfS (dTest (dOp ne2 (dFn len1 (dCons (dVar 3) dNil)) (dVar 2)))
  dNo
  dNx)
  (dForP 4 5 (srcP (dVar 3))
  (q3f K a r)))
def q20(K:Fg)(a:Adr)(r:Nat->List W->FR):List S->SR:=
 (dSeq (dSet 1 (dOp ixW (dVar 0) (dC (.int 2))))
  (dSeq (dSet 2 (dCall (r q3k) (dCons (dOp ixW (dVar 0) (dC (.int 0))) dNil)))
  (dSeq (dIfS (dTest (dOp eq2 (dFn len1 (dCons (dVar 1) dNil)) (dC (.int 0))))
  dNo
  dNx)
  (dFor 3 (dVar 1)
  (q3g K a r)))))
def q39(K:Fg)(a:Adr)(r:Nat->List W->FR):List S->SR:=
 (dRet (dAndV (dOp leW (dC (.int 0)) (dVar 1)) (dOp ltW (dVar 1) (dFn len1 (dCons (dOp ixW (dVar 0) (dC (.int 2))) dNil)))))
def q2w(K:Fg)(a:Adr)(r:Nat->List W->FR):List S->SR:=
 (dSeq (dIfS (dBorrowT (dTest (dOp ninD (dVar 8) (dVar 3))))
  (dSeq (dPutD 3 (dFnV 2 len1) (dVar 8))
  (dApp 2 (dCons (dVar 8) dNil)))
  dNx)
  (dApp 6 (dCons (dTup (dCons (dVar 7) (dCons (dBorrow (dOp ixD (dVar 3) (dVar 8))) dNil))) dNil)))
def q4z(K:Fg)(a:Adr)(r:Nat->List W->FR):Den Bool:=
 (dTest (dOp ltW (dFnV 4 len1) (dFnV 2 len1)))
def q40(K:Fg)(a:Adr)(r:Nat->List W->FR):List S->SR:=
 (dSeq (dSet 5 (dIxV 2 (dFnV 4 len1)))
  (dSeq (dSetO 6 (dLst dNil))
  (dSeq (dForP 7 8 (srcP (dCallV lams r 1 (dCons (dVar 5) dNil)))
  (q2w K a r))
  (dAppN 4 6))))
def q50(K:Fg)(a:Adr)(r:Nat->List W->FR):List S->SR:=
 (dSeq (dSetO 2 (dLst (dCons (dVar 0) dNil)))
  (dSeq (dSetD1 3 0 (.inl 0))
  (dSeq (dAcc0 4 (dLst dNil))
  (dSeq (whileD (q4z K a r)
  (q40 K a r) 1000000)
  (dRetNw (dTup (dCons (dNAcc 4) (dCons (dNOwn 2) dNil))))))))
def q13(K:Fg)(a:Adr)(r:Nat->List W->FR):Den Bool:=
 (dTest (dOp gtW (dFn max1 (dCons (dVar 2) dNil)) (dFn max1 (dCons (dIxV 1 (dUn negW (dC (.int 1)))) dNil))))
def q2y(K:Fg)(a:Adr)(r:Nat->List W->FR):List S->SR:=
 (dSeq (dApp 1 (dCons (dVar 2) dNil))
  (dSet 2 (dCall (r q17) (dCons (dVar 0) (dCons (dVar 2) dNil)))))
def q2d(K:Fg)(a:Adr)(r:Nat->List W->FR):List S->SR:=
 (dSeq (dSetO 1 (dLst (dCons (dOp repW (dFz (dLst (dCons (dC (.int 0)) dNil))) (dFn len1 (dCons (dVar 0) dNil))) dNil)))
  (dSeq (dSet 2 (dCall (r q17) (dCons (dVar 0) (dCons (dIxV 1 (dUn negW (dC (.int 1)))) dNil))))
  (dSeq (whileD (q13 K a r)
  (q2y K a r) 1000000)
  (dRetO 1))))
def q51(K:Fg)(a:Adr)(r:Nat->List W->FR):Den W:=
 (dTup (dCons (dVar 0) (dCons (dOp ixW (dVar 2) (dVar 1)) dNil)))
def q21(K:Fg)(a:Adr)(r:Nat->List W->FR):List S->SR:=
 (dSeq (dSet 5 (dFn tup1 (dCons (dFz (dCompP [1] (srcP (dVar 4)) dYes (q51 K a r))) dNil)))
  (dSeq (dIfS (dBorrowT (dTest (dOp ninT (dVar 5) (dVar 2))))
  (dPutW 2 (dBorrow (dFn lenT1 (dCons (dVar 2) dNil))) (dVar 5))
  dNx)
  (dApp 3 (dCons (dBorrow (dOp ixT (dVar 2) (dVar 5))) dNil))))
def q3t(K:Fg)(a:Adr)(r:Nat->List W->FR):List S->SR:=
 (dSeq (dSetW 2 (.many (.tup [.many .bl,.int])))
  (dSeq (dSetO 3 (dLst dNil))
  (dSeq (dFor 4 (dVar 0)
  (q21 K a r))
  (dRetO 3))))
def q36(K:Fg)(a:Adr)(r:Nat->List W->FR):List S->SR:=
 (dPut 4 (dMeth "list" indexI (dOp ixW (dVar 3) (dC (.int 1))) (dCons (dOp ixW (dVar 2) (dVar 5)) dNil)) (dVar 5))
def q7y(K:Fg)(a:Adr)(r:Nat->List W->FR):List S->SR:=
 (dSeq (dDrop (dCall (r q1c) (dCons (dVar 0) dNil)))
  (dSeq (dSet 1 (dOp ixW (dVar 0) (dC (.int 2))))
  (dSeq (dSet 2 (dOp ixW (dCall (r q1q) (dCons (dVar 1) dNil)) (dUn negW (dC (.int 1)))))
  (dSeq (dSetNw 3 (dLamN (r q33) 20 q34 [1,2] (dOp ixW (dVar 2) (dC (.int 0)))))
  (dSeq (dSetO 4 (dRepF (dFz (dLst (dCons (dC .non) dNil))) (dFn len1 (dCons (dVar 1) dNil))))
  (dSeq (dFor 5 (dOp ixW (dLamN (r q33) 21 q35 [1] (dC (.int 0))) (dC (.int 1)))
  (q36 K a r))
  (dRetNw (dTup (dCons (dTup (dCons (dFlat (dOp ixW (dVar 0) (dC (.int 0)))) (dCons (dFlat (dOp ixW (dVar 0) (dC (.int 1)))) (dCons (dNIx 3 0) dNil)))) (dCons (dNOwn 4) dNil))))))))))
def q5b(K:Fg)(a:Adr)(r:Nat->List W->FR):Den W:=
 (dTup (dCons (dVar 0) (dCons (dOp ixW (dVar 2) (dVar 1)) dNil)))
def q22(K:Fg)(a:Adr)(r:Nat->List W->FR):List S->SR:=
 (dRetF (dCompP [1] (srcP (dOp ixW (dVar 0) (dMeth "list" indexI (dVar 1) (dCons (dVar 2) dNil)))) dYes (q5b K a r)))
def q4a(K:Fg)(a:Adr)(r:Nat->List W->FR):Den W:=
 (dCall (r q44) (dCons (dVar 0) (dCons (dVar 2) (dCons (dVar 3) (dCons (dVar 1) dNil)))))
def q4b(K:Fg)(a:Adr)(r:Nat->List W->FR):Den W:=
 (dOrV (dOp isW (dVar 0) (dC .non)) (dCall (r q2n) (dCons (dVar 1) (dCons (dVar 0) dNil))))
def q3u(K:Fg)(a:Adr)(r:Nat->List W->FR):List S->SR:=
 (dSeq (dDrop (dCall (r q1c) (dCons (dVar 0) dNil)))
  (dSeq (dDrop (dCall (r q1c) (dCons (dVar 1) dNil)))
  (dSeq (dIfS (dOr (dTest (dOp ne2 (dOp ixW (dVar 0) (dC (.int 0))) (dOp ixW (dVar 1) (dC (.int 0))))) (dOr (dTest (dOp ne2 (dOp ixW (dVar 0) (dC (.int 1))) (dOp ixW (dVar 1) (dC (.int 1))))) (dTest (dOp ne2 (dFn len1 (dCons (dVar 2) dNil)) (dFn len1 (dCons (dOp ixW (dVar 0) (dC (.int 2))) dNil))))))
  (dRet (dC (.bl false)))
  dNx)
  (dSeq (dIfS (dNot (dTru (dFn all1 (dCons (dFz (dComp [1] (dVar 2) dYes (q4b K a r))) dNil))))
  (dRet (dC (.bl false)))
  dNx)
  (dSeq (dIfS (dTest (dOp ne2 (dOp ixW (dVar 2) (dC (.int 0))) (dC (.int 0))))
  (dRet (dC (.bl false)))
  dNx)
  (dRet (dFn all1 (dCons (dFz (dCompP [1,2] (srcZ (dCons (dOp ixW (dVar 0) (dC (.int 2))) (dCons (dVar 2) dNil))) dYes (q4a K a r))) dNil))))))))
def q1o(K:Fg)(a:Adr)(r:Nat->List W->FR):List S->SR:=
 (dIfS (dOr (dTest (dOp ne2 (dOp ixW (dVar 4) (dC (.int 0))) (dOp ixW (dVar 5) (dC (.int 0))))) (dTest (dOp ne2 (dOp ixW (dVar 2) (dOp ixW (dVar 4) (dC (.int 1)))) (dOp ixW (dVar 5) (dC (.int 1))))))
  (dRet (dC (.bl false)))
  dNx)
def q52(K:Fg)(a:Adr)(r:Nat->List W->FR):List S->SR:=
 (dSeq (dIfS (dTest (dOp isW (dVar 3) (dC .non)))
  (dRet (dC (.bl true)))
  dNx)
  (dSeq (dForP 4 5 (srcZ (dCons (dVar 0) (dCons (dOp ixW (dOp ixW (dVar 1) (dC (.int 2))) (dVar 3)) dNil)))
  (q1o K a r))
  (dRet (dC (.bl true)))))
def q3a(K:Fg)(a:Adr)(r:Nat->List W->FR):List S->SR:=
 (dSeq (dIfS (dTest (dOp ltW (dVar 1) (dFn len1 (dCons (dVar 0) dNil))))
  (dRet (dOp ixW (dVar 0) (dVar 1)))
  dNx)
  (dRet (dC (.int 0))))
def q4c(K:Fg)(a:Adr)(r:Nat->List W->FR):List S->SR:=
 (dSeq (dSet 2 (dOp modW (dOp mulW (dOp addX (dVar 0) (dOp mulW (dC (.int 7919)) (dVar 1))) (dC (.int 48271))) (dC (.int 2147483647))))
  (dRet (dOp modW (dOp addX (dOp addX (dOp mulW (dVar 2) (dVar 2)) (dOp mulW (dC (.int 7)) (dVar 2))) (dVar 1)) (dC (.int 2147483629)))))
def q5s(K:Fg)(a:Adr)(r:Nat->List W->FR):List S->SR:=
 (dSeq (dApp 2 (dCons (dOp eq2 (dOp modW (dVar 0) (dC (.int 2))) (dC (.int 1))) dNil))
  (dSet 0 (dOp fdivW (dVar 0) (dC (.int 2)))))
def q5d(K:Fg)(a:Adr)(r:Nat->List W->FR):List S->SR:=
 (dSeq (dSetO 2 (dLst dNil))
  (dSeq (dForR 3 rng1 (dCons (dVar 1) dNil)
  (q5s K a r))
  (dSeq (dMut0 2 List.reverse)
  (dRet (dFn tup1 (dCons (dVar 2) dNil))))))
def q3b(K:Fg)(a:Adr)(r:Nat->List W->FR):List S->SR:=
 (dRet (dOp ixW (dFz (dLst (dCons (dC (.int 1)) (dCons (dC (.int 2)) (dCons (dC (.int 4)) (dCons (dC (.int 8)) dNil)))))) (dVar 0)))
def pair44(K:Fg)(a:Adr)(r:Nat->List W->FR):List S->SR:=
 (dSeq (dSet 15 (dOp modW (dCall (r q1d) (dCons (dOp addX (dVar 3) (dVar 9)) (dCons (dVar 11) dNil))) (dOp addX (dOp fdivW (dOp subW (dOp subW (dVar 6) (dC (.int 1))) (dVar 14)) (dVar 7)) (dC (.int 1)))))
  (dApp 10 (dCons (dTup (dCons (dFn tup1 (dCons (dVar 13) dNil)) (dCons (dOp addX (dVar 14) (dOp mulW (dVar 7) (dVar 15))) dNil))) dNil)))
def goal44(K:Fg)(a:Adr)(r:Nat->List W->FR):List S->SR:=
 (dSeq (dSet 14 (dOp modW (dOp fdivW (dVar 12) (dC (.int 64))) (dVar 7)))
  (dSeq (dIfS (dTest (dOp eq2 (dOp modW (dVar 3) (dC (.int 3))) (dC (.int 1))))
  (dSeq (dSet 13 (dOp repW (dFz (dLst (dCons (dOp eq2 (dOp modW (dVar 9) (dVar 7)) (dOp subW (dVar 7) (dC (.int 1)))) dNil))) (dVar 5)))
  (dSet 14 (dOp ixW (dFz (dLst (dCons (dFn min2 (dCons (dOp addX (dOp modW (dVar 9) (dVar 7)) (dC (.int 1))) (dCons (dOp subW (dVar 7) (dC (.int 1))) dNil))) (dCons (dC (.int 0)) dNil)))) (dFn min2 (dCons (dVar 11) (dCons (dC (.int 1)) dNil))))))
  dNx)
  (pair44 K a r)))
def q2q(K:Fg)(a:Adr)(r:Nat->List W->FR):List S->SR:=
 (dSeq (dSet 12 (dCall (r q1d) (dCons (dCall (r q0t) (dCons (dVar 0) (dCons (dOp addX (dOp addX (dVar 1) (dC (.int 2))) (dOp modW (dOp modW (dVar 9) (dVar 7)) (dC (.int 6)))) dNil))) (dCons (dOp addX (dOp mulW (dC (.int 8)) (dOp modW (dVar 9) (dVar 7))) (dVar 11)) dNil))))
  (dSeq (dSet 13 (dOp repW (dFz (dLst (dCons (dC (.bl false)) dNil))) (dVar 5)))
  (dSeq (dIfS (dTest (dOp eq2 (dOp modW (dVar 12) (dC (.int 4))) (dC (.int 0))))
  (dSet 13 (dFz (dList (dCons (dCall (r q38) (dCons (dOp fdivW (dVar 12) (dC (.int 4))) (dCons (dVar 5) dNil))) dNil))))
  dNx)
  (goal44 K a r))))
def q2r(K:Fg)(a:Adr)(r:Nat->List W->FR):List S->SR:=
 (dSeq (dSetO 10 (dLst dNil))
  (dSeq (dForR 11 rng1 (dCons (dCall (r q2e) (dCons (dVar 4) dNil)) dNil)
  (q2q K a r))
  (dApp 8 (dCons (dVar 10) dNil))))
def sts44(K:Fg)(a:Adr)(r:Nat->List W->FR):List S->SR:=
 (dSeq (dSet 7 (dOp subW (dVar 6) (dOp modW (dOp fdivW (dVar 3) (dC (.int 24))) (dVar 6))))
  (dSeq (dSetO 8 (dLst dNil))
  (dSeq (dForR 9 rng1 (dCons (dVar 6) dNil)
  (q2r K a r))
  (dRet (dTup (dCons (dVar 4) (dCons (dVar 5) (dCons (dVar 8) dNil))))))))
def sec44(K:Fg)(a:Adr)(r:Nat->List W->FR):List S->SR:=
 (dSeq (dIfS (dTest (dOp eq2 (dVar 6) (dC (.int 11))))
  (dSeq (dSet 6 (dOp addX (dC (.int 12)) (dOp modW (dOp fdivW (dVar 2) (dC (.int 44))) (dC (.int 9)))))
  (dSet 4 (dOp modW (dVar 4) (dC (.int 2)))))
  dNx)
  (sts44 K a r))
def q3c(K:Fg)(a:Adr)(r:Nat->List W->FR):List S->SR:=
 (dSeq (dSet 2 (dCall (r q0t) (dCons (dVar 0) (dCons (dVar 1) dNil))))
  (dSeq (dSet 3 (dCall (r q0t) (dCons (dVar 0) (dCons (dOp addX (dVar 1) (dC (.int 1))) dNil))))
  (dSeq (dSet 4 (dOp modW (dVar 2) (dC (.int 4))))
  (dSeq (dSet 5 (dOp ixW (dFz (dLst (dCons (dC (.int 1)) (dCons (dC (.int 2)) (dCons (dC (.int 1)) (dCons (dC (.int 0)) (dCons (dC (.int 3)) (dCons (dOp addX (dC (.int 4)) (dOp modW (dOp fdivW (dVar 3) (dC (.int 24))) (dC (.int 9)))) (dCons (dC (.int 2)) (dCons (dC (.int 1)) dNil)))))))))) (dOp modW (dOp fdivW (dVar 3) (dC (.int 3))) (dC (.int 8)))))
  (dSeq (dSet 6 (dOp addX (dC (.int 1)) (dOp modW (dOp fdivW (dVar 2) (dC (.int 4))) (dC (.int 11)))))
  (dSeq (dIfS (dOr (dTest (dOp eq2 (dVar 6) (dC (.int 9)))) (dTest (dOp eq2 (dVar 6) (dC (.int 10)))))
  (dSeq (dSet 6 (dOp addX (dC (.int 8)) (dOp modW (dOp fdivW (dVar 2) (dC (.int 44))) (dC (.int 5)))))
  (dSet 4 (dFn min2 (dCons (dVar 4) (dCons (dOp ixW (dFz (dLst (dCons (dC (.int 3)) (dCons (dC (.int 2)) dNil)))) (dFn int1 (dCons (dOp gtW (dVar 6) (dC (.int 9))) dNil))) dNil)))))
  dNx)
  (sec44 K a r)))))))
def q41(K:Fg)(a:Adr)(r:Nat->List W->FR):List S->SR:=
 (dRetTN (dOp ixW (dVar 0) (dC (.int 0))) (dOp ixW (dVar 0) (dC (.int 1))) (dNestC [] (dOp ixW (dVar 0) (dC (.int 2))) (dList (dCons (dVar 0) dNil))))
def q1m(K:Fg)(a:Adr)(r:Nat->List W->FR):List S->SR:=
 (dIfS (dBorrowT (dTest (dOp ninW (dOp ixW (dVar 3) (dC (.int 1))) (dVar 1))))
  (dApp 1 (dCons (dOp ixW (dVar 3) (dC (.int 1))) dNil))
  dNx)
def q2s(K:Fg)(a:Adr)(r:Nat->List W->FR):List S->SR:=
 (dIfS (dTest (dOp ltW (dVar 2) (dFnV 1 len1)))
  (dFor 3 (dOp ixW (dVar 0) (dIxV 1 (dVar 2)))
  (q1m K a r))
  dNx)
def q3d(K:Fg)(a:Adr)(r:Nat->List W->FR):List S->SR:=
 (dSeq (dSetO 1 (dLst (dCons (dC (.int 0)) dNil)))
  (dSeq (dForR 2 rng1 (dCons (dFn len1 (dCons (dVar 0) dNil)) dNil)
  (q2s K a r))
  (dRetO 1)))
def q4q(K:Fg)(a:Adr)(r:Nat->List W->FR):Den W:=
 (dVar 0)
def q4r(K:Fg)(a:Adr)(r:Nat->List W->FR):Den Bool:=
 (dTest (dOp eq2 (dOp ixW (dVar 1) (dVar 0)) (dOp ixW (dVar 2) (dC (.int 1)))))
def q09(K:Fg)(a:Adr)(r:Nat->List W->FR):List S->SR:=
 (dSeq (dSet 10 (dFz (dCompR rng1 [5,9] (dCons (dFnV 5 len1) dNil) (q4r K a r) (q4q K a r))))
  (dApp 8 (dCons (dTup (dCons (dOp ixW (dVar 9) (dC (.int 0))) (dCons (dOp ixW (dVar 10) (dOp modW (dCall (r q1d) (dCons (dOp addX (dVar 3) (dVar 7)) (dCons (dFnV 8 len1) dNil))) (dFn len1 (dCons (dVar 10) dNil)))) dNil))) dNil)))
def q3e(K:Fg)(a:Adr)(r:Nat->List W->FR):List S->SR:=
 (dSeq (dSetO 8 (dLst dNil))
  (dSeq (dFor 9 (dOp ixW (dOp ixW (dVar 1) (dC (.int 2))) (dIxV 5 (dVar 7)))
  (q09 K a r))
  (dApp 6 (dCons (dVar 8) dNil))))
def q1w(K:Fg)(a:Adr)(r:Nat->List W->FR):Den Bool:=
 (dBorrowT (dTest (dOp ne2 (dVar 4) (dFz (dLst dNil)))))
def q2h(K:Fg)(a:Adr)(r:Nat->List W->FR):List S->SR:=
 (dApp 5 (dCons (dPopAt 4 (dOp modW (dCall (r q1d) (dCons (dCall (r q0t) (dCons (dVar 0) (dCons (dC (.int 21)) dNil))) (dCons (dFnV 4 len1) dNil))) (dFnV 4 len1))) dNil))
def q2i(K:Fg)(a:Adr)(r:Nat->List W->FR):Den W:=
 (dOp modW (dCall (r q1d) (dCons (dVar 2) (dCons (dVar 0) dNil))) (dVar 1))
def twT(K:Fg)(a:Adr)(r:Nat->List W->FR):List S->SR:=
 (dSeq (dSetO 5 (dLst (dCons (dC (.int 0)) dNil)))
  (dSeq (whileD (q1w K a r)
  (q2h K a r) 1000000)
  (dSeq (dSetO 6 (dLst dNil))
  (dSeq (dForR 7 rng1 (dCons (dFnV 5 len1) dNil)
  (q3e K a r))
  (dRet (dTup (dCons (dTup (dCons (dOp ixW (dVar 1) (dC (.int 0))) (dCons (dOp ixW (dVar 1) (dC (.int 1))) (dCons (dVar 6) dNil)))) (dCons (dVar 5) dNil))))))))
def twS(K:Fg)(a:Adr)(r:Nat->List W->FR):List S->SR:=
 (dSeq (dSetO 4 (dCat (dFz (dListR2 (dCons (dC (.int 1)) (dCons (dVar 2) dNil)))) (dFz (dCompR rng1 [2,3] (dCons (dFn min2 (dCons (dOp modW (dVar 3) (dC (.int 5))) (dCons (dOp subW (dC (.int 20)) (dVar 2)) dNil))) dNil) dYes (q2i K a r)))))
  (twT K a r))
def q4d(K:Fg)(a:Adr)(r:Nat->List W->FR):List S->SR:=
 (dSeq (dSet 2 (dFn len1 (dCons (dOp ixW (dVar 1) (dC (.int 2))) dNil)))
  (dSeq (dSet 3 (dCall (r q0t) (dCons (dVar 0) (dCons (dC (.int 20)) dNil))))
  (twS K a r)))
def q4e(K:Fg)(a:Adr)(r:Nat->List W->FR):List S->SR:=
 (dSeq (dSetTN 3 (r q3l) (dCons (dVar 0) dNil))
  (dSeq (dSet 4 (dOp ixW (dVar 1) (dOp modW (dVar 2) (dFn len1 (dCons (dVar 1) dNil)))))
  (dSeq (dSet 5 (dOp modW (dOp fdivW (dVar 2) (dC (.int 20))) (dBorrow (dFn len1 (dCons (dOp ixW (dOp ixW (dVarT 3) (dC (.int 2))) (dVar 4)) dNil)))))
  (dSeq (dSet 6 (dLendN (dFlat (dOp ixW (dOp ixW (dOp ixW (dVarT 3) (dC (.int 2))) (dVar 4)) (dVar 5)))))
  (dSeq (dSet 7 (dOp modW (dOp fdivW (dVar 2) (dC (.int 160))) (dOp ixW (dVar 0) (dC (.int 1)))))
  (dSeq (dSetO 8 (dList (dCons (dOp ixW (dVar 6) (dC (.int 0))) dNil)))
  (dSeq (dPut 8 (dNotV (dIxV 8 (dVar 7))) (dVar 7))
  (dSeq (dPutTE 3 (dTup (dCons (dFn tup1 (dCons (dVar 8) dNil)) (dCons (dOp ixW (dVar 6) (dC (.int 1))) dNil))) 4 5)
  (dRet (dVarT 3))))))))))
def q7z(K:Fg)(a:Adr)(r:Nat->List W->FR):List S->SR:=
 (dIfS (dAnd (dTest (dOp nisW (dOp ixW (dVar 7) (dVar 8)) (dC .non))) (dAnd (dTest (dOp nisW (dOp ixW (dVar 5) (dOp ixW (dVar 3) (dVar 8))) (dC .non))) (dTest (dOp ne2 (dOp ixW (dVar 7) (dVar 8)) (dOp ixW (dVar 5) (dOp ixW (dVar 3) (dVar 8)))))))
  (dRet (dC (.bl false)))
  dNx)
def end56(K:Fg)(a:Adr)(r:Nat->List W->FR):List S->SR:=
 (dSeq (dSet 11 (dCall (r q1t) (dCons (dVar 4) dNil)))
  (dSeq (dIfS (dOr (dTest (dOp ne2 (dFn repr1 (dCons (dOp ixW (dVar 11) (dC (.int 0))) dNil)) (dFn repr1 (dCons (dVar 4) dNil)))) (dTest (dOp ne2 (dOp ixW (dVar 11) (dC (.int 1))) (dFz (dListR (dCons (dFn len1 (dCons (dOp ixW (dVar 4) (dC (.int 2))) dNil)) dNil))))))
  (dRet (dC (.bl false)))
  dNx)
  (dSeq (dIfS (dTest (dOp eq2 (dOp ixW (dVar 1) (dC (.int 1))) (dC (.int 0))))
  (dRet (dC (.bl true)))
  dNx)
  (dSeq (dSet 12 (dCall (r q1z) (dCons (dVar 1) (dCons (dCall (r q1v) (dCons (dOp ixW (dVar 1) (dC (.int 2))) dNil)) (dCons (dCall (r q0t) (dCons (dVar 0) (dCons (dC (.int 22)) dNil))) dNil)))))
  (dRet (dOp ne2 (dFn repr1 (dCons (dOp ixW (dCall (r q1t) (dCons (dVar 12) dNil)) (dC (.int 0))) dNil)) (dFn repr1 (dCons (dVar 4) dNil))))))))
def q9h(K:Fg)(a:Adr)(r:Nat->List W->FR):List S->SR:=
 (dSeq (dSet 1 (dCall (r q1u) (dCons (dVar 0) (dCons (dC (.int 0)) dNil))))
  (dSeq (dSet2 2 3 (dCall (r q2f) (dCons (dVar 0) (dCons (dVar 1) dNil))))
  (dSeq (dSet2 4 5 (dCall (r q1t) (dCons (dVar 1) dNil)))
  (dSeq (dSet2 6 7 (dCall (r q1t) (dCons (dVar 2) dNil)))
  (dSeq (dIfS (dOr (dTest (dOp ne2 (dFn repr1 (dCons (dVar 6) dNil)) (dFn repr1 (dCons (dVar 4) dNil)))) (dOr (dNot (dTru (dCall (r q0w) (dCons (dVar 2) (dCons (dVar 4) (dCons (dVar 7) dNil)))))) (dNot (dTru (dCall (r q0w) (dCons (dVar 1) (dCons (dVar 6) (dCons (dVar 5) dNil))))))))
  (dRet (dC (.bl false)))
  dNx)
  (dSeq (dForR 8 rng1 (dCons (dFn len1 (dCons (dVar 3) dNil)) dNil)
  (q7z K a r))
  (dSeq (dSet 9 (dFn len1 (dCons (dOp ixW (dVar 4) (dC (.int 2))) dNil)))
  (dSeq (dIfS (dTest (dOp ltW (dVar 9) (dC (.int 20))))
  (dSeq (dSet 10 (dTup (dCons (dOp ixW (dVar 4) (dC (.int 0))) (dCons (dOp ixW (dVar 4) (dC (.int 1))) (dCons (dOp addX (dOp ixW (dVar 4) (dC (.int 2))) (dFz (dLst (dCons (dFz (dList (dCons (dOp ixW (dOp ixW (dVar 4) (dC (.int 2))) (dC (.int 0))) dNil))) dNil)))) dNil)))))
  (dIfS (dNot (dTru (dCall (r q0w) (dCons (dVar 4) (dCons (dVar 10) (dCons (dFz (dListR (dCons (dVar 9) dNil))) dNil))))))
  (dRet (dC (.bl false)))
  dNx))
  dNx)
  (end56 K a r)))))))))
def body(K:Fg)(a:Adr)(r:Nat->List W->FR)(ws:List W):Nat->FR
 |0=>if ws.length=1 then(q4y K a r (init 3 ws)).fn else .no
 |1=>if ws.length=1 then(q20 K a r (init 6 ws)).fn else .no
 |2=>if ws.length=2 then(q39 K a r (init 2 ws)).fn else .no
 |3=>if ws.length=2 then(q50 K a r (init 9 ws)).fn else .no
 |4=>if ws.length=1 then(q2d K a r (init 3 ws)).fn else .no
 |5=>if ws.length=2 then(q3t K a r (init 6 ws)).fn else .no
 |6=>if ws.length=1 then(q7y K a r (init 6 ws)).fn else .no
 |7=>if ws.length=3 then(q22 K a r (init 3 ws)).fn else .no
 |8=>if ws.length=3 then(q3u K a r (init 3 ws)).fn else .no
 |9=>if ws.length=4 then(q52 K a r (init 6 ws)).fn else .no
 |10=>if ws.length=2 then(q3a K a r (init 2 ws)).fn else .no
 |11=>if ws.length=2 then(q4c K a r (init 3 ws)).fn else .no
 |12=>if ws.length=2 then(q5d K a r (init 4 ws)).fn else .no
 |13=>if ws.length=1 then(q3b K a r (init 1 ws)).fn else .no
 |14=>if ws.length=2 then(q3c K a r (init 16 ws)).fn else .no
 |15=>if ws.length=1 then(q41 K a r (init 1 ws)).fn else .no
 |16=>if ws.length=1 then(q3d K a r (init 4 ws)).fn else .no
 |17=>if ws.length=2 then(q4d K a r (init 11 ws)).fn else .no
 |18=>if ws.length=3 then(q4e K a r (init 9 ws)).fn else .no
 |19=>if ws.length=1 then(q9h K a r (init 13 ws)).fn else .no
 |20=>if ws.length=3 then exprFR (q3r K a r (ws.map .fr))else .no
 |21=>if ws.length=2 then exprFR (q3s K a r (ws.map .fr))else .no
 |_=>.no
def run(K:Fg)(a:Adr):Nat->Nat->List W->FR
 |0,_,_=>.no
 |n+1,i,ws=>body K a (run K a n) ws i
theorem q49:run K a (n+1) q3k ws=if ws.length=1 then(q4y K a (run K a n) (init 3 ws)).fn else .no:=rfl
theorem q3h:run K a (n+1) q1c ws=if ws.length=1 then(q20 K a (run K a n) (init 6 ws)).fn else .no:=rfl
theorem q4f:run K a (n+1) q2n ws=if ws.length=2 then(q39 K a (run K a n) (init 2 ws)).fn else .no:=rfl
theorem q56:run K a (n+1) q33 ws=if ws.length=2 then(q50 K a (run K a n) (init 9 ws)).fn else .no:=rfl
theorem q2z:run K a (n+1) q1q ws=if ws.length=1 then(q2d K a (run K a n) (init 3 ws)).fn else .no:=rfl
theorem q4g:run K a (n+1) q17 ws=if ws.length=2 then(q3t K a (run K a n) (init 6 ws)).fn else .no:=rfl
theorem q7j:run K a (n+1) q1t ws=if ws.length=1 then(q7y K a (run K a n) (init 6 ws)).fn else .no:=rfl
theorem q3i:run K a (n+1) q2a ws=if ws.length=3 then(q22 K a (run K a n) (init 3 ws)).fn else .no:=rfl
theorem q4h:run K a (n+1) q0w ws=if ws.length=3 then(q3u K a (run K a n) (init 3 ws)).fn else .no:=rfl
theorem q57:run K a (n+1) q44 ws=if ws.length=4 then(q52 K a (run K a n) (init 6 ws)).fn else .no:=rfl
theorem q3x:run K a (n+1) q0t ws=if ws.length=2 then(q3a K a (run K a n) (init 2 ws)).fn else .no:=rfl
theorem q4s:run K a (n+1) q1d ws=if ws.length=2 then(q4c K a (run K a n) (init 3 ws)).fn else .no:=rfl
theorem q5t:run K a (n+1) q38 ws=if ws.length=2 then(q5d K a (run K a n) (init 4 ws)).fn else .no:=rfl
theorem q3y:run K a (n+1) q2e ws=if ws.length=1 then(q3b K a (run K a n) (init 1 ws)).fn else .no:=rfl
theorem q3z:run K a (n+1) q1u ws=if ws.length=2 then(q3c K a (run K a n) (init 16 ws)).fn else .no:=rfl
theorem q5a:run K a (n+1) q3l ws=if ws.length=1 then(q41 K a (run K a n) (init 1 ws)).fn else .no:=rfl
theorem q30:run K a (n+1) q1v ws=if ws.length=1 then(q3d K a (run K a n) (init 4 ws)).fn else .no:=rfl
theorem q4t:run K a (n+1) q2f ws=if ws.length=2 then(q4d K a (run K a n) (init 11 ws)).fn else .no:=rfl
theorem q4u:run K a (n+1) q1z ws=if ws.length=3 then(q4e K a (run K a n) (init 9 ws)).fn else .no:=rfl
theorem q6f:run K a (n+1) q7x ws=if ws.length=1 then(q9h K a (run K a n) (init 13 ws)).fn else .no:=rfl
theorem q4i:run K a (n+1) q3p ws=if ws.length=3 then exprFR (q3r K a (run K a n) (ws.map .fr))else .no:=rfl
theorem q4j:run K a (n+1) q3q ws=if ws.length=2 then exprFR (q3s K a (run K a n) (ws.map .fr))else .no:=rfl
section
variable{P:Program}{w:World}{base:Heap}
structure Mks(K:Fg)(mg:Str->Option Value):Prop where
 small:∀f oc od fd sl,mg "small"=some (.ref f)->K.lookup f=some ⟨oc,od,.func fd,sl⟩->MakK K "small" fd.code
structure Ats(K:Fg)(mg:Str->Option Value):Prop where
 rows_many:At K mg "rows_many" q2c ["many"]
 check_machine:At K mg "check_machine" q1e ["machine"]
 is_state:At K mg "is_state" q2o ["machine", "number"]
 come_to:At K mg "come_to" q25 ["begin", "pairs_of"]
 kinds_by_length:At K mg "kinds_by_length" q02 ["states"]
 finer_kinds:At K mg "finer_kinds" q1h ["states", "kinds"]
 small:At K mg "small" q2g ["machine"]
 pairs_of_kind:At K mg "pairs_of_kind" q03 ["states", "kinds", "kind"]
 shows_small:At K mg "shows_small" q04 ["machine", "other", "numbers"]
 goes_as:At K mg "goes_as" q26 ["state", "other", "numbers", "number"]
 _law_cell_at:At K mg "_law_cell_at" q1i ["_law_script", "_law_k"]
 _law_mixed:At K mg "_law_mixed" q10 ["_law_cell", "_law_k"]
 _law_row:At K mg "_law_row" q2p ["_law_number", "_law_many"]
 _law_rows_of:At K mg "_law_rows_of" q1j ["_law_many"]
 _law_machine:At K mg "_law_machine" q1k ["_law_script", "_law_at"]
 _law_copy:At K mg "_law_copy" q1s ["_law_machine_here"]
 _law_come_to:At K mg "_law_come_to" q1l ["_law_states"]
 _law_twins:At K mg "_law_twins" q1f ["_law_script", "_law_machine_here"]
 _law_other:At K mg "_law_other" q11 ["_law_machine_here", "_law_there", "_law_cell"]
 law:At K mg "law" q3o ["_law_script"]
structure Cals(P:Program)(w:World)(K:Fg)(mg:Str->Option Value)(base:Heap)(a:Adr)(n:Nat):Prop where
 rows_many:Cal P w K mg base n "rows_many" ["many"] (spF K (run K a n q3k))
 check_machine:Cal P w K mg base n "check_machine" ["machine"] (spF K (run K a n q1c))
 is_state:Cal P w K mg base n "is_state" ["machine", "number"] (spF K (run K a n q2n))
 come_to:Cal P w K mg base n "come_to" ["begin", "pairs_of"] (spF K (run K a n q33))
 kinds_by_length:Cal P w K mg base n "kinds_by_length" ["states"] (spF K (run K a n q1q))
 finer_kinds:Cal P w K mg base n "finer_kinds" ["states", "kinds"] (spF K (run K a n q17))
 small:Cal P w K mg base n "small" ["machine"] (spF K (run K a n q1t))
 pairs_of_kind:Cal P w K mg base n "pairs_of_kind" ["states", "kinds", "kind"] (spF K (run K a n q2a))
 shows_small:Cal P w K mg base n "shows_small" ["machine", "other", "numbers"] (spF K (run K a n q0w))
 goes_as:Cal P w K mg base n "goes_as" ["state", "other", "numbers", "number"] (spF K (run K a n q44))
 _law_cell_at:Cal P w K mg base n "_law_cell_at" ["_law_script", "_law_k"] (spF K (run K a n q0t))
 _law_mixed:Cal P w K mg base n "_law_mixed" ["_law_cell", "_law_k"] (spF K (run K a n q1d))
 _law_row:Cal P w K mg base n "_law_row" ["_law_number", "_law_many"] (spF K (run K a n q38))
 _law_rows_of:Cal P w K mg base n "_law_rows_of" ["_law_many"] (spF K (run K a n q2e))
 _law_machine:Cal P w K mg base n "_law_machine" ["_law_script", "_law_at"] (spF K (run K a n q1u))
 _law_copy:Cal P w K mg base n "_law_copy" ["_law_machine_here"] (spF K (run K a n q3l))
 _law_come_to:Cal P w K mg base n "_law_come_to" ["_law_states"] (spF K (run K a n q1v))
 _law_twins:Cal P w K mg base n "_law_twins" ["_law_script", "_law_machine_here"] (spF K (run K a n q2f))
 _law_other:Cal P w K mg base n "_law_other" ["_law_machine_here", "_law_there", "_law_cell"] (spF K (run K a n q1z))
 law:Cal P w K mg base n "law" ["_law_script"] (spF K (run K a n q7x))
 lam:FnV P w K mg base (CX1 P w) n (spV K lams (run K a n))
structure CalsH(P:Program)(w:World)(K:Fg)(mg:Str->Option Value)(base:Heap)(a:Adr)(n:Nat):Prop where
 z:True
section
variable(B:Blt mg)(M:Exs K mg a)(C:Cals P w K mg base a n)(CH:CalsH P w K mg base a n)(BM:BMain base mg)(MK:Mks K mg)
theorem lof{c:Prop} [Decidable c]{x r:FR}(e:r=if c then x else .no)(h:r≠.no):c/\x=r:=by
 rw[e]at h |-;split at h
 ·rename_i hl;rw[if_pos hl];exact⟨hl,rfl⟩
 ·exact absurd rfl h
include B M C CH BM MK
theorem x28  (A:Ats K mg):Cal P w K mg base (n+1) "rows_many" ["many"] (spF K (run K a (n+1) q3k)):=
 con A.rows_many sc_rows_many (fun ws hw=>(lof q49 hw).1) fun ws hw f cdv A outer s H E Z hr=>⟨q4y K a (run K a n),(q0e (q0n 1 sc_rows_many.nd q0d)
  (q0e (q4n 2 sc_rows_many.nd PassesOwn.leaving rfl B.b_range (q0a (dv 0) q0c)
  (q0g (q0n 1 sc_rows_many.nd (q5q q0d (dv 1)))))
  (q0g (q0z (dv 1))))),(lof q49 hw).2⟩
theorem q8o  (A:Ats K mg):Cal P w K mg base (n+1) "check_machine" ["machine"] (spF K (run K a (n+1) q1c)):=
 con A.check_machine sc_check_machine (fun ws hw=>(lof q3h hw).1) fun ws hw f cdv A outer s H E Z hr=>⟨q20 K a (run K a n),(q0e (q0n 1 sc_check_machine.nd (q0h (dv 0) q0d))
  (q0e (q0n 2 sc_check_machine.nd (q0s C.rows_many hr pass1 (q0a (q0h (dv 0) q0d) q0c)))
  (q0e (q1a (q5x (q0k hr) (q1p B.b_len (q0a (dv 1) q0c)) q0d)
  (q0g q6m)
  q0u)
  (q0g (q7c 3 sc_check_machine.nd PassesOwn.leaving rfl (dv 1)
  (q0e (q1a (q29 (q0k hr) (q1p B.b_len (q0a (dv 3) q0c)) (dv 2))
  (q0g q6m)
  q0u)
  (q0g (q90 4 5 sc_check_machine.nd PassesOwn.leaving rfl (q6n (dv 3))
  (q0e (q1a (q29 (q0k hr) (q1p B.b_len (q0a (dv 4) q0c)) (q0h (dv 0) q0d))
  (q0g q6m)
  q0u)
  (q0g (q1a (q7a (q68 (q0s C.is_state hr pass1 (q0a (dv 0) (q0a (dv 5) q0c)))))
  (q0g q6m)
  q0u))))))))))),(lof q3h hw).2⟩
theorem x36  (A:Ats K mg):Cal P w K mg base (n+1) "is_state" ["machine", "number"] (spF K (run K a (n+1) q2n)):=
 con A.is_state x35 (fun ws hw=>(lof q4f hw).1) fun ws hw f cdv A outer s H E Z hr=>⟨q39 K a (run K a n),(q0g (q0z (y8x (z2r q0d (dv 1)) (x63 (z2q (dv 1) (q1p B.b_len (q0a (q0h (dv 0) q0d) q0c))))))),(lof q4f hw).2⟩
theorem x57  (A:Ats K mg):Cal P w K mg base (n+1) "come_to" ["begin", "pairs_of"] (spF K (run K a (n+1) q33)):=
 conZ A.come_to sc_come_to (fun ws hw=>(lof q56 hw).1) fun ws hw f cdv A outer s H E Z hr hz=>⟨q50 K a (run K a n),(q0e (q19 2 sc_come_to.nd (q01 (q0a (dv 0) q0c)))
  (q0e (y1v 3 0 sc_come_to.nd (pv 0))
  (q0e (y67 4 hz.2 sc_come_to.nd (q01 q0c))
  (q0e (q8c 1000000 PassesOwn.leaving (x1u (q2v 4 B.b_len) (q2v 2 B.b_len))
  (q0e (q0n 5 sc_come_to.nd (q6b 2 (q2v 4 B.b_len)))
  (q0e (q19 6 sc_come_to.nd (q01 q0c))
  (q0e (q90 7 8 sc_come_to.nd PassesOwn.leaving rfl (q6n (y1u 1 C.lam hr pass1 (q0a (dv 5) q0c) (pv 1)))
  (q0e (q1a (q5z fun _=>(y6z (q0k hr) (dv 8) (dv 3)))
  (q0e (y61 3 (q0k hr) (q2v 2 B.b_len) (dv 8))
  (q0g (q24 2 (q0a (dv 8) q0c))))
  q0u)
  (q0g (q24 6 (q0a (q3j (q0a (dv 7) (q0a (q5y fun _=>(z1e (q0k hr) (dv 3) (dv 8))) q0c))) q0c)))))
  (q0g (y68 4 6 hz.1))))))
  (q0g (x24 (x23 (q3w (z1j 4 hz.1) (q3w (x8w 2) q99))))))))),(lof q56 hw).2⟩
theorem q7k  (A:Ats K mg):Cal P w K mg base (n+1) "kinds_by_length" ["states"] (spF K (run K a (n+1) q1q)):=
 con A.kinds_by_length sc_kinds_by_length (fun ws hw=>(lof q2z hw).1) fun ws hw f cdv A outer s H E Z hr=>⟨q2d K a (run K a n),(q0e (q19 1 sc_kinds_by_length.nd (q01 (q0a (x2s (q1r (q01 (q0a q0d q0c))) (q1p B.b_len (q0a (dv 0) q0c))) q0c)))
  (q0e (q0n 2 sc_kinds_by_length.nd (q0s C.finer_kinds hr pass1 (q0a (dv 0) (q0a (q6b 1 (x2m q0d)) q0c))))
  (q0e (q8c 1000000 PassesOwn.leaving (z2v (x4x rfl B.b_max (q0a (dv 2) q0c)) (x4x rfl B.b_max (q0a (q6b 1 (x2m q0d)) q0c)))
  (q0e (q24 1 (q0a (dv 2) q0c))
  (q0g (q0n 2 sc_kinds_by_length.nd (q0s C.finer_kinds hr pass1 (q0a (dv 0) (q0a (dv 2) q0c)))))))
  (q0g (q9w 1))))),(lof q2z hw).2⟩
theorem x0c  (A:Ats K mg):Cal P w K mg base (n+1) "finer_kinds" ["states", "kinds"] (spF K (run K a (n+1) q17)):=
 con A.finer_kinds sc_finer_kinds (fun ws hw=>(lof q4g hw).1) fun ws hw f cdv A outer s H E Z hr=>⟨q3t K a (run K a n),(q0e (y6q 2 (.many (.tup [.many .bl,.int])) sc_finer_kinds.nd)
  (q0e (q19 3 sc_finer_kinds.nd (q01 q0c))
  (q0e (q7c 4 sc_finer_kinds.nd PassesOwn.leaving rfl (dv 0)
  (q0e (q0n 5 sc_finer_kinds.nd (q6l B.b_tuple (q0a (q1r (q8g (x:="told") (y:="follower") (Nf:=["kinds"]) (js:=[1]) (sc:=defScope q1h) (N:=["states", "kinds", "numbers", "finer", "state", "seen"]) rfl (q6n (dv 4)) (by decide +kernel)
   (fun _ _ _ _ _ _=>q5f)
   (fun _ _ _ _ _ _=>(q3j (q0a (dv 0) (q0a (q0h (dv 2) (dv 1)) q0c))))
   (fun _ _ _ _ _=>x2r (show(["told", "follower", "kinds"]:List Str).Nodup by decide +kernel) rfl))) q0c)))
  (q0e (q1a (q5z fun _=>(y6o M.nt (q0k hr) (dv 5) (dv 2)))
  (q0g (y6r 2 M.nt (q0k hr) (q5y fun _=>(y6p B.b_len (q0a (dv 2) q0c))) (dv 5)))
  q0u)
  (q0g (q24 3 (q0a (q5y fun _=>(z07 M.nt (q0k hr) (dv 2) (dv 5))) q0c))))))
  (q0g (q9w 3))))),(lof q4g hw).2⟩
theorem y2y  (A:Ats K mg):Cal P w K mg base (n+1) "small" ["machine"] (spF K (run K a (n+1) q1t)):=
 conM A.small MK.small sc_small (fun ws hw=>(lof q7j hw).1) fun ws hw f cdv A outer s H E Z hr hmk=>⟨q7y K a (run K a n),(q0e (q9v (q0s C.check_machine hr pass1 (q0a (dv 0) q0c)))
  (q0e (q0n 1 sc_small.nd (q0h (dv 0) q0d))
  (q0e (q0n 2 sc_small.nd (q0h (q0s C.kinds_by_length hr pass1 (q0a (dv 1) q0c)) (x2m q0d)))
  (q0e (y16 3 sc_small.nd (q9d 20 q34 C.come_to hr pass1 (y34 hmk BM) (fun _=>rfl) (q0h (dv 2) q0d) (sc:=defScope q2g) (N:=["machine", "states", "kinds", "found", "numbers", "number"]) (nf:=["states", "kinds"]) (by decide +kernel)))
  (q0e (q19 4 sc_small.nd (z1h (q1r (q01 (q0a q66 q0c))) (q1p B.b_len (q0a (dv 1) q0c))))
  (q0e (q7c 5 sc_small.nd PassesOwn.leaving rfl (q0h (x8v (q9d 21 q35 C.come_to hr pass1 (y34 hmk BM) (fun _=>rfl) q0d (sc:=defScope q2g) (N:=["machine", "states", "kinds", "found", "numbers", "number"]) (nf:=["states"]) (by decide +kernel))) q0d)
  (q0g (x7u 4 (x01 (q0h (dv 3) q0d) (q0a (q0h (dv 2) (dv 5)) q0c)) (dv 5))))
  (q0g (x24 (x23 (q3w (x23 (q3w (q98 (q0h (dv 0) q0d)) (q3w (q98 (q0h (dv 0) q0d)) (q3w (z4c 3 0) q99)))) (q3w (x8w 4) q99))))))))))),(lof q7j hw).2⟩
theorem q8p  (A:Ats K mg):Cal P w K mg base (n+1) "pairs_of_kind" ["states", "kinds", "kind"] (spF K (run K a (n+1) q2a)):=
 con A.pairs_of_kind q8n (fun ws hw=>(lof q3i hw).1) fun ws hw f cdv A outer s H E Z hr=>⟨q22 K a (run K a n),(q0g (y4y (q8g (x:="told") (y:="follower") (Nf:=["kinds"]) (js:=[1]) (sc:=defScope q03) (N:=["states", "kinds", "kind"]) rfl (q6n (q0h (dv 0) (x01 (dv 1) (q0a (dv 2) q0c)))) (by decide +kernel)
   (fun _ _ _ _ _ _=>q5f)
   (fun _ _ _ _ _ _=>(q3j (q0a (dv 0) (q0a (q0h (dv 2) (dv 1)) q0c))))
   (fun _ _ _ _ _=>x2r (show(["told", "follower", "kinds"]:List Str).Nodup by decide +kernel) rfl)))),(lof q3i hw).2⟩
theorem x0d  (A:Ats K mg):Cal P w K mg base (n+1) "shows_small" ["machine", "other", "numbers"] (spF K (run K a (n+1) q0w)):=
 con A.shows_small x0b (fun ws hw=>(lof q4h hw).1) fun ws hw f cdv A outer s H E Z hr=>⟨q3u K a (run K a n),(q0e (q9v (q0s C.check_machine hr pass1 (q0a (dv 0) q0c)))
  (q0e (q9v (q0s C.check_machine hr pass1 (q0a (dv 1) q0c)))
  (q0e (q1a (dt_w (q6k (q29 (q0k hr) (q0h (dv 0) q0d) (q0h (dv 1) q0d)) (q6k (q29 (q0k hr) (q0h (dv 0) q0d) (q0h (dv 1) q0d)) (q69 (q29 (q0k hr) (q1p B.b_len (q0a (dv 2) q0c)) (q1p B.b_len (q0a (q0h (dv 0) q0d) q0c)))))))
  (q0g (q0z q3n))
  q0u)
  (q0e (q1a (q7a (q68 (x7s rfl B.b_all (q0a (q1r (y42 (x:="number") (Nf:=["other"]) (js:=[1]) (sc:=defScope q04) (N:=["machine", "other", "numbers"]) rfl (dv 2) (by decide +kernel)
   (fun _ _ _ _ _ _=>q5f)
   (fun _ _ _ _ _ _=>(z2n (z2u (dv 0) q66) (x63 (q0s C.is_state hr passE (q0a (dv 1) (q0a (dv 0) q0c))))))
   (fun _ _ _ _ _=>q28 0 (show(["number", "other"]:List Str).Nodup by decide +kernel)))) q0c))))
  (q0g (q0z q3n))
  q0u)
  (q0e (q1a (q29 (q0k hr) (q0h (dv 2) q0d) q0d)
  (q0g (q0z q3n))
  q0u)
  (q0g (q0z (x7s rfl B.b_all (q0a (q1r (q8g (x:="state") (y:="number") (Nf:=["other", "numbers"]) (js:=[1,2]) (sc:=defScope q04) (N:=["machine", "other", "numbers"]) rfl (x8a B.b_zip (q0a (q0h (dv 0) q0d) (q0a (dv 2) q0c))) (by decide +kernel)
   (fun _ _ _ _ _ _=>q5f)
   (fun _ _ _ _ _ _=>(q0s C.goes_as hr passE (q0a (dv 0) (q0a (dv 2) (q0a (dv 3) (q0a (dv 1) q0c))))))
   (fun _ _ _ _ _=>x2r (show(["state", "number", "other", "numbers"]:List Str).Nodup by decide +kernel) rfl))) q0c))))))))),(lof q4h hw).2⟩
theorem x58  (A:Ats K mg):Cal P w K mg base (n+1) "goes_as" ["state", "other", "numbers", "number"] (spF K (run K a (n+1) q44)):=
 con A.goes_as sc_goes_as (fun ws hw=>(lof q57 hw).1) fun ws hw f cdv A outer s H E Z hr=>⟨q52 K a (run K a n),(q0e (q1a (z2w (dv 3) q66)
  (q0g (q0z q3n))
  q0u)
  (q0e (q90 4 5 sc_goes_as.nd PassesOwn.leaving rfl (x8a B.b_zip (q0a (dv 0) (q0a (q0h (q0h (dv 1) q0d) (dv 3)) q0c)))
  (q0g (q1a (dt_w (q6k (q29 (q0k hr) (q0h (dv 4) q0d) (q0h (dv 5) q0d)) (q69 (q29 (q0k hr) (q0h (dv 2) (q0h (dv 4) q0d)) (q0h (dv 5) q0d)))))
  (q0g (q0z q3n))
  q0u)))
  (q0g (q0z q3n)))),(lof q57 hw).2⟩
theorem q9i  (A:Ats K mg):Cal P w K mg base (n+1) "_law_cell_at" ["_law_script", "_law_k"] (spF K (run K a (n+1) q0t)):=
 con A._law_cell_at q9f (fun ws hw=>(lof q3x hw).1) fun ws hw f cdv A outer s H E Z hr=>⟨q3a K a (run K a n),(q0e (q1a (x1u (dv 1) (q1p B.b_len (q0a (dv 0) q0c)))
  (q0g (q0z (q0h (dv 0) (dv 1))))
  q0u)
  (q0g (q0z q0d))),(lof q3x hw).2⟩
theorem x1q  (A:Ats K mg):Cal P w K mg base (n+1) "_law_mixed" ["_law_cell", "_law_k"] (spF K (run K a (n+1) q1d)):=
 con A._law_mixed sc__law_mixed (fun ws hw=>(lof q4s hw).1) fun ws hw f cdv A outer s H E Z hr=>⟨q4c K a (run K a n),(q0e (q0n 2 sc__law_mixed.nd (q0v (q5q (q06 (dv 0) (q5q q0d (dv 1))) q0d) q0d))
  (q0g (q0z (q0v (q06 (q06 (q5q (dv 2) (dv 2)) (q5q q0d (dv 2))) (dv 1)) q0d)))),(lof q4s hw).2⟩
theorem x37  (A:Ats K mg):Cal P w K mg base (n+1) "_law_row" ["_law_number", "_law_many"] (spF K (run K a (n+1) q38)):=
 con A._law_row sc__law_row (fun ws hw=>(lof q5t hw).1) fun ws hw f cdv A outer s H E Z hr=>⟨q5d K a (run K a n),(q0e (q19 2 sc__law_row.nd (q01 q0c))
  (q0e (q4n 3 sc__law_row.nd PassesOwn.leaving rfl B.b_range (q0a (dv 1) q0c)
  (q0e (q24 2 (q0a (y30 (q0k hr) (q0v (dv 0) q0d) q0d) q0c))
  (q0g (q0n 0 sc__law_row.nd (q16 (dv 0) q0d)))))
  (q0e (z02 2)
  (q0g (q0z (q6l B.b_tuple (q0a (dv 2) q0c))))))),(lof q5t hw).2⟩
theorem q9j  (A:Ats K mg):Cal P w K mg base (n+1) "_law_rows_of" ["_law_many"] (spF K (run K a (n+1) q2e)):=
 con A._law_rows_of q9g (fun ws hw=>(lof q3y hw).1) fun ws hw f cdv A outer s H E Z hr=>⟨q3b K a (run K a n),(q0g (q0z (q0h (q1r (q01 (q0a q0d (q0a q0d (q0a q0d (q0a q0d q0c)))))) (dv 0)))),(lof q3y hw).2⟩
theorem q9k  (A:Ats K mg):Cal P w K mg base (n+1) "_law_machine" ["_law_script", "_law_at"] (spF K (run K a (n+1) q1u)):=
 con A._law_machine sc__law_machine (fun ws hw=>(lof q3z hw).1) fun ws hw f cdv A outer s H E Z hr=>⟨q3c K a (run K a n),(q0e (q0n 2 sc__law_machine.nd (q0s C._law_cell_at hr pass1 (q0a (dv 0) (q0a (dv 1) q0c))))
  (q0e (q0n 3 sc__law_machine.nd (q0s C._law_cell_at hr pass1 (q0a (dv 0) (q0a (q06 (dv 1) q0d) q0c))))
  (q0e (q0n 4 sc__law_machine.nd (q0v (dv 2) q0d))
  (q0e (q0n 5 sc__law_machine.nd (q0h (q1r (q01 (q0a q0d (q0a q0d (q0a q0d (q0a q0d (q0a q0d (q0a (q06 q0d (q0v (q16 (dv 3) q0d) q0d)) (q0a q0d (q0a q0d q0c)))))))))) (q0v (q16 (dv 3) q0d) q0d)))
  (q0e (q0n 6 sc__law_machine.nd (q06 q0d (q0v (q16 (dv 2) q0d) q0d)))
  (q0e (q1a (dt_w (q6k (q5x (q0k hr) (dv 6) q0d) (q69 (q5x (q0k hr) (dv 6) q0d))))
  (q0e (q0n 6 sc__law_machine.nd (q06 q0d (q0v (q16 (dv 2) q0d) q0d)))
  (q0g (q0n 4 sc__law_machine.nd (q7w rfl B.b_min (q0a (dv 4) (q0a (q0h (q1r (q01 (q0a q0d (q0a q0d q0c)))) (y53 B.b_int (q0a (z2s (dv 6) q0d) q0c))) q0c))))))
  q0u)
  (q0e (q1a (q5x (q0k hr) (dv 6) q0d)
  (q0e (q0n 6 sc__law_machine.nd (q06 q0d (q0v (q16 (dv 2) q0d) q0d)))
  (q0g (q0n 4 sc__law_machine.nd (q0v (dv 4) q0d))))
  q0u)
  (q0e (q0n 7 sc__law_machine.nd (q6c (dv 6) (q0v (q16 (dv 3) q0d) (dv 6))))
  (q0e (q19 8 sc__law_machine.nd (q01 q0c))
  (q0e (q4n 9 sc__law_machine.nd PassesOwn.leaving rfl B.b_range (q0a (dv 6) q0c)
  (q0e (q19 10 sc__law_machine.nd (q01 q0c))
  (q0e (q4n 11 sc__law_machine.nd PassesOwn.leaving rfl B.b_range (q0a (q0s C._law_rows_of hr pass1 (q0a (dv 4) q0c)) q0c)
  (q0e (q0n 12 sc__law_machine.nd (q0s C._law_mixed hr pass1 (q0a (q0s C._law_cell_at hr pass1 (q0a (dv 0) (q0a (q06 (q06 (dv 1) q0d) (q0v (q0v (dv 9) (dv 7)) q0d)) q0c))) (q0a (q06 (q5q q0d (q0v (dv 9) (dv 7))) (dv 11)) q0c))))
  (q0e (q0n 13 sc__law_machine.nd (x2s (q1r (q01 (q0a q3n q0c))) (dv 5)))
  (q0e (q1a (q5x (q0k hr) (q0v (dv 12) q0d) q0d)
  (q0g (q0n 13 sc__law_machine.nd (q1r (q7u B.b_list (q0a (q0s C._law_row hr pass1 (q0a (q16 (dv 12) q0d) (q0a (dv 5) q0c))) q0c)))))
  q0u)
  (q0e (q0n 14 sc__law_machine.nd (q0v (q16 (dv 12) q0d) (dv 7)))
  (q0e (q1a (q5x (q0k hr) (q0v (dv 3) q0d) q0d)
  (q0e (q0n 13 sc__law_machine.nd (x2s (q1r (q01 (q0a (y30 (q0k hr) (q0v (dv 9) (dv 7)) (q6c (dv 7) q0d)) q0c))) (dv 5)))
  (q0g (q0n 14 sc__law_machine.nd (q0h (q1r (q01 (q0a (q7w rfl B.b_min (q0a (q06 (q0v (dv 9) (dv 7)) q0d) (q0a (q6c (dv 7) q0d) q0c))) (q0a q0d q0c)))) (q7w rfl B.b_min (q0a (dv 11) (q0a q0d q0c)))))))
  q0u)
  (q0e (q0n 15 sc__law_machine.nd (q0v (q0s C._law_mixed hr pass1 (q0a (q06 (dv 3) (dv 9)) (q0a (dv 11) q0c))) (q06 (q16 (q6c (q6c (dv 6) q0d) (dv 14)) (dv 7)) q0d)))
  (q0g (q24 10 (q0a (q3j (q0a (q6l B.b_tuple (q0a (dv 13) q0c)) (q0a (q06 (dv 14) (q5q (dv 7) (dv 15))) q0c))) q0c))))))))))
  (q0g (q24 8 (q0a (dv 10) q0c))))))
  (q0g (q0z (q3j (q0a (dv 4) (q0a (dv 5) (q0a (dv 8) q0c)))))))))))))))),(lof q3z hw).2⟩
theorem x29  (A:Ats K mg):Cal P w K mg base (n+1) "_law_copy" ["_law_machine_here"] (spF K (run K a (n+1) q3l)):=
 conZ A._law_copy x25 (fun ws hw=>(lof q5a hw).1) fun ws hw f cdv A outer s H E Z hr hz=>⟨q41 K a (run K a n),(q0g (y2h hz.2 (q0h (dv 0) q0d) (q0h (dv 0) q0d) (y7j (x:="_law_state") (Nf:=[]) (js:=[]) (sc:=defScope q1s) (N:=["_law_machine_here"]) rfl (q0h (dv 0) q0d) (by decide +kernel)
   (fun _ _ _ _ _ _=>(q7u B.b_list (q0a (dv 0) q0c)))
   (fun _ _ _ _ _=>q28 0 (show(["_law_state"]:List Str).Nodup by decide +kernel))))),(lof q5a hw).2⟩
theorem q9l  (A:Ats K mg):Cal P w K mg base (n+1) "_law_come_to" ["_law_states"] (spF K (run K a (n+1) q1v)):=
 con A._law_come_to sc__law_come_to (fun ws hw=>(lof q30 hw).1) fun ws hw f cdv A outer s H E Z hr=>⟨q3d K a (run K a n),(q0e (q19 1 sc__law_come_to.nd (q01 (q0a q0d q0c)))
  (q0e (q4n 2 sc__law_come_to.nd PassesOwn.leaving rfl B.b_range (q0a (q1p B.b_len (q0a (dv 0) q0c)) q0c)
  (q0g (q1a (x1u (dv 2) (q2v 1 B.b_len))
  (q0g (q7c 3 sc__law_come_to.nd PassesOwn.leaving rfl (q0h (dv 0) (q6b 1 (dv 2)))
  (q0g (q1a (q5z fun _=>(z0q (q0k hr) (q0h (dv 3) q0d) (dv 1)))
  (q0g (q24 1 (q0a (q0h (dv 3) q0d) q0c)))
  q0u))))
  q0u)))
  (q0g (q9w 1)))),(lof q30 hw).2⟩
theorem x1r  (A:Ats K mg):Cal P w K mg base (n+1) "_law_twins" ["_law_script", "_law_machine_here"] (spF K (run K a (n+1) q2f)):=
 con A._law_twins sc__law_twins (fun ws hw=>(lof q4t hw).1) fun ws hw f cdv A outer s H E Z hr=>⟨q4d K a (run K a n),(q0e (q0n 2 sc__law_twins.nd (q1p B.b_len (q0a (q0h (dv 1) q0d) q0c)))
  (q0e (q0n 3 sc__law_twins.nd (q0s C._law_cell_at hr pass1 (q0a (dv 0) (q0a q0d q0c))))
  (q0e (q19 4 sc__law_twins.nd (z1n (q1r (x81 rfl B.b_list B.b_range (q0a q0d (q0a (dv 2) q0c)))) (q1r (y0g (x:="_law_k") (Nf:=["_law_size", "_law_cell"]) (js:=[2,3]) (sc:=defScope q1f) (N:=["_law_script", "_law_machine_here", "_law_size", "_law_cell", "_law_stands", "_law_order", "_law_states", "_law_k", "_law_state", "_law_pair", "_law_there"]) rfl B.b_range (q0a (q7w rfl B.b_min (q0a (q0v (dv 3) q0d) (q0a (q6c q0d (dv 2)) q0c))) q0c) (by decide +kernel)
   (fun _ _ _ _ _ _=>q5f)
   (fun _ _ _ _ _ _=>(q0v (q0s C._law_mixed hr passE (q0a (dv 2) (q0a (dv 0) q0c))) (dv 1)))
   (fun _ _ _ _ _=>q28 0 (show(["_law_k", "_law_size", "_law_cell"]:List Str).Nodup by decide +kernel))))))
  (q0e (q19 5 sc__law_twins.nd (q01 (q0a q0d q0c)))
  (q0e (q8c 1000000 PassesOwn.leaving (q5z fun _=>(q29 (q0k hr) (dv 4) (q1r (q01 q0c))))
  (q0g (q24 5 (q0a (y2o 4 (q0v (q0s C._law_mixed hr pass1 (q0a (q0s C._law_cell_at hr pass1 (q0a (dv 0) (q0a q0d q0c))) (q0a (q2v 4 B.b_len) q0c))) (q2v 4 B.b_len))) q0c))))
  (q0e (q19 6 sc__law_twins.nd (q01 q0c))
  (q0e (q4n 7 sc__law_twins.nd PassesOwn.leaving rfl B.b_range (q0a (q2v 5 B.b_len) q0c)
  (q0e (q19 8 sc__law_twins.nd (q01 q0c))
  (q0e (q7c 9 sc__law_twins.nd PassesOwn.leaving rfl (q0h (q0h (dv 1) q0d) (q6b 5 (dv 7)))
  (q0e (x3z 10 sc__law_twins.nd (x:="_law_at") (Nf:=["_law_order", "_law_pair"]) (js:=[5,9]) (sc:=defScope q1f) (N:=["_law_script", "_law_machine_here", "_law_size", "_law_cell", "_law_stands", "_law_order", "_law_states", "_law_k", "_law_state", "_law_pair", "_law_there"]) rfl B.b_range (q0a (q2v 5 B.b_len) q0c) (by decide +kernel)
   (fun _ _ _ _ _ _=>(y41 (q5x (q0k hr) (q0h (dv 1) (dv 0)) (q0h (dv 2) q0d))))
   (fun _ _ _ _ _ _=>(dv 0))
   (fun _ _ _ _ _=>q28 0 (show(["_law_at", "_law_order", "_law_pair"]:List Str).Nodup by decide +kernel)))
  (q0g (q24 8 (q0a (q3j (q0a (q0h (dv 9) q0d) (q0a (q0h (dv 10) (q0v (q0s C._law_mixed hr pass1 (q0a (q06 (dv 3) (dv 7)) (q0a (q2v 8 B.b_len) q0c))) (q1p B.b_len (q0a (dv 10) q0c)))) q0c))) q0c)))))
  (q0g (q24 6 (q0a (dv 8) q0c))))))
  (q0g (q0z (q3j (q0a (q3j (q0a (q0h (dv 1) q0d) (q0a (q0h (dv 1) q0d) (q0a (dv 6) q0c)))) (q0a (dv 5) q0c)))))))))))),(lof q4t hw).2⟩
theorem x1s  (A:Ats K mg):Cal P w K mg base (n+1) "_law_other" ["_law_machine_here", "_law_there", "_law_cell"] (spF K (run K a (n+1) q1z)):=
 conZ A._law_other sc__law_other (fun ws hw=>(lof q4u hw).1) fun ws hw f cdv A outer s H E Z hr hz=>⟨q4e K a (run K a n),(q0e (y2g 3 sc__law_other.nd C._law_copy hr pass1 (q0a (dv 0) q0c))
  (q0e (q0n 4 sc__law_other.nd (q0h (dv 1) (q0v (dv 2) (q1p B.b_len (q0a (dv 1) q0c)))))
  (q0e (q0n 5 sc__law_other.nd (q0v (q16 (dv 2) q0d) (q5y fun _=>(q1p B.b_len (q0a (q0h (q0h (x0a 3) q0d) (dv 4)) q0c)))))
  (q0e (q0n 6 sc__law_other.nd (x8v (y69 hz.2 fun _=>q98 (q0h (q0h (q0h (x0a 3) q0d) (dv 4)) (dv 5)))))
  (q0e (q0n 7 sc__law_other.nd (q0v (q16 (dv 2) q0d) (q0h (dv 0) q0d)))
  (q0e (q19 8 sc__law_other.nd (q7u B.b_list (q0a (q0h (dv 6) q0d) q0c)))
  (q0e (x7u 8 (y8y (q6b 8 (dv 7))) (dv 7))
  (q0e (y2w 3 4 5 hz.1 (q3j (q0a (q6l B.b_tuple (q0a (dv 8) q0c)) (q0a (q0h (dv 6) q0d) q0c))))
  (q0g (q0z (x0a 3))))))))))),(lof q4u hw).2⟩
theorem y35  {f:Addr}{cdv:Value}{A:Around}{outer:List Env}{s:Shared}{H:Hp}{E:XK}{Z:Zt}(hr:Room n (A.deeper (PyProof.Rows.envOfC "law" (defScope q3o) s.heap.objs.size f cdv))):
  DSs Z (cxOf (CX1 P w) P w K mg base ["_law_script", "_law_machine_here", "_law_twin", "_law_order", "_law_least", "_law_numbers", "_law_found", "_law_others", "_law_k", "_law_size", "_law_padded", "_law_again", "_law_other_here"] "law" (defScope q3o) f cdv A outer s H E) (fun _=>E) (defBody q3o) (q9h K a (run K a n)):=
 (q0e (q0n 1 sc_law.nd (q0s C._law_machine hr pass1 (q0a (dv 0) (q0a q0d q0c))))
  (q0e (q92 2 3 sc_law.nd rfl (q0s C._law_twins hr pass1 (q0a (dv 0) (q0a (dv 1) q0c))))
  (q0e (q92 4 5 sc_law.nd rfl (q0s C.small hr pass1 (q0a (dv 1) q0c)))
  (q0e (q92 6 7 sc_law.nd rfl (q0s C.small hr pass1 (q0a (dv 2) q0c)))
  (q0e (q1a (dt_w (q6k (q29 (q0k hr) (q5g (q0k hr) hr.gd B.b_repr (q0a (dv 6) q0c)) (q5g (q0k hr) hr.gd B.b_repr (q0a (dv 4) q0c))) (q6k (q7a (q68 (q0s C.shows_small hr pass1 (q0a (dv 2) (q0a (dv 4) (q0a (dv 7) q0c)))))) (q69 (q7a (q68 (q0s C.shows_small hr pass1 (q0a (dv 1) (q0a (dv 6) (q0a (dv 5) q0c))))))))))
  (q0g (q0z q3n))
  q0u)
  (q0e (q4n 8 sc_law.nd PassesOwn.leaving rfl B.b_range (q0a (q1p B.b_len (q0a (dv 3) q0c)) q0c)
  (q0g (q1a (dt_w (x62 (x7h (q0h (dv 7) (dv 8)) q66) (x62 (x7h (q0h (dv 5) (q0h (dv 3) (dv 8))) q66) (y4x (q29 (q0k hr) (q0h (dv 7) (dv 8)) (q0h (dv 5) (q0h (dv 3) (dv 8))))))))
  (q0g (q0z q3n))
  q0u)))
  (q0e (q0n 9 sc_law.nd (q1p B.b_len (q0a (q0h (dv 4) q0d) q0c)))
  (q0e (q1a (x1u (dv 9) q0d)
  (q0e (q0n 10 sc_law.nd (q3j (q0a (q0h (dv 4) q0d) (q0a (q0h (dv 4) q0d) (q0a (q06 (q0h (dv 4) q0d) (q1r (q01 (q0a (q1r (q7u B.b_list (q0a (q0h (q0h (dv 4) q0d) q0d) q0c))) q0c)))) q0c)))))
  (q0g (q1a (q7a (q68 (q0s C.shows_small hr pass1 (q0a (dv 4) (q0a (dv 10) (q0a (q1r (x2w rfl B.b_list B.b_range (q0a (dv 9) q0c))) q0c))))))
  (q0g (q0z q3n))
  q0u)))
  q0u)
  (q0e (q0n 11 sc_law.nd (q0s C.small hr pass1 (q0a (dv 4) q0c)))
  (q0e (q1a (dt_w (q6k (q29 (q0k hr) (q5g (q0k hr) hr.gd B.b_repr (q0a (q0h (dv 11) q0d) q0c)) (q5g (q0k hr) hr.gd B.b_repr (q0a (dv 4) q0c))) (q69 (q29 (q0k hr) (q0h (dv 11) q0d) (q1r (x2w rfl B.b_list B.b_range (q0a (q1p B.b_len (q0a (q0h (dv 4) q0d) q0c)) q0c)))))))
  (q0g (q0z q3n))
  q0u)
  (q0e (q1a (q5x (q0k hr) (q0h (dv 1) q0d) q0d)
  (q0g (q0z q3n))
  q0u)
  (q0e (q0n 12 sc_law.nd (q0s C._law_other hr pass1 (q0a (dv 1) (q0a (q0s C._law_come_to hr pass1 (q0a (q0h (dv 1) q0d) q0c)) (q0a (q0s C._law_cell_at hr pass1 (q0a (dv 0) (q0a q0d q0c))) q0c)))))
  (q0g (q0z (z2t (q0k hr) (q5g (q0k hr) hr.gd B.b_repr (q0a (q0h (q0s C.small hr pass1 (q0a (dv 12) q0c)) q0d) q0c)) (q5g (q0k hr) hr.gd B.b_repr (q0a (dv 4) q0c)))))))))))))))))
theorem z1q  (A:Ats K mg):Cal P w K mg base (n+1) "law" ["_law_script"] (spF K (run K a (n+1) q7x)):=
 con A.law sc_law (fun ws hw=>(lof q6f hw).1) fun ws hw f cdv A outer s H E Z hr=>⟨_,y35 B M C CH BM MK hr,(lof q6f hw).2⟩
end
theorem allH(A:Ats K mg)(B:Blt mg)(M:Exs K mg a):∀n,CalsH P w K mg base a n
 |0=>⟨trivial⟩
 |n+1=>⟨trivial⟩
theorem x38(B:Blt mg)(M:Exs K mg a)(C:Cals P w K mg base a n)(CH:CalsH P w K mg base a n):LamOk P w K mg base n q34 ["kind"] (run K a (n+1) q3p) where
 sc:=⟨rfl,rfl,rfl,by decide +kernel,by decide +kernel,by decide +kernel,by decide +kernel⟩
 bind:=fun cl pm c' ctv=>us1 fun _=>rfl
 len:=fun ws h=>by
  rw[q4i]at h;split at h
  ·assumption
  ·exact absurd rfl h
 body:=fun ws h Z f cd cl A outer s H hr=>⟨q3r K a (run K a n),(q0s C.pairs_of_kind hr passE (q0a (dv 1) (q0a (dv 2) (q0a (dv 0) q0c)))),by
  rw[q4i]at h |-;split at h
  ·rename_i hl;rw[if_pos hl]
  ·exact absurd rfl h⟩
theorem x39(B:Blt mg)(M:Exs K mg a)(C:Cals P w K mg base a n)(CH:CalsH P w K mg base a n):LamOk P w K mg base n q35 ["place"] (run K a (n+1) q3q) where
 sc:=⟨rfl,rfl,rfl,by decide +kernel,by decide +kernel,by decide +kernel,by decide +kernel⟩
 bind:=fun cl pm c' ctv=>us1 fun _=>rfl
 len:=fun ws h=>by
  rw[q4j]at h;split at h
  ·assumption
  ·exact absurd rfl h
 body:=fun ws h Z f cd cl A outer s H hr=>⟨q3s K a (run K a n),(q0h (dv 1) (dv 0)),by
  rw[q4j]at h |-;split at h
  ·rename_i hl;rw[if_pos hl]
  ·exact absurd rfl h⟩
theorem okl(B:Blt mg)(M:Exs K mg a)(C:Cals P w K mg base a n)(CH:CalsH P w K mg base a n):FnV P w K mg base (CX1 P w) (n+1) (spV K lams (run K a (n+1))):=z1g fun i l h=>by
 unfold lams at h;split at h
 ·cases h;exact⟨_,x38 B M C CH⟩
 ·cases h;exact⟨_,x39 B M C CH⟩
 ·cases h
theorem all(A:Ats K mg)(B:Blt mg)(M:Exs K mg a)(BM:BMain base mg)(MK:Mks K mg):∀n,Cals P w K mg base a n
 |0=>⟨con0 A.rows_many,con0 A.check_machine,con0 A.is_state,con0 A.come_to,con0 A.kinds_by_length,con0 A.finer_kinds,con0 A.small,con0 A.pairs_of_kind,con0 A.shows_small,con0 A.goes_as,con0 A._law_cell_at,con0 A._law_mixed,con0 A._law_row,con0 A._law_rows_of,con0 A._law_machine,con0 A._law_copy,con0 A._law_come_to,con0 A._law_twins,con0 A._law_other,con0 A.law,fnV0⟩
 |n+1=>⟨x28 B M (all A B M BM MK n) (allH A B M n) BM MK A,q8o B M (all A B M BM MK n) (allH A B M n) BM MK A,x36 B M (all A B M BM MK n) (allH A B M n) BM MK A,x57 B M (all A B M BM MK n) (allH A B M n) BM MK A,q7k B M (all A B M BM MK n) (allH A B M n) BM MK A,x0c B M (all A B M BM MK n) (allH A B M n) BM MK A,y2y B M (all A B M BM MK n) (allH A B M n) BM MK A,q8p B M (all A B M BM MK n) (allH A B M n) BM MK A,x0d B M (all A B M BM MK n) (allH A B M n) BM MK A,x58 B M (all A B M BM MK n) (allH A B M n) BM MK A,q9i B M (all A B M BM MK n) (allH A B M n) BM MK A,x1q B M (all A B M BM MK n) (allH A B M n) BM MK A,x37 B M (all A B M BM MK n) (allH A B M n) BM MK A,q9j B M (all A B M BM MK n) (allH A B M n) BM MK A,q9k B M (all A B M BM MK n) (allH A B M n) BM MK A,x29 B M (all A B M BM MK n) (allH A B M n) BM MK A,q9l B M (all A B M BM MK n) (allH A B M n) BM MK A,x1r B M (all A B M BM MK n) (allH A B M n) BM MK A,x1s B M (all A B M BM MK n) (allH A B M n) BM MK A,z1q B M (all A B M BM MK n) (allH A B M n) BM MK A,okl B M (all A B M BM MK n) (allH A B M n)⟩
theorem law_fn{f:Addr}{fd:FuncData}(A:Ats K mg)(B:Blt mg)(M:Exs K mg a)(BM:BMain base mg)(MK:Mks K mg)(F:Fun K "law" "law" q3o f fd)(n:Nat):FnOk P w K mg base (CX1 P w) (n+1) f fd ["_law_script"] (spF K (run K a (n+1) q7x)):=
 conF F sc_law (fun ws hw=>(lof q6f hw).1) fun ws hw cdv A' outer s H E Z hr=>⟨_,y35 B M (all A B M BM MK n) (allH A B M n) BM MK hr,(lof q6f hw).2⟩
end
theorem mk{l:PySem.W.OpenLaw}{w:World}{h:Heap}{fa:Addr}(X:K.In h)(G:h.Ns mainGlobals mg)(hfa:mg "law"=some (.ref fa))
  {f0:Addr}{od0 an0:Option Addr}{sl0:Array (Option Value)}{oc0 kV0 dc0 pm0 cd0 ct0:Value}
  {f1:Addr}{od1 an1:Option Addr}{sl1:Array (Option Value)}{oc1 kV1 dc1 pm1 cd1 ct1:Value}
  {f2:Addr}{od2 an2:Option Addr}{sl2:Array (Option Value)}{oc2 kV2 dc2 pm2 cd2 ct2:Value}
  {f3:Addr}{od3 an3:Option Addr}{sl3:Array (Option Value)}{oc3 kV3 dc3 pm3 cd3 ct3:Value}
  {f4:Addr}{od4 an4:Option Addr}{sl4:Array (Option Value)}{oc4 kV4 dc4 pm4 cd4 ct4:Value}
  {f5:Addr}{od5 an5:Option Addr}{sl5:Array (Option Value)}{oc5 kV5 dc5 pm5 cd5 ct5:Value}
  {f6:Addr}{od6 an6:Option Addr}{sl6:Array (Option Value)}{oc6 kV6 dc6 pm6 cd6 ct6:Value}
  {f7:Addr}{od7 an7:Option Addr}{sl7:Array (Option Value)}{oc7 kV7 dc7 pm7 cd7 ct7:Value}
  {f8:Addr}{od8 an8:Option Addr}{sl8:Array (Option Value)}{oc8 kV8 dc8 pm8 cd8 ct8:Value}
  {f9:Addr}{od9 an9:Option Addr}{sl9:Array (Option Value)}{oc9 kV9 dc9 pm9 cd9 ct9:Value}
  {f10:Addr}{od10 an10:Option Addr}{sl10:Array (Option Value)}{oc10 kV10 dc10 pm10 cd10 ct10:Value}
  {f11:Addr}{od11 an11:Option Addr}{sl11:Array (Option Value)}{oc11 kV11 dc11 pm11 cd11 ct11:Value}
  {f12:Addr}{od12 an12:Option Addr}{sl12:Array (Option Value)}{oc12 kV12 dc12 pm12 cd12 ct12:Value}
  {f13:Addr}{od13 an13:Option Addr}{sl13:Array (Option Value)}{oc13 kV13 dc13 pm13 cd13 ct13:Value}
  {f14:Addr}{od14 an14:Option Addr}{sl14:Array (Option Value)}{oc14 kV14 dc14 pm14 cd14 ct14:Value}
  {f15:Addr}{od15 an15:Option Addr}{sl15:Array (Option Value)}{oc15 kV15 dc15 pm15 cd15 ct15:Value}
  {f16:Addr}{od16 an16:Option Addr}{sl16:Array (Option Value)}{oc16 kV16 dc16 pm16 cd16 ct16:Value}
  {f17:Addr}{od17 an17:Option Addr}{sl17:Array (Option Value)}{oc17 kV17 dc17 pm17 cd17 ct17:Value}
  {f18:Addr}{od18 an18:Option Addr}{sl18:Array (Option Value)}{oc18 kV18 dc18 pm18 cd18 ct18:Value}
  {f19:Addr}{od19 an19:Option Addr}{sl19:Array (Option Value)}{oc19 kV19 dc19 pm19 cd19 ct19:Value}
  {A_CircuitError:Addr}
  {A_NoMachine:Addr}
  {cc6 PP6:Addr}
  (a0:PySem.W.nsIn K mainGlobals "rows_many"=some (some (.ref f0)))
  (l0:K.lookup f0=some ⟨oc0,od0,.func (PySem.W.fnOf "rows_many" "rows_many" (defArgs q2c) (defBody q2c) (defScope q2c) .none kV0 dc0 pm0 an0 cd0 ct0),sl0⟩)
  (c0:PySem.W.codeIn K cd0 "rows_many"=true)
  (k0:keepIn K (.ref f0)=true)
  (a1:PySem.W.nsIn K mainGlobals "check_machine"=some (some (.ref f1)))
  (l1:K.lookup f1=some ⟨oc1,od1,.func (PySem.W.fnOf "check_machine" "check_machine" (defArgs q1e) (defBody q1e) (defScope q1e) .none kV1 dc1 pm1 an1 cd1 ct1),sl1⟩)
  (c1:PySem.W.codeIn K cd1 "check_machine"=true)
  (k1:keepIn K (.ref f1)=true)
  (a2:PySem.W.nsIn K mainGlobals "is_state"=some (some (.ref f2)))
  (l2:K.lookup f2=some ⟨oc2,od2,.func (PySem.W.fnOf "is_state" "is_state" (defArgs q2o) (defBody q2o) (defScope q2o) .none kV2 dc2 pm2 an2 cd2 ct2),sl2⟩)
  (c2:PySem.W.codeIn K cd2 "is_state"=true)
  (k2:keepIn K (.ref f2)=true)
  (a3:PySem.W.nsIn K mainGlobals "come_to"=some (some (.ref f3)))
  (l3:K.lookup f3=some ⟨oc3,od3,.func (PySem.W.fnOf "come_to" "come_to" (defArgs q25) (defBody q25) (defScope q25) .none kV3 dc3 pm3 an3 cd3 ct3),sl3⟩)
  (c3:PySem.W.codeIn K cd3 "come_to"=true)
  (k3:keepIn K (.ref f3)=true)
  (a4:PySem.W.nsIn K mainGlobals "kinds_by_length"=some (some (.ref f4)))
  (l4:K.lookup f4=some ⟨oc4,od4,.func (PySem.W.fnOf "kinds_by_length" "kinds_by_length" (defArgs q02) (defBody q02) (defScope q02) .none kV4 dc4 pm4 an4 cd4 ct4),sl4⟩)
  (c4:PySem.W.codeIn K cd4 "kinds_by_length"=true)
  (k4:keepIn K (.ref f4)=true)
  (a5:PySem.W.nsIn K mainGlobals "finer_kinds"=some (some (.ref f5)))
  (l5:K.lookup f5=some ⟨oc5,od5,.func (PySem.W.fnOf "finer_kinds" "finer_kinds" (defArgs q1h) (defBody q1h) (defScope q1h) .none kV5 dc5 pm5 an5 cd5 ct5),sl5⟩)
  (c5:PySem.W.codeIn K cd5 "finer_kinds"=true)
  (k5:keepIn K (.ref f5)=true)
  (a6:PySem.W.nsIn K mainGlobals "small"=some (some (.ref f6)))
  (l6:K.lookup f6=some ⟨oc6,od6,.func (PySem.W.fnOf "small" "small" (defArgs q2g) (defBody q2g) (defScope q2g) .none kV6 dc6 pm6 an6 cd6 ct6),sl6⟩)
  (c6:PySem.W.codeIn K cd6 "small"=true)
  (k6:keepIn K (.ref f6)=true)
  (a7:PySem.W.nsIn K mainGlobals "pairs_of_kind"=some (some (.ref f7)))
  (l7:K.lookup f7=some ⟨oc7,od7,.func (PySem.W.fnOf "pairs_of_kind" "pairs_of_kind" (defArgs q03) (defBody q03) (defScope q03) .none kV7 dc7 pm7 an7 cd7 ct7),sl7⟩)
  (c7:PySem.W.codeIn K cd7 "pairs_of_kind"=true)
  (k7:keepIn K (.ref f7)=true)
  (a8:PySem.W.nsIn K mainGlobals "shows_small"=some (some (.ref f8)))
  (l8:K.lookup f8=some ⟨oc8,od8,.func (PySem.W.fnOf "shows_small" "shows_small" (defArgs q04) (defBody q04) (defScope q04) .none kV8 dc8 pm8 an8 cd8 ct8),sl8⟩)
  (c8:PySem.W.codeIn K cd8 "shows_small"=true)
  (k8:keepIn K (.ref f8)=true)
  (a9:PySem.W.nsIn K mainGlobals "goes_as"=some (some (.ref f9)))
  (l9:K.lookup f9=some ⟨oc9,od9,.func (PySem.W.fnOf "goes_as" "goes_as" (defArgs q26) (defBody q26) (defScope q26) .none kV9 dc9 pm9 an9 cd9 ct9),sl9⟩)
  (c9:PySem.W.codeIn K cd9 "goes_as"=true)
  (k9:keepIn K (.ref f9)=true)
  (a10:PySem.W.nsIn K mainGlobals "_law_cell_at"=some (some (.ref f10)))
  (l10:K.lookup f10=some ⟨oc10,od10,.func (PySem.W.fnOf "_law_cell_at" "_law_cell_at" (defArgs q1i) (defBody q1i) (defScope q1i) .none kV10 dc10 pm10 an10 cd10 ct10),sl10⟩)
  (c10:PySem.W.codeIn K cd10 "_law_cell_at"=true)
  (k10:keepIn K (.ref f10)=true)
  (a11:PySem.W.nsIn K mainGlobals "_law_mixed"=some (some (.ref f11)))
  (l11:K.lookup f11=some ⟨oc11,od11,.func (PySem.W.fnOf "_law_mixed" "_law_mixed" (defArgs q10) (defBody q10) (defScope q10) .none kV11 dc11 pm11 an11 cd11 ct11),sl11⟩)
  (c11:PySem.W.codeIn K cd11 "_law_mixed"=true)
  (k11:keepIn K (.ref f11)=true)
  (a12:PySem.W.nsIn K mainGlobals "_law_row"=some (some (.ref f12)))
  (l12:K.lookup f12=some ⟨oc12,od12,.func (PySem.W.fnOf "_law_row" "_law_row" (defArgs q2p) (defBody q2p) (defScope q2p) .none kV12 dc12 pm12 an12 cd12 ct12),sl12⟩)
  (c12:PySem.W.codeIn K cd12 "_law_row"=true)
  (k12:keepIn K (.ref f12)=true)
  (a13:PySem.W.nsIn K mainGlobals "_law_rows_of"=some (some (.ref f13)))
  (l13:K.lookup f13=some ⟨oc13,od13,.func (PySem.W.fnOf "_law_rows_of" "_law_rows_of" (defArgs q1j) (defBody q1j) (defScope q1j) .none kV13 dc13 pm13 an13 cd13 ct13),sl13⟩)
  (c13:PySem.W.codeIn K cd13 "_law_rows_of"=true)
  (k13:keepIn K (.ref f13)=true)
  (a14:PySem.W.nsIn K mainGlobals "_law_machine"=some (some (.ref f14)))
  (l14:K.lookup f14=some ⟨oc14,od14,.func (PySem.W.fnOf "_law_machine" "_law_machine" (defArgs q1k) (defBody q1k) (defScope q1k) .none kV14 dc14 pm14 an14 cd14 ct14),sl14⟩)
  (c14:PySem.W.codeIn K cd14 "_law_machine"=true)
  (k14:keepIn K (.ref f14)=true)
  (a15:PySem.W.nsIn K mainGlobals "_law_copy"=some (some (.ref f15)))
  (l15:K.lookup f15=some ⟨oc15,od15,.func (PySem.W.fnOf "_law_copy" "_law_copy" (defArgs q1s) (defBody q1s) (defScope q1s) .none kV15 dc15 pm15 an15 cd15 ct15),sl15⟩)
  (c15:PySem.W.codeIn K cd15 "_law_copy"=true)
  (k15:keepIn K (.ref f15)=true)
  (a16:PySem.W.nsIn K mainGlobals "_law_come_to"=some (some (.ref f16)))
  (l16:K.lookup f16=some ⟨oc16,od16,.func (PySem.W.fnOf "_law_come_to" "_law_come_to" (defArgs q1l) (defBody q1l) (defScope q1l) .none kV16 dc16 pm16 an16 cd16 ct16),sl16⟩)
  (c16:PySem.W.codeIn K cd16 "_law_come_to"=true)
  (k16:keepIn K (.ref f16)=true)
  (a17:PySem.W.nsIn K mainGlobals "_law_twins"=some (some (.ref f17)))
  (l17:K.lookup f17=some ⟨oc17,od17,.func (PySem.W.fnOf "_law_twins" "_law_twins" (defArgs q1f) (defBody q1f) (defScope q1f) .none kV17 dc17 pm17 an17 cd17 ct17),sl17⟩)
  (c17:PySem.W.codeIn K cd17 "_law_twins"=true)
  (k17:keepIn K (.ref f17)=true)
  (a18:PySem.W.nsIn K mainGlobals "_law_other"=some (some (.ref f18)))
  (l18:K.lookup f18=some ⟨oc18,od18,.func (PySem.W.fnOf "_law_other" "_law_other" (defArgs q11) (defBody q11) (defScope q11) .none kV18 dc18 pm18 an18 cd18 ct18),sl18⟩)
  (c18:PySem.W.codeIn K cd18 "_law_other"=true)
  (k18:keepIn K (.ref f18)=true)
  (a19:PySem.W.nsIn K mainGlobals "law"=some (some (.ref f19)))
  (l19:K.lookup f19=some ⟨oc19,od19,.func (PySem.W.fnOf "law" "law" (defArgs q3o) (defBody q3o) (defScope q3o) .none kV19 dc19 pm19 an19 cd19 ct19),sl19⟩)
  (c19:PySem.W.codeIn K cd19 "law"=true)
  (k19:keepIn K (.ref f19)=true)
  (v6:cd6=.ref cc6)
  (h6:codeHdIn K cc6 PP6=true)
  (m6:(mainGlobals,markO PP6 (("small"++".<locals>.")++"<lambda>"))∈K)
  (n_CircuitError:PySem.W.nsIn K mainGlobals "CircuitError"=some (some (.ref A_CircuitError)))
  (n_NoMachine:PySem.W.nsIn K mainGlobals "NoMachine"=some (some (.ref A_NoMachine)))
  (z_all:PySem.W.nsIn K mainGlobals "all"=some none)
  (z_int:PySem.W.nsIn K mainGlobals "int"=some none)
  (z_len:PySem.W.nsIn K mainGlobals "len"=some none)
  (z_list:PySem.W.nsIn K mainGlobals "list"=some none)
  (z_max:PySem.W.nsIn K mainGlobals "max"=some none)
  (z_min:PySem.W.nsIn K mainGlobals "min"=some none)
  (z_range:PySem.W.nsIn K mainGlobals "range"=some none)
  (z_repr:PySem.W.nsIn K mainGlobals "repr"=some none)
  (z_tuple:PySem.W.nsIn K mainGlobals "tuple"=some none)
  (z_zip:PySem.W.nsIn K mainGlobals "zip"=some none)
  (nt:NoTup K)
  (n:Nat)(hL:∀a:Adr,Exs K mg a->∀ns:List Int,ns.length<=63->run K a (n+1) q7x [.lst (ns.map .int)]=.ok (.fr (.bl true))):
  ∃fd:FuncData,(∀(s:Shared)(v:Value),BindsTo s fd ⟨[v],[]⟩ [("_law_script", v)])/\∀base:Heap,K.In base->base.Ns mainGlobals mg->BMain base mg->FnOk l.prog w K mg base (CX1 l.prog w) (n+1) fa fd ["_law_script"] (spLaw K):=by
 have e:=hfa.symm.trans (mg_of X G a19);cases e
 have A:Ats K mg:=⟨⟨⟨_,_,q0m (st:=q2c) l0 c0 k0,mg_of X G a0,(q0m (st:=q2c) l0 c0 k0).binds (ps:=["many"]) fun _ _ _ _ _ _=>us1 fun _=>rfl⟩⟩,
  ⟨⟨_,_,q0m (st:=q1e) l1 c1 k1,mg_of X G a1,(q0m (st:=q1e) l1 c1 k1).binds (ps:=["machine"]) fun _ _ _ _ _ _=>us1 fun _=>rfl⟩⟩,
  ⟨⟨_,_,q0m (st:=q2o) l2 c2 k2,mg_of X G a2,(q0m (st:=q2o) l2 c2 k2).binds (ps:=["machine", "number"]) fun _ _ _ _ _ _=>us2 fun _ _=>rfl⟩⟩,
  ⟨⟨_,_,q0m (st:=q25) l3 c3 k3,mg_of X G a3,(q0m (st:=q25) l3 c3 k3).binds (ps:=["begin", "pairs_of"]) fun _ _ _ _ _ _=>us2 fun _ _=>rfl⟩⟩,
  ⟨⟨_,_,q0m (st:=q02) l4 c4 k4,mg_of X G a4,(q0m (st:=q02) l4 c4 k4).binds (ps:=["states"]) fun _ _ _ _ _ _=>us1 fun _=>rfl⟩⟩,
  ⟨⟨_,_,q0m (st:=q1h) l5 c5 k5,mg_of X G a5,(q0m (st:=q1h) l5 c5 k5).binds (ps:=["states", "kinds"]) fun _ _ _ _ _ _=>us2 fun _ _=>rfl⟩⟩,
  ⟨⟨_,_,q0m (st:=q2g) l6 c6 k6,mg_of X G a6,(q0m (st:=q2g) l6 c6 k6).binds (ps:=["machine"]) fun _ _ _ _ _ _=>us1 fun _=>rfl⟩⟩,
  ⟨⟨_,_,q0m (st:=q03) l7 c7 k7,mg_of X G a7,(q0m (st:=q03) l7 c7 k7).binds (ps:=["states", "kinds", "kind"]) fun _ _ _ _ _ _=>us3 fun _ _ _=>rfl⟩⟩,
  ⟨⟨_,_,q0m (st:=q04) l8 c8 k8,mg_of X G a8,(q0m (st:=q04) l8 c8 k8).binds (ps:=["machine", "other", "numbers"]) fun _ _ _ _ _ _=>us3 fun _ _ _=>rfl⟩⟩,
  ⟨⟨_,_,q0m (st:=q26) l9 c9 k9,mg_of X G a9,(q0m (st:=q26) l9 c9 k9).binds (ps:=["state", "other", "numbers", "number"]) fun _ _ _ _ _ _=>us4 fun _ _ _ _=>rfl⟩⟩,
  ⟨⟨_,_,q0m (st:=q1i) l10 c10 k10,mg_of X G a10,(q0m (st:=q1i) l10 c10 k10).binds (ps:=["_law_script", "_law_k"]) fun _ _ _ _ _ _=>us2 fun _ _=>rfl⟩⟩,
  ⟨⟨_,_,q0m (st:=q10) l11 c11 k11,mg_of X G a11,(q0m (st:=q10) l11 c11 k11).binds (ps:=["_law_cell", "_law_k"]) fun _ _ _ _ _ _=>us2 fun _ _=>rfl⟩⟩,
  ⟨⟨_,_,q0m (st:=q2p) l12 c12 k12,mg_of X G a12,(q0m (st:=q2p) l12 c12 k12).binds (ps:=["_law_number", "_law_many"]) fun _ _ _ _ _ _=>us2 fun _ _=>rfl⟩⟩,
  ⟨⟨_,_,q0m (st:=q1j) l13 c13 k13,mg_of X G a13,(q0m (st:=q1j) l13 c13 k13).binds (ps:=["_law_many"]) fun _ _ _ _ _ _=>us1 fun _=>rfl⟩⟩,
  ⟨⟨_,_,q0m (st:=q1k) l14 c14 k14,mg_of X G a14,(q0m (st:=q1k) l14 c14 k14).binds (ps:=["_law_script", "_law_at"]) fun _ _ _ _ _ _=>us2 fun _ _=>rfl⟩⟩,
  ⟨⟨_,_,q0m (st:=q1s) l15 c15 k15,mg_of X G a15,(q0m (st:=q1s) l15 c15 k15).binds (ps:=["_law_machine_here"]) fun _ _ _ _ _ _=>us1 fun _=>rfl⟩⟩,
  ⟨⟨_,_,q0m (st:=q1l) l16 c16 k16,mg_of X G a16,(q0m (st:=q1l) l16 c16 k16).binds (ps:=["_law_states"]) fun _ _ _ _ _ _=>us1 fun _=>rfl⟩⟩,
  ⟨⟨_,_,q0m (st:=q1f) l17 c17 k17,mg_of X G a17,(q0m (st:=q1f) l17 c17 k17).binds (ps:=["_law_script", "_law_machine_here"]) fun _ _ _ _ _ _=>us2 fun _ _=>rfl⟩⟩,
  ⟨⟨_,_,q0m (st:=q11) l18 c18 k18,mg_of X G a18,(q0m (st:=q11) l18 c18 k18).binds (ps:=["_law_machine_here", "_law_there", "_law_cell"]) fun _ _ _ _ _ _=>us3 fun _ _ _=>rfl⟩⟩,
  ⟨⟨_,_,q0m (st:=q3o) l19 c19 k19,mg_of X G a19,(q0m (st:=q3o) l19 c19 k19).binds (ps:=["_law_script"]) fun _ _ _ _ _ _=>us1 fun _=>rfl⟩⟩⟩
 have B:Blt mg:=⟨mg_none_of X G z_all,mg_none_of X G z_int,mg_none_of X G z_len,mg_none_of X G z_list,mg_none_of X G z_max,mg_none_of X G z_min,mg_none_of X G z_range,mg_none_of X G z_repr,mg_none_of X G z_tuple,mg_none_of X G z_zip⟩;have M:Exs K mg ⟨A_CircuitError,A_NoMachine⟩:=⟨trivial,mg_of X G n_CircuitError,mg_of X G n_NoMachine,nt⟩
 have MK:Mks K mg:=⟨fun f oc od fd sl e1 e2=>by
  have z:=(mg_of X G a6).symm.trans e1;cases z;rw[l6]at e2;cases e2;exact⟨cc6,PP6,_,v6,h6,m6⟩⟩
 exact⟨_,fun s v=>.of_eq rfl,fun base _ _ BM=>(law_fn A B M BM MK (q0m (st:=q3o) l19 c19 k19) n).imp fun vs H Q E q=>y0h (hL _ M) q⟩
local macro_rules | `(tactic| walk_at "den") => do
 let l:=(("x1b y2x y2p y2q y1y x8u y1z y1w y1x y65 y62 y63 y64 y1r y1s z1f z4a y6t y6u y6v z1a y6x x8l y1n y0j y1h y6e y6f y6g y6h y1e x8f x8g x8b x5z x8c x8d x50 x51 x52 x32 y1c x8e y1d y6c y6d y6a y1a y6b z03 z01 y06 y07 y08 y09 z0t y0u y0v x7v x7w y55 z0u z0v y56 y0x y0y y0z y00 y01 y02 x7z z0w x5x y03 y04 x7j y9c y9d y9e y9f y9g y9h y48 q6d y45 y46 y0i y89 y9a y9b y47 z2x z2y z2z z20 y9i q86 x5t x7k x7l y9j y5b dC_s z21 z22 y5c y5d y9k y9l z23 y9m y5e y9n y9o z24 y5f y9p y9q y5g y9r y9s y31 z25 y5h z26 z27 y5i y9t y5j y5k y5l y9u y9v y9w x4l y5n y5o y0m y5p y5q y0n x7m y0o x7n y9x y5r x7o q9z y5s y5t y5u y5v y5w y0p y9y x7p z28 y92 y93 y94 y5x y95 z3a z3b y5y y5z y0q x5u x5v y96 y0r x7q y50 y0s y97 y98 y99 z0a z0b y51 z0c z3c z3d z3e z3f z3g z3h z3i z3j z3k ne_bb z3l z3m z3n z3o z3p z3q z3r z0d z0e z0f z0g z0h z0i z0j ix_t ix_l z3s z3t z3u z3v z3w z3x z3y z3z z30 z31 z32 z33 z34 sc_i sc_b sc_s sc_n sl_l at0 at1 at2 z0l rng1 rng2 init Option.map_some Option.bind_some List.map_cons List.map_nil List.length_cons List.length_nil List.replicate_succ List.replicate_zero List.cons_append List.nil_append List.getElem?_cons_zero List.getElem?_cons_succ List.set_cons_zero List.set_cons_succ if_true if_false decide_eq_true_eq reduceIte Bool.false_eq_true ite_true ite_false Nat.reduceSub Nat.reduceAdd Nat.reduceLeDiff Nat.zero_add Nat.le_refl Int.reduceLT Int.reduceLE Int.reduceNeg true_and and_true true_or or_true false_and and_false false_or or_false not_true_eq_false not_false_eq_true decide_true decide_false Bool.not_true Bool.not_false String.reduceEq Nat.reduceEqDiff y0t z0r z0s z35 z36 Int.reduceToNat Int.reducePow Nat.reduceLT cast0 cast1 Int.reduceEq Int.reduceMod Int.reduceDiv Int.reduceAdd Int.reduceSub Int.reduceMul z4d y2t y7o y7p y0l y7a y17 y7b y7d z1k y7e z1l z1m y7f y7g y18 y19 y2a x8x y7i q6q x8y y2b y2c y2d y2e y2f x8z y49 y5a y9z y90 y91 z29 y0k y7k y7l y7m y2j y2k y2l y2m y2n y7n y5m y7q y2u z1o z1p True.intro".splitOn " ").map fun s=>Lean.mkIdent s.toName).toArray
 `(tactic| try simp only [$[$l:ident],*])
theorem q4v(n:Nat)(ns:List Int){k:Int}(hk:0<=k):run K a (n+1) q0t [.lst (ns.map .int),.int k]=.ok (.fr (.int (ns.getD k.toNat 0))):=by
 rw[q3x];unfold q3a;walk_at "den"
 by_cases h:k<ns.length
 ·rw[if_pos (by simpa using h),z0k hk]
  have e:(ns.map W.int)[k.toNat]?=some (.int (ns.getD k.toNat 0)):=by
   have:k.toNat<ns.length:=by omega
   simp[List.getD,this]
  rw[e];walk_at "den"
 ·rw[if_neg (by simpa using h)]
  have:ns.getD k.toNat 0=0:=by
   have:¬k.toNat<ns.length:=by omega
   simp[List.getD,this]
  rw[this]
theorem x4z{i:Nat}{b:List S->SR}(I:Nat->List S->Prop):∀(ws:List W)(k:Nat)(e:List S),I k e->(∀(j:Nat)(w:W)(e:List S),w∈ws->I j e->∃e',b (e.set i (.fr w))=.nx e'/\I (j+1) e')->∃e',forD i b ws e=.nx e'/\I (k+ws.length) e'
 |[],k,e,h0,_=>⟨e,rfl,h0⟩
 |w::ws,k,e,h0,h=>by
  obtain⟨e1,h1,h2⟩:=h k w e (by simp) h0;obtain⟨e2,h3,h4⟩:=x4z I ws (k+1) e1 h2 fun j u e hu=>h j u e (by simp[hu])
  refine⟨e2,?_,?_⟩
  ·rw[x2n,h1,q9z,h3]
  ·rw[w0z];have:k+1+ws.length=k+(ws.length+1):=by omega
   rw[<- this];exact h4
theorem len_range{lo hi:Int}:(rangeW lo hi).length=(hi-lo).toNat:=by simp[rangeW]
def mix2(c k:Int):Int:=((c+7919*k)*48271%2147483647*((c+7919*k)*48271%2147483647)+7*((c+7919*k)*48271%2147483647)+k)%2147483629
theorem q5u(n:Nat)(c k:Int):run K a (n+1) q1d [.int c,.int k]=.ok (.fr (.int (mix2 c k))):=by
 rw[q4s];unfold q4c;walk_at "den";rw[if_pos (by omega)];rfl
theorem y2z(n:Nat)(c:Int)(m:Nat)(hm:m<=1000):∃bs:List Bool,run K a (n+1) q38 [.int c,.int (m:Int)]=.ok (.fr (.tup (bs.map .bl)))/\bs.length=m:=by
 rw[q5t];unfold q5d;walk_at "den";rw[if_pos (q2t (by omega) (by omega))];walk_at "den"
 obtain⟨e',h2,bs,c',z,rfl,hl⟩:=q2m (b:=q5s K a (run K a n)) (i:=3) (lo:=0) (hi:=(m:Int)) m (by omega) (fun j e=>∃(bs:List Bool)(c':Int)(z:S),e=[.fr (.int c'),.fr (.int (m:Int)),.own none (bs.map .bl),z]/\bs.length=j) [.fr (.int c),.fr (.int (m:Int)),.own none [],.no] ⟨[],_,_,rfl,rfl⟩ (by
  rintro j e hj ⟨bs,c',z,rfl,hl⟩;unfold q5s;walk_at "den";rw[if_pos (by rw[w0a];omega)];walk_at "den";exact⟨_,rfl,bs++[_],_,_,by rw[w0n];rfl,by simp[hl]⟩)
 rw[h2];walk_at "den";exact⟨bs.reverse,by rw[List.map_reverse],by simpa using hl⟩
def encB(bs:List Bool):W:=.tup (bs.map .bl)
noncomputable abbrev Pr:=List Bool×Nat
structure Mc where
 m:Nat
 wide:Nat
 states:List (List Pr)
structure Mc.Ok(c:Mc):Prop where
 few:c.m<=3
 wd:c.wide<=12
 pos:0<c.states.length
 most:c.states.length<=20
 st:∀s∈c.states,s.length=2^c.m
 pr:∀s∈c.states,∀p∈s,p.1.length=c.wide/\p.2<c.states.length
def bN1(b:Bool):Nat:=if b=true then 1 else 0
def numF(row:List Bool):Nat:=row.foldl (fun n b=>2*n+bN1 b) 0
def Mc.at(c:Mc)(s:Nat)(row:List Bool):Pr:=(c.states.getD s []).getD (numF row) ([],0)
theorem x1c{l:List α}(h:j<l.length):l.take (j+1)=l.take j++[l[j]]:=by
 rw[List.take_add_one,w0c h];rfl
theorem y7r{size base goal v:Int}(h1:0<base)(h2:base<=size)(h3:0<=goal)(h4:goal<base):0<(size-1-goal) / base+1/\0<=goal+base*(v%((size-1-goal) / base+1))/\goal+base*(v%((size-1-goal) / base+1))<size:=by
 have q0:0<=(size-1-goal) / base:=Int.ediv_nonneg (by omega) (by omega);have q1:base*((size-1-goal) / base)<=size-1-goal:=Int.mul_ediv_self_le (by omega);generalize (size-1-goal) / base=q at q0 q1;have t0:0<=v%(q+1):=w2f _ (by omega);have t1:v%(q+1)<q+1:=w2j _ (by omega);generalize v%(q+1)=t at t0 t1;have m0:0<=base*t:=Int.mul_nonneg (by omega) t0;have m1:base*t<=base*q:=Int.mul_le_mul_of_nonneg_left (by omega) (by omega);exact⟨by omega,by omega,by omega⟩
def encPr(p:Pr):W:=.tup [encB p.1,.int (p.2:Int)]
def encSt(s:List Pr):W:=.lst (s.map encPr)
def encMc(c:Mc):W:=.tup [.int (c.m:Int),.int (c.wide:Int),.lst (c.states.map encSt)]
theorem y20(n m:Nat)(hm:m<=100):run K a (n+1) q3k [.int (m:Int)]=.ok (.fr (.int ((2^m:Nat):Int))):=by
 rw[q49];unfold q4y;walk_at "den";rw[if_pos (q2t (by omega) (by omega))];walk_at "den"
 obtain⟨e',h2,z,rfl⟩:=q2m (b:=q48 K a (run K a n)) (i:=2) (lo:=0) (hi:=(m:Int)) m (by omega) (fun j e=>∃z,e=[.fr (.int (m:Int)),.fr (.int ((2^j:Nat):Int)),z]) [.fr (.int (m:Int)),.fr (.int 1),.no] ⟨.no,rfl⟩ (by
  rintro j e hj ⟨z,rfl⟩;unfold q48;walk_at "den";refine⟨_,rfl,.fr (.int (0+(j:Int))),?_⟩;rw[Nat.pow_succ,Int.natCast_mul,Int.mul_comm];rfl)
 rw[h2];walk_at "den"
theorem x4a(n:Nat)(c:Mc){s:Nat}(h:s<c.states.length):run K a (n+1) q2n [encMc c,.int (s:Int)]=.ok (.fr (.bl true)):=by
 rw[q4f];unfold q39 encMc;walk_at "den";rw[w0a,if_pos (show(0:Int)<=s by omega),decide_eq_true (show(s:Int)<(c.states.length:Int) by omega)]
theorem q42(l:List Pr):pairsW (l.map encPr)=some (l.map fun p=>(encB p.1,W.int (p.2:Int))):=by
 induction l with
 |nil=>rfl
 |cons p l ih=>
  rw[w1b,w1b];show(pairsW (l.map encPr)).map _=_;rw[ih];rfl
theorem x3a{i:Nat}{b:List S->SR}(I:List S->Prop):∀(ps:List (W×W))(e:List S),I e->(∀p∈ps,∀e,I e->∃e',b ((e.set i (.fr p.1)).set j (.fr p.2))=.nx e'/\I e')->∃e',forP i j b ps e=.nx e'/\I e'
 |[],e,h,_=>⟨e,rfl,h⟩
 |p::ps,e,h,st=>by
  obtain⟨e1,h1,h2⟩:=st p (by simp) e h;obtain⟨e2,h3,h4⟩:=x3a I ps e1 h2 (fun q hq=>st q (by simp[hq]))
  refine⟨e2,?_,h4⟩;show(b ((e.set i (.fr p.1)).set j (.fr p.2))).turnT (forP i j b ps)=_;rw[h1];exact h3
theorem q5v(c:Mc):ixW (encMc c) (.int 0)=some (.int (c.m:Int)):=rfl
theorem q4k(c:Mc):ixW (encMc c) (.int 1)=some (.int (c.wide:Int)):=rfl
theorem q2b(c:Mc):ixW (encMc c) (.int 2)=some (.lst (c.states.map encSt)):=rfl
theorem q7l(n:Nat)(c:Mc)(hc:c.Ok):run K a (n+2) q1c [encMc c]=.ok (.fr .non):=by
 rw[q3h];unfold q20;walk_at "den";rw[q2b];walk_at "den";rw[q5v];walk_at "den";rw[y20 n c.m (by have:=hc.few;omega)];walk_at "den";rw[w0a,if_neg (by have:=hc.pos;omega)];walk_at "den"
 obtain⟨e',k1,z3,z4,z5,k2⟩:=x4z (i:=3) (b:=q3g K a (run K a (n+1))) (fun _ e=>∃z3 z4 z5,e=[.fr (encMc c),.fr (.lst (c.states.map encSt)),.fr (.int ((2^c.m:Nat):Int)),z3,z4,z5]) (c.states.map encSt) 0 [.fr (encMc c),.fr (.lst (c.states.map encSt)),.fr (.int ((2^c.m:Nat):Int)),.no,.no,.no] ⟨_,_,_,rfl⟩ (by
  rintro j w e hw ⟨z3,z4,z5,rfl⟩;obtain⟨s,hs,rfl⟩:=w0k.mp hw;unfold q3g;simp only[encSt];walk_at "den";rw[w0a,hc.st s hs,if_neg (by simp)];walk_at "den";rw[q42];walk_at "den"
  obtain⟨e1,h1,z4,z5,rfl⟩:=x3a (i:=4) (j:=5) (b:=q3f K a (run K a (n+1))) (fun e=>∃z4 z5,e=[.fr (encMc c),.fr (.lst (c.states.map encSt)),.fr (.int ((2^c.m:Nat):Int)),.fr (.lst (s.map encPr)),z4,z5]) (s.map fun p=>(encB p.1,W.int (p.2:Int))) [.fr (encMc c),.fr (.lst (c.states.map encSt)),.fr (.int ((2^c.m:Nat):Int)),.fr (.lst (s.map encPr)),z4,z5] ⟨_,_,rfl⟩ (by
   rintro q hq e ⟨z4,z5,rfl⟩;obtain⟨p,hp,rfl⟩:=w0k.mp hq;obtain⟨p1,p2⟩:=hc.pr s hs p hp;unfold q3f;simp only[encB];walk_at "den";rw[q4k];walk_at "den";rw[w0a,p1,if_neg (by simp)];walk_at "den";rw[x4a n c p2];walk_at "den";exact⟨_,rfl,_,_,rfl⟩)
  rw[h1];exact⟨_,rfl,_,_,_,rfl⟩)
 rw[k1,k2];rfl
theorem q70{c:Mc}{s:Nat}(hs:s<c.states.length):atI (c.states.map encSt) (s:Int)=some (encSt (c.states.getD s [])):=by
 refine q14 ?_;rw[w0i,w0c hs];simp[List.getD,hs]
theorem y36(b:Bool)(m:Nat)(h:m<=100):repW (.lst [.bl b]) (.int (m:Int))=some (.lst ((List.replicate m b).map .bl)):=by
 rw[x72,if_pos ⟨q2t (by omega) (by omega),by simp;omega⟩,w1v];congr 2
 have:∀k:Nat,(List.replicate k [W.bl b]).flatten=(List.replicate k b).map W.bl:=fun k=>by
  induction k with
  |zero=>rfl
  |succ k ih=>rw[w1h,w1u,ih,w1h];rfl
 exact this _
theorem at4{m:Nat}(h:m<=3):atI [W.int 1,.int 2,.int 4,.int 8] (m:Int)=some (.int ((2^m:Nat):Int)):=by
 have:m=0\/m=1\/m=2\/m=3:=by omega
 rcases this with rfl|rfl|rfl|rfl<;>rfl
theorem x59(n m:Nat)(h:m<=3):run K a (n+1) q2e [.int (m:Int)]=.ok (.fr (.int ((2^m:Nat):Int))):=by
 rw[q3y];unfold q3b;walk_at "den";rw[at4 h];walk_at "den"
def mcT(c:Mc):S:=.fr (encMc c)
theorem x3b(n:Nat)(z0 z1 z2 z4 z5 z8 z12 z15:S)(kinds k num goal size base:Int)(h1:0<base)(h2:base<=size)(h3:size<=20)(h4:0<=goal)(h5:goal<base)(st:List Pr)(hl:st.length<=100)(bs:List Bool):
  ∃p:Pr,∃z,p.1.length=bs.length/\(p.2:Int)<size/\pair44 K a (run K a (n+2)) [z0,z1,z2,.fr (.int kinds),z4,z5,.fr (.int size),.fr (.int base),z8,.fr (.int k),.own none (st.map encPr),.fr (.int num),z12,.fr (.lst (bs.map .bl)),.fr (.int goal),z15] =
   .nx [z0,z1,z2,.fr (.int kinds),z4,z5,.fr (.int size),.fr (.int base),z8,.fr (.int k),.own none ((st++[p]).map encPr),.fr (.int num),z12,.fr (.lst (bs.map .bl)),.fr (.int goal),z]:=by
 have t:=y7r (size:=size) (base:=base) (goal:=goal) (v:=mix2 (kinds+k) num) h1 h2 h4 h5;unfold pair44;walk_at "den";rw[q5u (n+1)];walk_at "den";rw[if_pos ⟨h1,by omega⟩,if_pos t.1,if_pos (.inl ⟨by omega,by omega⟩),if_pos (by rw[w0a];omega)];obtain⟨q,hq⟩:∃q:Nat,goal+base*(mix2 (kinds+k) num%((size-1-goal) / base+1))=(q:Int):=⟨(goal+base*(mix2 (kinds+k) num%((size-1-goal) / base+1))).toNat,by have:=t.2.1;omega⟩;have t3:=t.2.2;rw[hq]at t3;refine⟨(bs,q),.fr (.int (mix2 (kinds+k) num%((size-1-goal) / base+1))),rfl,t3,?_⟩;rw[hq,w0n];rfl
theorem x3c(n:Nat)(z0 z1 z2 z4 z8 z14 z15:S)(wide:Nat)(hw:wide<=12)(kinds k left size base:Int)(num:Nat)(h1:0<base)(h2:base<=size)(h3:size<=20)(st:List Pr)(hl:st.length<=100)(bs:List Bool)(hb:bs.length=wide):
  ∃p:Pr,∃z13 z14' z15',p.1.length=wide/\(p.2:Int)<size/\goal44 K a (run K a (n+2)) [z0,z1,z2,.fr (.int kinds),z4,.fr (.int (wide:Int)),.fr (.int size),.fr (.int base),z8,.fr (.int k),.own none (st.map encPr),.fr (.int (num:Int)),.fr (.int left),.fr (.lst (bs.map .bl)),z14,z15] =
   .nx [z0,z1,z2,.fr (.int kinds),z4,.fr (.int (wide:Int)),.fr (.int size),.fr (.int base),z8,.fr (.int k),.own none ((st++[p]).map encPr),.fr (.int (num:Int)),.fr (.int left),z13,z14',z15']:=by
 have g0:=w2f (left / 64) (show base≠0 by omega);have g1:=w2j (left / 64) h1;unfold goal44;walk_at "den";rw[if_pos h1];walk_at "den"
 by_cases hc:kinds%3=1
 ·rw[if_pos hc,if_pos h1];walk_at "den";rw[y36 _ _ (by omega)];walk_at "den";rw[if_pos h1];have k0:=w2f k (show base≠0 by omega);have k1:=w2j k h1
  have gg:∃g:Int,atI [W.int (if base-1<k%base+1 then base-1 else k%base+1),W.int 0] (if 1<(num:Int)then 1 else(num:Int))=some (.int g)/\0<=g/\g<base:=by
   by_cases q:num=0
   ·subst q;refine⟨_,rfl,?_,?_⟩<;>split<;>omega
   ·have e:(if 1<(num:Int)then 1 else(num:Int))=1:=by split<;>omega
    rw[e];exact⟨0,rfl,by omega,by omega⟩
  obtain⟨g,e1,e2,e3⟩:=gg;rw[e1];walk_at "den";obtain⟨p,z,p1,p2,p3⟩:=x3b (K:=K) (a:=a) n z0 z1 z2 z4 (.fr (.int (wide:Int))) z8 (.fr (.int left)) z15 kinds k (num:Int) g size base h1 h2 h3 e2 e3 st hl (List.replicate wide (decide (k%base=base-1)));exact⟨p,_,_,z,by rw[p1,w1w],p2,p3⟩
 ·rw[if_neg hc];walk_at "den";obtain⟨p,z,p1,p2,p3⟩:=x3b (K:=K) (a:=a) n z0 z1 z2 z4 (.fr (.int (wide:Int))) z8 (.fr (.int left)) z15 kinds k (num:Int) (left / 64%base) size base h1 h2 h3 g0 g1 st hl bs;exact⟨p,_,_,z,by rw[p1,hb],p2,p3⟩
theorem y21(n:Nat)(ns:List Int)(p:Nat)(z2 z4 z8 z12 z13 z14 z15:S)(wide:Nat)(hw:wide<=12)(kinds k size base:Int)(num:Nat)(h1:0<base)(h2:base<=size)(h3:size<=20)(st:List Pr)(hl:st.length<=100):
  ∃q:Pr,∃z12' z13' z14' z15',q.1.length=wide/\(q.2:Int)<size/\q2q K a (run K a (n+2)) [.fr (.lst (ns.map .int)),.fr (.int (p:Int)),z2,.fr (.int kinds),z4,.fr (.int (wide:Int)),.fr (.int size),.fr (.int base),z8,.fr (.int k),.own none (st.map encPr),.fr (.int (num:Int)),z12,z13,z14,z15] =
   .nx [.fr (.lst (ns.map .int)),.fr (.int (p:Int)),z2,.fr (.int kinds),z4,.fr (.int (wide:Int)),.fr (.int size),.fr (.int base),z8,.fr (.int k),.own none ((st++[q]).map encPr),.fr (.int (num:Int)),z12',z13',z14',z15']:=by
 have k0:=w2f k (show base≠0 by omega);unfold q2q;walk_at "den";rw[if_pos h1];walk_at "den";rw[q4v (n+1) ns (by omega)];walk_at "den";rw[if_pos h1];walk_at "den";rw[q5u (n+1)];walk_at "den";rw[y36 _ _ (by omega)];walk_at "den";generalize mix2 _ _=left
 by_cases hc:left%4=0
 ·rw[if_pos hc];obtain⟨bs,b1,b2⟩:=y2z (K:=K) (a:=a) (n+1) (left / 4) wide (by omega);rw[b1];walk_at "den";obtain⟨q,y13,y14,y15,q1,q2,q3⟩:=x3c (K:=K) (a:=a) n (.fr (.lst (ns.map .int))) (.fr (.int (p:Int))) z2 z4 z8 z14 z15 wide hw kinds k left size base num h1 h2 h3 st hl bs b2;exact⟨q,_,y13,y14,y15,q1,q2,q3⟩
 ·rw[if_neg hc];walk_at "den";obtain⟨q,y13,y14,y15,q1,q2,q3⟩:=x3c (K:=K) (a:=a) n (.fr (.lst (ns.map .int))) (.fr (.int (p:Int))) z2 z4 z8 z14 z15 wide hw kinds k left size base num h1 h2 h3 st hl (List.replicate wide false) w1w;exact⟨q,_,y13,y14,y15,q1,q2,q3⟩
theorem x82(n:Nat)(ns:List Int)(p:Nat)(z2 z10 z11 z12 z13 z14 z15:S)(m wide:Nat)(hm:m<=3)(hw:wide<=12)(kinds k size base:Int)(h1:0<base)(h2:base<=size)(h3:size<=20)(sts:List (List Pr))(hl:sts.length<=100):
  ∃s:List Pr,∃y10 y11 y12 y13 y14 y15,s.length=2^m/\(∀q∈s,q.1.length=wide/\(q.2:Int)<size)/\q2r K a (run K a (n+2)) [.fr (.lst (ns.map .int)),.fr (.int (p:Int)),z2,.fr (.int kinds),.fr (.int (m:Int)),.fr (.int (wide:Int)),.fr (.int size),.fr (.int base),.own none (sts.map encSt),.fr (.int k),z10,z11,z12,z13,z14,z15] =
   .nx [.fr (.lst (ns.map .int)),.fr (.int (p:Int)),z2,.fr (.int kinds),.fr (.int (m:Int)),.fr (.int (wide:Int)),.fr (.int size),.fr (.int base),.own none ((sts++[s]).map encSt),.fr (.int k),y10,y11,y12,y13,y14,y15]:=by
 have hp:2^m<=2^3:=w1n (by decide) hm;have hp8:(2:Nat)^3=8:=rfl;unfold q2r;walk_at "den";rw[x59 (n+1) m hm];generalize hR:2^m=R at hp;walk_at "den";rw[if_pos (q2t (by omega) (by omega))];walk_at "den"
 obtain⟨e',h4,s,y11,y12,y13,y14,y15,rfl,s1,s2⟩:=q2m (b:=q2q K a (run K a (n+2))) (i:=11) (lo:=0) (hi:=(R:Int)) R (by omega) (fun j e=>∃(s:List Pr)(z11 z12 z13 z14 z15:S),e=[.fr (.lst (ns.map .int)),.fr (.int (p:Int)),z2,.fr (.int kinds),.fr (.int (m:Int)),.fr (.int (wide:Int)),.fr (.int size),.fr (.int base),.own none (sts.map encSt),.fr (.int k),.own none (s.map encPr),z11,z12,z13,z14,z15]/\s.length=j/\∀q∈s,q.1.length=wide/\(q.2:Int)<size)
  [.fr (.lst (ns.map .int)),.fr (.int (p:Int)),z2,.fr (.int kinds),.fr (.int (m:Int)),.fr (.int (wide:Int)),.fr (.int size),.fr (.int base),.own none (sts.map encSt),.fr (.int k),.own none [],z11,z12,z13,z14,z15] ⟨[],z11,z12,z13,z14,z15,rfl,rfl,fun q hq=>nomatch hq⟩ (by
  rintro j e hj ⟨s,z11,z12,z13,z14,z15,rfl,s1,s2⟩;rw[w3z];obtain⟨q,y12,y13,y14,y15,q1,q2,q3⟩:=y21 (K:=K) (a:=a) n ns p z2 (.fr (.int (m:Int))) (.own none (sts.map encSt)) z12 z13 z14 z15 wide hw kinds k size base j h1 h2 h3 s (by omega);refine⟨_,q3,s++[q],_,y12,y13,y14,y15,rfl,by simp[s1],fun x hx=>?_⟩
  rcases w1p.mp hx with z|z
  ·exact s2 x z
  ·rw[w0u.mp z];exact⟨q1,q2⟩)
 rw[h4];walk_at "den";rw[if_pos (by rw[w0a];omega)];refine⟨s,.fr (.lst (s.map encPr)),y11,y12,y13,y14,y15,s1,s2,?_⟩;rw[w0n];rfl
theorem x40(n:Nat)(ns:List Int)(p:Nat)(z2:S)(m wide size:Nat)(hm:m<=3)(hw:wide<=12)(kinds:Int)(h0:0<size)(h3:size<=20):
  ∃c:Mc,c.Ok/\(sts44 K a (run K a (n+2)) [.fr (.lst (ns.map .int)),.fr (.int (p:Int)),z2,.fr (.int kinds),.fr (.int (m:Int)),.fr (.int (wide:Int)),.fr (.int (size:Int)),.no,.no,.no,.no,.no,.no,.no,.no,.no]).fn=.ok (mcT c)/\c.m=m:=by
 have b0:=w2f (kinds / 24) (show(size:Int)≠0 by omega);have b1:=w2j (kinds / 24) (show(0:Int)<(size:Int) by omega);obtain⟨base,hb⟩:∃b:Int,(size:Int)-kinds / 24%(size:Int)=b:=⟨_,rfl⟩;unfold sts44;walk_at "den";rw[if_pos (show(0:Int)<(size:Int) by omega)];walk_at "den";rw[hb,if_pos (q2t (by omega) (by omega))];walk_at "den"
 obtain⟨e',h4,sts,y9,y10,y11,y12,y13,y14,y15,rfl,s1,s2⟩:=q2m (b:=q2r K a (run K a (n+2))) (i:=9) (lo:=0) (hi:=(size:Int)) size (by omega) (fun j e=>∃(sts:List (List Pr))(z9 z10 z11 z12 z13 z14 z15:S),e=[.fr (.lst (ns.map .int)),.fr (.int (p:Int)),z2,.fr (.int kinds),.fr (.int (m:Int)),.fr (.int (wide:Int)),.fr (.int (size:Int)),.fr (.int base),.own none (sts.map encSt),z9,z10,z11,z12,z13,z14,z15]/\sts.length=j/\∀s∈sts,s.length=2^m/\∀q∈s,q.1.length=wide/\(q.2:Int)<(size:Int))
  [.fr (.lst (ns.map .int)),.fr (.int (p:Int)),z2,.fr (.int kinds),.fr (.int (m:Int)),.fr (.int (wide:Int)),.fr (.int (size:Int)),.fr (.int base),.own none [],.no,.no,.no,.no,.no,.no,.no] ⟨[],_,_,_,_,_,_,_,rfl,rfl,fun q hq=>nomatch hq⟩ (by
  rintro j e hj ⟨sts,z9,z10,z11,z12,z13,z14,z15,rfl,s1,s2⟩;obtain⟨s,y10,y11,y12,y13,y14,y15,q1,q2,q3⟩:=x82 (K:=K) (a:=a) n ns p z2 z10 z11 z12 z13 z14 z15 m wide hm hw kinds (0+(j:Int)) (size:Int) base (by omega) (by omega) (by omega) sts (by omega);refine⟨_,q3,sts++[s],_,y10,y11,y12,y13,y14,y15,rfl,by simp[s1],fun x hx=>?_⟩
  rcases w1p.mp hx with z|z
  ·exact s2 x z
  ·rw[w0u.mp z];exact⟨q1,q2⟩)
 rw[h4];walk_at "den";refine⟨⟨m,wide,sts⟩,⟨hm,hw,by show 0<sts.length;omega,by show sts.length<=20;omega,fun s hs=>(s2 s hs).1,fun s hs q hq=>⟨((s2 s hs).2 q hq).1,?_⟩⟩,rfl,rfl⟩
 have:=((s2 s hs).2 q hq).2;show q.2<sts.length;omega
theorem wide8{j:Int}{x:Int}(h0:0<=j)(h1:j<8)(hx:0<=x)(hx2:x<9):∃w:Nat,atI [W.int 1,.int 2,.int 1,.int 0,.int 3,.int (4+x),.int 2,.int 1] j=some (.int (w:Int))/\w<=12:=by
 have:j=0\/j=1\/j=2\/j=3\/j=4\/j=5\/j=6\/j=7:=by omega
 rcases this with rfl|rfl|rfl|rfl|rfl|rfl|rfl|rfl
 ·exact⟨1,rfl,by omega⟩
 ·exact⟨2,rfl,by omega⟩
 ·exact⟨1,rfl,by omega⟩
 ·exact⟨0,rfl,by omega⟩
 ·exact⟨3,rfl,by omega⟩
 ·refine⟨(4+x).toNat,?_,by omega⟩;rw[show(((4+x).toNat:Nat):Int)=4+x by omega];rfl
 ·exact⟨2,rfl,by omega⟩
 ·exact⟨1,rfl,by omega⟩
theorem x41(n:Nat)(ns:List Int)(p:Nat)(m wide size:Nat)(hm:m<=3)(hw:wide<=12)(cell kinds:Int)(h0:0<size)(h3:size<=12):
  ∃c:Mc,c.Ok/\(sec44 K a (run K a (n+2)) [.fr (.lst (ns.map .int)),.fr (.int (p:Int)),.fr (.int cell),.fr (.int kinds),.fr (.int (m:Int)),.fr (.int (wide:Int)),.fr (.int (size:Int)),.no,.no,.no,.no,.no,.no,.no,.no,.no]).fn=.ok (mcT c):=by
 unfold sec44;walk_at "den"
 by_cases hc:(size:Int)=11
 ·rw[if_pos hc];walk_at "den";obtain⟨sz,e1,e2,e3⟩:∃s:Nat,12+cell / 44%9=(s:Int)/\0<s/\s<=20:=⟨(12+cell / 44%9).toNat,by omega,by omega,by omega⟩;obtain⟨mm,e4,e5⟩:∃s:Nat,(m:Int)%2=(s:Int)/\s<=3:=⟨((m:Int)%2).toNat,by omega,by omega⟩;rw[e1,e4];obtain⟨c,c1,c2,_⟩:=x40 (K:=K) (a:=a) n ns p (.fr (.int cell)) mm wide sz e5 hw kinds e2 e3;exact⟨c,c1,c2⟩
 ·rw[if_neg hc];walk_at "den";obtain⟨c,c1,c2,_⟩:=x40 (K:=K) (a:=a) n ns p (.fr (.int cell)) m wide size hm hw kinds h0 (by omega);exact⟨c,c1,c2⟩
theorem x4b(n:Nat)(ns:List Int)(p:Nat):∃c:Mc,c.Ok/\run K a (n+3) q1u [.lst (ns.map .int),.int (p:Int)]=.ok (mcT c):=by
 rw[q3z];unfold q3c;walk_at "den";rw[q4v (n+1) ns (by omega)];walk_at "den";rw[q4v (n+1) ns (by omega)];walk_at "den";generalize ns.getD _ 0=kinds;generalize ns.getD _ 0=cell;obtain⟨wide,w1,w2⟩:=wide8 (j:=kinds / 3%8) (x:=kinds / 24%9) (by omega) (by omega) (by omega) (by omega);rw[w1];obtain⟨m,m1,m2⟩:∃m:Nat,cell%4=(m:Int)/\m<=3:=⟨(cell%4).toNat,by omega,by omega⟩;obtain⟨s,s1,s2,s3⟩:∃s:Nat,1+cell / 4%11=(s:Int)/\0<s/\s<=11:=⟨(1+cell / 4%11).toNat,by omega,by omega,by omega⟩;rw[m1];walk_at "den";rw[s1]
 have big:∀A B:FR,(∃c:Mc,c.Ok/\A=.ok (mcT c))->(∃c:Mc,c.Ok/\B=.ok (mcT c))->∃c:Mc,c.Ok/\(if(s:Int)=9 then A else if(s:Int)=10 then A else B)=.ok (mcT c):=by
  intro A B hA hB;split
  ·exact hA
  ·split
   ·exact hA
   ·exact hB
 refine big _ _ ?_ ?_
 ·obtain⟨s',e1,e2,e3⟩:∃s:Nat,8+cell / 44%5=(s:Int)/\0<s/\s<=12:=⟨(8+cell / 44%5).toNat,by omega,by omega,by omega⟩;rw[e1]
  have at2:∃y:Nat,atI [W.int 3,W.int 2] (if 9<(s':Int)then 1 else 0)=some (.int (y:Int)):=by
   split
   ·exact⟨2,rfl⟩
   ·exact⟨3,rfl⟩
  obtain⟨y,hy⟩:=at2;rw[hy];walk_at "den"
  obtain⟨mm,e4,e5⟩:∃q:Nat,(if(y:Int)<(m:Int)then(y:Int)else(m:Int))=(q:Int)/\q<=3:=by
   by_cases z:(y:Int)<(m:Int)
   ·exact⟨y,by rw[if_pos z],by omega⟩
   ·exact⟨m,by rw[if_neg z],m2⟩
  rw[e4];exact x41 n ns p mm wide s' e5 w2 cell kinds e2 e3
 ·exact x41 n ns p m wide s m2 w2 cell kinds s2 (by omega)
theorem x42:∀bs:List Bool,flatWs (bs.map .bl)=true
 |[]=>rfl
 |b::bs=>by show(true&&flatWs (bs.map .bl))=true;rw[x42 bs];rfl
def posK:List Kx->Kx->Nat
 |[],_=>0
 |k::l,x=>if k=x then 0 else posK l x+1
theorem q6r{x:Kx}:∀{l:List Kx},x∈l->l[posK l x]?=some x
 |[],h=>nomatch h
 |k::l,h=>by
  unfold posK
  by_cases e:k=x
  ·rw[if_pos e,e];rfl
  ·rw[if_neg e,w0q];exact q6r ((w0h.mp h).resolve_left fun z=>e z.symm)
theorem x43{x:Kx}{l:List Kx}(h:x∈l):posK l x<l.length:=(w0b.mp (q6r h)).1
theorem q8q{x:Kx}{m:List Kx}:∀{l:List Kx},x∈l->posK (l++m) x=posK l x
 |[],h=>nomatch h
 |k::l,h=>by
  show(if k=x then 0 else posK (l++m) x+1)=(if k=x then 0 else posK l x+1)
  by_cases e:k=x
  ·rw[if_pos e,if_pos e]
  ·rw[if_neg e,if_neg e,q8q ((w0h.mp h).resolve_left fun z=>e z.symm)]
theorem x3d{x:Kx}:∀{l:List Kx},x∉l->posK (l++[x]) x=l.length
 |[],_=>by show(if x=x then 0 else _)=0;rw[if_pos rfl]
 |k::l,h=>by
  show(if k=x then 0 else posK (l++[x]) x+1)=l.length+1;rw[if_neg (fun e=>h (by simp[e])),x3d (fun z=>h (by simp[z]))]
theorem y22{x y:Kx}{l:List Kx}(hx:x∈l)(hy:y∈l)(h:posK l x=posK l y):x=y:=by
 have h1:=q6r hx;have h2:=q6r hy;rw[h]at h1;rw[h1]at h2;exact Option.some.inj h2
def iotaW(o:Nat):Nat->List W
 |0=>[]
 |n+1=>.int (o:Int)::iotaW (o+1) n
theorem x1d:∀(n o:Nat),iotaW o n++[.int ((o+n:Nat):Int)]=iotaW o (n+1)
 |0,o=>rfl
 |n+1,o=>by
  show W.int (o:Int)::(iotaW (o+1) n++[W.int ((o+(n+1):Nat):Int)])=W.int (o:Int)::iotaW (o+1) (n+1);rw[show o+(n+1)=(o+1)+n by omega,x1d n (o+1)]
theorem q71{x:Kx}:∀(l:List Kx)(o:Nat),lkW l (iotaW o l.length) x=if x∈l then some (.int ((o+posK l x:Nat):Int))else none
 |[],o=>by rw[if_neg (by simp)];rfl
 |k::l,o=>by
  show(if k=x then some (W.int (o:Int))else lkW l (iotaW (o+1) l.length) x)=_
  by_cases e:k=x
  ·rw[if_pos e,if_pos (by simp[e]),show posK (k::l) x=0 from if_pos e];rfl
  ·rw[if_neg e,q71 l (o+1),show posK (k::l) x=posK l x+1 from if_neg e]
   by_cases h:x∈l
   ·rw[if_pos h,if_pos (by simp[h]),show o+1+posK l x=o+(posK l x+1) by omega]
   ·rw[if_neg h,if_neg (by simp[h];exact fun z=>e z.symm)]
def addK(l:List Kx)(x:Kx):List Kx:=if x∈l then l else l++[x]
theorem y23(l:List Kx)(x:Kx):∃m,addK l x=l++m:=by
 unfold addK;split
 ·exact⟨[],by simp⟩
 ·exact⟨[x],rfl⟩
theorem x44(l:List Kx)(x:Kx):x∈addK l x:=by
 unfold addK;split
 ·assumption
 ·simp
theorem y24(l:List Kx)(x:Kx):(addK l x).length<=l.length+1:=by
 unfold addK;split<;>simp
theorem q8r:∀(xs l:List Kx),∃m,xs.foldl addK l=l++m
 |[],l=>⟨[],by simp⟩
 |x::xs,l=>by
  obtain⟨m1,h1⟩:=y23 l x;obtain⟨m2,h2⟩:=q8r xs (addK l x);exact⟨m1++m2,by rw[w1x,h2,h1,w0p]⟩
theorem q6g:∀(xs l:List Kx),∀x∈xs,x∈xs.foldl addK l
 |[],_,_,h=>nomatch h
 |y::xs,l,x,h=>by
  rw[w1x];rcases w0h.mp h with rfl|h
  ·obtain⟨m,e⟩:=q8r xs (addK l x);rw[e];exact w1m _ (x44 l x)
  ·exact q6g xs _ x h
theorem fold_len:∀(xs l:List Kx),(xs.foldl addK l).length<=l.length+xs.length
 |[],l=>by simp
 |x::xs,l=>by
  rw[w1x];have:=fold_len xs (addK l x);have:=y24 l x;simp only[w0z];omega
def prK(ks:List Nat)(p:Pr):Kx:=.tup [.tup (p.1.map .bl),.int ((ks.getD p.2 0:Nat):Int)]
def stK(ks:List Nat)(s:List Pr):Kx:=.tup (s.map (prK ks))
def fin(c:Mc)(ks:List Nat):List Nat:=c.states.map fun s=>posK ((c.states.map (stK ks)).foldl addK []) (stK ks s)
theorem y7s(c:Mc)(ks:List Nat):(fin c ks).length=c.states.length:=by unfold fin;rw[w0a]
theorem x45{c:Mc}(h:i<c.states.length):(fin c ks).getD i 0=posK ((c.states.map (stK ks)).foldl addK []) (stK ks (c.states.getD i [])):=by
 unfold fin;simp[List.getD,h]
theorem q0x{c:Mc}(h:i<c.states.length):c.states.getD i []∈c.states:=by
 have e:c.states.getD i []=c.states[i]:=by simp[List.getD,h]
 rw[e];exact w0v h
theorem z1r{c:Mc}(hi:i<c.states.length)(hj:j<c.states.length):(fin c ks).getD i 0=(fin c ks).getD j 0↔stK ks (c.states.getD i [])=stK ks (c.states.getD j []):=by
 rw[x45 hi,x45 hj];refine⟨fun h=>y22 (q6g _ _ _ (w2q (q0x hi))) (q6g _ _ _ (w2q (q0x hj))) h,fun h=>by rw[h]⟩
theorem z1s{c:Mc}:∀k∈fin c ks,k<c.states.length:=by
 intro k hk;unfold fin at hk;obtain⟨s,hs,rfl⟩:=w0k.mp hk;have h1:=x43 (q6g (c.states.map (stK ks)) [] _ (w2q hs));have h2:=fold_len (c.states.map (stK ks)) [];simp only[w0a,w3n]at h2;omega
def lev(c:Mc):Nat->List Nat
 |0=>List.replicate c.states.length 0
 |t+1=>fin c (lev c t)
theorem q2x(c:Mc):∀t,(lev c t).length=c.states.length
 |0=>w1w
 |t+1=>y7s c _
theorem q9m{c:Mc}(h:0<c.states.length):∀t,∀k∈lev c t,k<c.states.length
 |0,k,hk=>by
  have:=w3u hk;omega
 |t+1,k,hk=>z1s k hk
def kd(c:Mc)(t i:Nat):Nat:=(lev c t).getD i 0
def told(c:Mc)(i r:Nat):List Bool:=((c.states.getD i []).getD r ([],0)).1
def nxt(c:Mc)(i r:Nat):Nat:=((c.states.getD i []).getD r ([],0)).2
theorem q12{c:Mc}(hc:c.Ok)(hi:i<c.states.length)(hr:r<2^c.m):nxt c i r<c.states.length:=by
 have hs:=q0x hi;have hl:=hc.st _ hs;unfold nxt;have hr':r<(c.states.getD i []).length:=by omega
 have e:(c.states.getD i []).getD r ([],0)=(c.states.getD i [])[r]:=by generalize c.states.getD i []=s at hr';simp[List.getD,hr']
 rw[e];exact(hc.pr _ hs _ (w0v hr')).2
theorem q4w(c:Mc)(i:Nat):kd c 0 i=0:=by
 unfold kd lev
 by_cases h:i<c.states.length
 ·simp[List.getD,h]
 ·simp[List.getD,h]
theorem prK_inj{p q:Pr}:prK ks p=prK ks q↔p.1=q.1/\ks.getD p.2 0=ks.getD q.2 0:=by
 unfold prK;constructor
 ·intro h;injection h with h
  injection h with h1 h2
  injection h1 with h1
  injection h2 with h2 _
  injection h2 with h2
  exact⟨(w4k (fun x y h=>by injection h)).mp h1,by omega⟩
 ·rintro⟨h1,h2⟩;rw[h1,h2]
theorem q5h{c:Mc}(hc:c.Ok){t:Nat}(hi:i<c.states.length)(hj:j<c.states.length):kd c (t+1) i=kd c (t+1) j↔∀r,r<2^c.m->told c i r=told c j r/\kd c t (nxt c i r)=kd c t (nxt c j r):=by
 show(fin c (lev c t)).getD i 0=(fin c (lev c t)).getD j 0↔_;rw[z1r hi hj];have l1:=hc.st _ (q0x hi);have l2:=hc.st _ (q0x hj);unfold stK told nxt kd;generalize c.states.getD i []=s at l1;generalize c.states.getD j []=s' at l2
 have key:∀(s s':List Pr),s.length=s'.length->(s.map (prK (lev c t))=s'.map (prK (lev c t))↔∀r,r<s.length->prK (lev c t) (s.getD r ([],0))=prK (lev c t) (s'.getD r ([],0))):=by
  intro s s' hl;constructor
  ·intro h r hr;have z:=congrArg (fun l=>l[r]?) h
   simp only[w0i,w0c hr,w0c (hl ▸ hr),Option.map_some]at z
   simpa [List.getD,hr,hl ▸ hr]using Option.some.inj z
  ·intro h;apply w3r;intro r
   by_cases hr:r<s.length
   ·have z:=h r hr;simp only[w0i,w0c hr,w0c (hl ▸ hr),Option.map_some];congr 1
    simpa [List.getD,hr,hl ▸ hr]using z
   ·simp[hr,hl ▸ hr]
 have e:(Kx.tup (s.map (prK (lev c t)))=Kx.tup (s'.map (prK (lev c t))))↔s.map (prK (lev c t))=s'.map (prK (lev c t)):=⟨fun h=>by injection h,fun h=>by rw[h]⟩
 rw[e,key s s' (by omega),l1];exact⟨fun h r hr=>prK_inj.mp (h r hr),fun h r hr=>prK_inj.mpr (h r hr)⟩
theorem q7m{c:Mc}(hc:c.Ok):∀(t:Nat){i j:Nat},i<c.states.length->j<c.states.length->kd c (t+1) i=kd c (t+1) j->kd c t i=kd c t j
 |0,i,j,_,_,_=>by rw[q4w,q4w]
 |t+1,i,j,hi,hj,h=>by
  rw[q5h hc hi hj]at h |-
  exact fun r hr=>⟨(h r hr).1,q7m hc t (q12 hc hi hr) (q12 hc hj hr) (h r hr).2⟩
def Part(c:Mc)(t i j r:Nat):Prop:=if t=0 then told c i r≠told c j r else kd c t (nxt c i r)≠kd c t (nxt c j r)
inductive Rows(c:Mc):Nat->Nat->Nat->List Nat->Prop
 |nil {i j:Nat}:Rows c 0 i j []
 |cons {t i j r:Nat} {rs:List Nat} (hr:r<2^c.m) (hp:Part c t i j r) (hl:∀q,q<r->¬Part c t i j q) (h:Rows c t (nxt c i r) (nxt c j r) rs):Rows c (t+1) i j (r::rs)
def nW50(k:Nat):W:=.int (k:Int)
def encK(ks:List Nat):W:=.lst (ks.map nW50)
theorem y37:∀bs:List Bool,kxWs (bs.map .bl)=some (bs.map .bl)
 |[]=>rfl
 |b::bs=>by
  show(match kxW (.bl b),kxWs (bs.map .bl)with|some k,some ks=>some (k::ks)|_,_=>none)=_;rw[y37 bs];rfl
def seenW(ks:List Nat)(p:Pr):W:=.tup [encB p.1,nW50 (ks.getD p.2 0)]
theorem z4e(ks:List Nat)(p:Pr):kxW (seenW ks p)=some (prK ks p):=by
 show(kxWs [encB p.1,nW50 (ks.getD p.2 0)]).map Kx.tup=_
 have e:kxWs [encB p.1,nW50 (ks.getD p.2 0)]=some [.tup (p.1.map .bl),.int ((ks.getD p.2 0:Nat):Int)]:=by
  show(match(kxWs (p.1.map .bl)).map Kx.tup,(some [Kx.int ((ks.getD p.2 0:Nat):Int)]:Option (List Kx))with|some k,some ks=>some (k::ks)|_,_=>none)=_;rw[y37];rfl
 rw[e];rfl
theorem x83(ks:List Nat):∀s:List Pr,kxWs (s.map (seenW ks))=some (s.map (prK ks))
 |[]=>rfl
 |p::s=>by
  show(match kxW (seenW ks p),kxWs (s.map (seenW ks))with|some k,some ks=>some (k::ks)|_,_=>none)=_;rw[z4e,x83 ks s];rfl
theorem x3e(ks:List Nat)(s:List Pr):keyT (.tup (s.map (seenW ks)))=some (stK ks s):=by
 show(kxWs (s.map (seenW ks))).map Kx.tup=_;rw[x83];rfl
theorem x46:∀bs:List Bool,ConfM (bs.map .bl) .bl
 |[]=>trivial
 |_::bs=>⟨trivial,x46 bs⟩
theorem x84:∀bs:List Bool,Kx.depths (bs.map .bl)=0
 |[]=>rfl
 |b::bs=>by show max 0 (Kx.depths (bs.map .bl))=0;rw[x84 bs];rfl
theorem x0e(ks:List Nat)(s:List Pr):fits (stK ks s) (.many (.tup [.many .bl,.int])):=by
 have h1:∀s:List Pr,ConfM (s.map (prK ks)) (.tup [.many .bl,.int]):=fun s=>by
  induction s with
  |nil=>trivial
  |cons p s ih=>exact⟨⟨x46 p.1,trivial,trivial⟩,ih⟩
 have h2:∀s:List Pr,Kx.depths (s.map (prK ks))<=2:=fun s=>by
  induction s with
  |nil=>exact w1k _
  |cons p s ih=>
   show max (max (Kx.depths (p.1.map .bl)+1) (max 0 0)+1) (Kx.depths (s.map (prK ks)))<=2;rw[x84];omega
 refine⟨h1 s,?_⟩;show Kx.depths (s.map (prK ks))+1<=7;have:=h2 s;omega
def Dj(c:Mc)(ks:List Nat)(j:Nat):List Kx:=((c.states.take j).map (stK ks)).foldl addK []
theorem x47{c:Mc}(h:j<c.states.length):Dj c ks (j+1)=addK (Dj c ks j) (stK ks c.states[j]):=by
 unfold Dj;rw[x1c h,w0n,List.foldl_append];rfl
theorem z1t{c:Mc}(j:Nat):(Dj c ks j).length<=j:=by
 have:=fold_len ((c.states.take j).map (stK ks)) [];unfold Dj;simp only[w0a,w3w,w3n]at this;omega
theorem z1u{c:Mc}{x:Kx}(h:x∈Dj c ks j):posK ((c.states.map (stK ks)).foldl addK []) x=posK (Dj c ks j) x:=by
 have e:(c.states.map (stK ks)).foldl addK []=(((c.states.drop j).map (stK ks)).foldl addK (Dj c ks j)):=by
  unfold Dj;rw[<- List.foldl_append,<- w0n,List.take_append_drop]
 rw[e];obtain⟨m,hm⟩:=q8r ((c.states.drop j).map (stK ks)) (Dj c ks j);rw[hm];exact q8q h
def fpos(c:Mc)(ks:List Nat)(s:List Pr):Nat:=posK ((c.states.map (stK ks)).foldl addK []) (stK ks s)
theorem q1x{i:Nat}(h:i<ks.length):atI (ks.map nW50) (i:Int)=some (nW50 (ks.getD i 0)):=by
 refine q14 ?_;rw[w0i,w0c h];simp[List.getD,h]
theorem x85{c:Mc}{w:W}(h:(c.states.map encSt)[j]?=some w):∃hj:j<c.states.length,w=encSt c.states[j]:=by
 have hj:j<c.states.length:=by have:=(w0b.mp h).1;simpa using this
 refine⟨hj,?_⟩;rw[w0i,w0c hj]at h;exact(Option.some.inj h).symm
theorem x86(n:Nat)(c:Mc)(hc:c.Ok)(ks:List Nat)(hk:ks.length=c.states.length)(j:Nat)(hj:j<c.states.length)(out:List Nat)(ho:out.length<=100)(w0:W)(z5:S):
  ∃z5',q21 K a (run K a n) [.fr w0,.fr (encK ks),.dw (.many (.tup [.many .bl,.int])) (Dj c ks j) (iotaW 0 (Dj c ks j).length),.own none (out.map nW50),.fr (encSt c.states[j]),z5] =
   .nx [.fr w0,.fr (encK ks),.dw (.many (.tup [.many .bl,.int])) (Dj c ks (j+1)) (iotaW 0 (Dj c ks (j+1)).length),.own none ((out++[fpos c ks c.states[j]]).map nW50),.fr (encSt c.states[j]),z5']:=by
 have hmost:=hc.most;have hs:=hc.st _ (w0v hj);have hpr:=hc.pr _ (w0v hj);have p8:2^c.m<=8:=w1d (w1n (by decide) hc.few) (by decide);have hin:=x44 (Dj c ks j) (stK ks c.states[j]);have hpos:=z1u (c:=c) (ks:=ks) (j:=j+1) (x:=stK ks c.states[j]) (by rw[x47 hj];exact hin);have hdl:=z1t (c:=c) (ks:=ks) j;have hsucc:=x47 (c:=c) (ks:=ks) hj;generalize hst:c.states[j]=s at *
 have hseen:List.map (fun p:W×W=>W.tup [p.1,(ixW (encK ks) p.2).getD .non]) (List.filter (fun _=>true) (s.map fun p=>(encB p.1,W.int (p.2:Int))))=s.map (seenW ks):=by
  rw[w4e.mpr (fun _ _=>rfl),w1g]
  refine w1i fun p hp=>?_
  show W.tup [encB p.1,(atI (ks.map nW50) (p.2:Int)).getD .non]=seenW ks p;rw[q1x (by rw[hk];exact(hpr p hp).2)];rfl
 unfold q21;unfold encSt;walk_at "den";rw[q42];walk_at "den";rw[if_pos (by rw[w0a];omega)];simp only[frz1,pj1,w0q,w1q];rw[q7g (q:=fun _=>true) (g:=fun p=>.tup [p.1,(ixW (encK ks) p.2).getD .non])]
 ·walk_at "den";rw[hseen,z09 (x3e ks s) (x0e ks s),q71]
  have app:∀D:List Kx,D=addK (Dj c ks j) (stK ks s)->∃z5',(dApp 3 (dCons (dBorrow (dOp ixT (dVar 2) (dVar 5))) dNil)) [.fr w0,.fr (encK ks),.dw (.many (.tup [.many .bl,.int])) D (iotaW 0 D.length),.own none (out.map nW50),.fr (.lst (s.map encPr)),.fr (.tup (s.map (seenW ks)))] =
    .nx [.fr w0,.fr (encK ks),.dw (.many (.tup [.many .bl,.int])) (Dj c ks (j+1)) (iotaW 0 (Dj c ks (j+1)).length),.own none ((out++[fpos c ks s]).map nW50),.fr (.lst (s.map encPr)),z5']:=by
   rintro D rfl;walk_at "den";rw[z39 (x3e ks s) (x0e ks s),q71,if_pos hin];walk_at "den";rw[if_pos (by rw[w0a];omega),hsucc];refine⟨.fr (.tup (s.map (seenW ks))),?_⟩;rw[hsucc]at hpos;rw[<- hpos,w0n];rfl
  by_cases hm:stK ks s∈Dj c ks j
  ·rw[if_pos hm];have e:addK (Dj c ks j) (stK ks s)=Dj c ks j:=if_pos hm;have q:=app (Dj c ks j) e.symm;revert q;walk_at "den";exact id
  ·rw[if_neg hm];have e:addK (Dj c ks j) (stK ks s)=Dj c ks j++[stK ks s]:=if_neg hm;have q:=app _ e.symm;revert q;walk_at "den";intro q;rw[y6w (x3e ks s) (by omega) (by rfl) (x0e ks s) (by rw[q71,if_neg hm])];walk_at "den";rw[show iotaW 0 (Dj c ks j).length++[W.int ((Dj c ks j).length:Int)]=iotaW 0 (Dj c ks j++[stK ks s]).length by rw[w1o];have:=x1d (Dj c ks j).length 0;rw[w3e]at this;exact this];exact q
 ·intro q hq;obtain⟨p,hp,rfl⟩:=w0k.mp hq;refine⟨_,rfl,fun _=>?_⟩
  unfold q51 encK;walk_at "den";rw[q1x (by rw[hk];exact(hpr p hp).2)];walk_at "den";exact⟨_,rfl⟩
theorem x1e(n:Nat)(c:Mc)(hc:c.Ok)(ks:List Nat)(hk:ks.length=c.states.length):run K a (n+1) q17 [.lst (c.states.map encSt),encK ks]=.ok (.own none ((fin c ks).map nW50)):=by
 have hmost:=hc.most;rw[q4g];unfold q3t;walk_at "den"
 obtain⟨e',h1,z4,z5,h2⟩:=x2q (b:=q21 K a (run K a n)) (i:=4) (fun j e=>∃z4 z5,e=[.fr (.lst (c.states.map encSt)),.fr (encK ks),.dw (.many (.tup [.many .bl,.int])) (Dj c ks j) (iotaW 0 (Dj c ks j).length),.own none (((c.states.take j).map (fpos c ks)).map nW50),z4,z5]) (c.states.map encSt) 0 [.fr (.lst (c.states.map encSt)),.fr (encK ks),.dw (.many (.tup [.many .bl,.int])) [] [],.own none [],.no,.no] ⟨_,_,rfl⟩ (by
  rintro j w e hw ⟨z4,z5,rfl⟩;obtain⟨hj,rfl⟩:=x85 hw;rw[w3e]at *;obtain⟨z5',q⟩:=x86 (K:=K) (a:=a) n c hc ks hk j hj ((c.states.take j).map (fpos c ks)) (by simp;omega) _ z5;refine⟨_,q,.fr (encSt c.states[j]),z5',?_⟩;rw[x1c hj,w0n (f:=fpos c ks)];rfl)
 rw[h1,h2];walk_at "den";rw[w0a,w2i (by omega)];rfl
def levs(c:Mc)(t:Nat):List W:=(List.range (t+1)).map fun s=>encK (lev c s)
theorem x1f(c:Mc)(t:Nat):levs c (t+1)=levs c t++[encK (lev c (t+1))]:=by
 unfold levs;rw[List.range_succ (n:=t+1),w0n];rfl
theorem y25(c:Mc)(t:Nat):(levs c t).length=t+1:=by unfold levs;simp
theorem x0f{l:List α}{x:α}:atI (l++[x]) (-1)=some x:=by
 unfold atI ixN;rw[if_neg (by decide),if_pos (by simp;omega)];have e:(-1+((l++[x]).length:Int)).toNat=l.length:=by simp;omega
 show(l++[x])[(-1+((l++[x]).length:Int)).toNat]?=some x;rw[e];simp
theorem x1g(c:Mc)(t:Nat):atI (levs c t) (-1)=some (encK (lev c t)):=by
 cases t with
 |zero=>exact x0f (l:=[])
 |succ t=>rw[x1f];exact x0f
theorem z4f(m:Nat)(h:m<=100):repW (.lst [.int 0]) (.int (m:Int))=some (encK (List.replicate m 0)):=by
 rw[x72,if_pos ⟨q2t (by omega) (by omega),by simp;omega⟩,w1v];unfold encK;congr 2
 have:∀k:Nat,(List.replicate k [W.int 0]).flatten=(List.replicate k 0).map nW50:=fun k=>by
  induction k with
  |zero=>rfl
  |succ k ih=>rw[w1h,w1u,ih,w1h];rfl
 exact this _
theorem x87{c:Mc}(hc:c.Ok)(t:Nat):lev c t≠[]:=fun h=>by
 have:=q2x c t;rw[h]at this;have:=hc.pos;simp at *;omega
theorem x48:∀x y:List Bool,eqWs (x.map .bl) (y.map .bl)=some (decide (x=y))
 |[],[]=>rfl
 |[],_::_=>rfl
 |_::_,[]=>rfl
 |a::x,b::y=>by
  show(match eqW (.bl a) (.bl b),eqWs (x.map .bl) (y.map .bl)with|some p,some q=>some (p&&q)|_,_=>none)=_;rw[x48 x y];show some ((a==b)&&decide (x=y))=_;congr 1;cases a<;>cases b<;>simp
theorem ne_bb(x y:List Bool):ne2 (encB x) (encB y)=some (.bl (!decide (x=y))):=by
 have h:depWs (x.map .bl)=0:=(q55 x).2.1;unfold ne2 encB;rw[if_pos (show depW (.tup (x.map .bl))<=150 by show depWs (x.map .bl)+1<=150;omega)];show(eqWs (x.map .bl) (y.map .bl)).map _=_;rw[x48];rfl
theorem z1v{c:Mc}(t:Nat)(hi:i<c.states.length):atI ((lev c t).map nW50) (i:Int)=some (.int ((kd c t i:Nat):Int)):=q1x (by rw[q2x];exact hi)
theorem q45:∀(n:Nat){l:List Nat},l.Nodup->(∀x∈l,x<n)->l.length<=n
 |0,l,_,h=>by
  cases l with
  |nil=>simp
  |cons x l=>exact absurd (h x (by simp)) (by omega)
 |n+1,l,hn,h=>by
  by_cases m:n∈l
  ·have e:=List.length_erase_of_mem m
   have:=q45 n (hn.erase n) (fun x hx=>by
    have:=(hn.mem_erase_iff).mp hx;have:=h x this.2;omega)
   have:0<l.length:=List.length_pos_of_mem m;omega
  ·have:=q45 n hn (fun x hx=>by
    have:=h x hx;have:x≠n:=fun z=>m (z ▸ hx)
    omega)
   omega
theorem z1w{n:Nat}(hn:l.Nodup)(h:∀x∈l,x<n)(hl:n<=l.length)(hy:y<n):y∈l:=Classical.byContradiction fun z=>by
 have:=q45 n (l:=y::l) (w1r.mpr ⟨z,hn⟩) (fun x hx=>by
  rcases w0h.mp hx with rfl|hx
  ·exact hy
  ·exact h x hx)
 simp at this;omega
def addN(l:List Nat)(x:Nat):List Nat:=if x∈l then l else l++[x]
theorem y26(l:List Nat)(x:Nat):∃m,addN l x=l++m:=by
 unfold addN;split
 ·exact⟨[],by simp⟩
 ·exact⟨[x],rfl⟩
theorem x49(l:List Nat)(x:Nat):x∈addN l x:=by
 unfold addN;split
 ·assumption
 ·simp
theorem y7t(h:l.Nodup)(x:Nat):(addN l x).Nodup:=by
 unfold addN;split
 ·exact h
 ·rename_i hx;refine w3t.mpr ⟨h,by simp,?_⟩;intro a ha b hb e;simp at hb;subst hb;subst e;exact hx ha
theorem q53:∀(xs l:List Nat),∃m,xs.foldl addN l=l++m
 |[],l=>⟨[],by simp⟩
 |x::xs,l=>by
  obtain⟨m1,h1⟩:=y26 l x;obtain⟨m2,h2⟩:=q53 xs (addN l x);exact⟨m1++m2,by rw[w1x,h2,h1,w0p]⟩
theorem x3f:∀(xs l:List Nat),∀x∈xs,x∈xs.foldl addN l
 |[],_,_,h=>nomatch h
 |y::xs,l,x,h=>by
  rw[w1x];rcases w0h.mp h with rfl|h
  ·obtain⟨m,e⟩:=q53 xs (addN l x);rw[e];exact w1m _ (x49 l x)
  ·exact x3f xs _ x h
theorem x3g:∀(xs:List Nat){l:List Nat},l.Nodup->(xs.foldl addN l).Nodup
 |[],_,h=>h
 |x::xs,l,h=>x3g xs (y7t h x)
theorem x1h{B:Nat->Prop}:∀(xs l:List Nat),(∀x∈l,B x)->(∀x∈xs,B x)->∀x∈xs.foldl addN l,B x
 |[],_,h,_=>h
 |y::xs,l,h,g=>x1h xs (addN l y) (fun x hx=>by
   unfold addN at hx;split at hx
   ·exact h x hx
   ·rcases w1p.mp hx with z|z
    ·exact h x z
    ·rw[w0u.mp z];exact g y (by simp)) fun x hx=>g x (by simp[hx])
theorem x88{m:List Nat}(h:x∈l):(l++m).idxOf x=l.idxOf x:=by
 rw[List.idxOf_append,if_pos h]
theorem q5e(h:x∈l):l.idxOf x<l.length:=List.idxOf_lt_length_iff.mpr h
theorem q7n(h:x∈l):l.getD (l.idxOf x) 0=x:=by
 have:=q5e h;simp[List.getD,this]
theorem x6a(hn:l.Nodup)(h:i<l.length):l.idxOf (l.getD i 0)=i:=by
 have h1:l.getD i 0=l[i]:=by simp[List.getD,h]
 rw[h1];have h3:=q5e (w0v h);exact(List.getElem_inj hn).mp (List.getElem_idxOf h3)
def bf(g:Nat->List Pr)(b:Nat):Nat->List Nat
 |0=>[b]
 |i+1=>if i<(bf g b i).length then((g ((bf g b i).getD i 0)).map (·.2)).foldl addN (bf g b i)else bf g b i
theorem q9n(g:Nat->List Pr)(b i:Nat):∃m,bf g b (i+1)=bf g b i++m:=by
 show ∃m,(if i<(bf g b i).length then((g ((bf g b i).getD i 0)).map (·.2)).foldl addN (bf g b i)else bf g b i)=_;split
 ·exact q53 _ _
 ·exact⟨[],by simp⟩
theorem x5a(g:Nat->List Pr)(b i:Nat):∀d,∃m,bf g b (i+d)=bf g b i++m
 |0=>⟨[],by simp⟩
 |d+1=>by
  obtain⟨m1,h1⟩:=x5a g b i d;obtain⟨m2,h2⟩:=q9n g b (i+d);exact⟨m1++m2,by rw[<- w4j,h2,h1,w0p]⟩
theorem q6s(g:Nat->List Pr)(b:Nat):∀i,(bf g b i).Nodup
 |0=>by simp[bf]
 |i+1=>by
  unfold bf;split
  ·exact x3g _ (q6s g b i)
  ·exact q6s g b i
theorem q3m{g:Nat->List Pr}{B:Nat->Prop}(h0:B b)(hs:∀x,B x->∀p∈g x,B p.2):∀i,∀x∈bf g b i,B x
 |0=>fun x hx=>by
  have:x=b:=by simpa [bf]using hx
  rw[this];exact h0
 |i+1=>by
  unfold bf;split
  ·rename_i hi;refine x1h _ _ (q3m h0 hs i) fun x hx=>?_
   obtain⟨p,hp,rfl⟩:=w0k.mp hx;refine hs _ (q3m h0 hs i _ ?_) p hp;have e:(bf g b i).getD i 0=(bf g b i)[i]:=by simp[List.getD,hi]
   rw[e];exact w0v hi
  ·exact q3m h0 hs i
theorem q5i(g:Nat->List Pr)(b i:Nat):∃m,bf g b i=b::m:=by
 obtain⟨m,h⟩:=x5a g b 0 i;rw[w3e]at h;exact⟨m,by rw[h];rfl⟩
def numSt(T:List Nat)(s:List Pr):List Pr:=s.map fun p=>(p.1,T.idxOf p.2)
theorem x89{m:List Nat}{s:List Pr}(h:∀p∈s,p.2∈T):numSt (T++m) s=numSt T s:=by
 unfold numSt;refine w1i fun p hp=>?_
 rw[x88 (h p hp)]
theorem x1w{g:Nat->List Pr}:∀i,i<=(bf g b i).length->∀x∈(bf g b i).take i,∀p∈g x,p.2∈bf g b i
 |0,_,x,hx=>by simp at hx
 |i+1,hl,x,hx=>by
  obtain⟨m,hm⟩:=q9n g b i;intro p hp
  by_cases hi:i<(bf g b i).length
  ·have hx':x∈(bf g b i).take (i+1):=by
    rw[hm,w3g (by omega)]at hx;exact hx
   rw[w3b hi]at hx';rcases w1p.mp hx' with z|z
   ·rw[hm];exact w1m _ (x1w i (by omega) x z p hp)
   ·rw[w0u]at z;subst z;unfold bf;rw[if_pos hi];refine x3f _ _ _ (w0k.mpr ⟨p,?_,rfl⟩);have e:(bf g b i).getD i 0=(bf g b i)[i]:=by simp[List.getD,hi]
    rw[e];exact hp
  ·have e:bf g b (i+1)=bf g b i:=by
    show(if i<(bf g b i).length then _ else bf g b i)=_;rw[if_neg hi]
   rw[e]at hl;omega
theorem z4g{g:Nat->List Pr}(hi:i<(bf g b i).length):((bf g b (i+1)).take (i+1)).map (fun x=>numSt (bf g b (i+1)) (g x))=((bf g b i).take i).map (fun x=>numSt (bf g b i) (g x))++[numSt (bf g b (i+1)) (g ((bf g b i).getD i 0))]:=by
 obtain⟨m,hm⟩:=q9n g b i;have e:(bf g b i).getD i 0=(bf g b i)[i]:=by simp[List.getD,hi]
 have h1:(bf g b (i+1)).take (i+1)=(bf g b i).take i++[(bf g b i)[i]]:=by
  rw[hm,w3g (by omega),w3b hi]
 rw[h1,w0n,e];congr 1;refine w1i fun x hx=>?_
 rw[hm];exact x89 (x1w i (by omega) x hx)
def Stab(c:Mc)(L:Nat):Prop:=∀i j,i<c.states.length->j<c.states.length->kd c L i=kd c L j->kd c (L+1) i=kd c (L+1) j
theorem x3h{c:Mc}(hc:c.Ok)(h:Stab c L):∀(t i j:Nat),i<c.states.length->j<c.states.length->kd c L i=kd c L j->kd c t i=kd c t j
 |0,i,j,_,_,_=>by rw[q4w,q4w]
 |t+1,i,j,hi,hj,e=>by
  have e1:=(q5h hc hi hj).mp (h i j hi hj e);exact(q5h hc hi hj).mpr fun r hr=>⟨(e1 r hr).1,x3h hc h t _ _ (q12 hc hi hr) (q12 hc hj hr) (e1 r hr).2⟩
theorem x1i:∀(xs D:List Kx),(∀k,k<D.length->∃x∈D,posK D x=k)->∀k,k<(xs.foldl addK D).length->∃x∈xs.foldl addK D,posK (xs.foldl addK D) x=k
 |[],D,h=>h
 |y::xs,D,h=>by
  rw[w1x];refine x1i xs (addK D y) fun k hk=>?_
  unfold addK at hk |-
  by_cases hy:y∈D
  ·rw[if_pos hy]at hk |-
   exact h k hk
  ·rw[if_neg hy]at hk |-
   by_cases hk':k<D.length
   ·obtain⟨x,hx,e⟩:=h k hk';exact⟨x,w1m _ hx,by rw[q8q hx,e]⟩
   ·refine⟨y,by simp,?_⟩;rw[x3d hy];simp at hk;omega
theorem x1j:∀(xs D:List Kx),∀x∈xs.foldl addK D,x∈D\/x∈xs
 |[],D,x,h=>.inl h
 |y::xs,D,x,h=>by
  rw[w1x]at h;rcases x1j xs (addK D y) x h with z|z
  ·unfold addK at z;split at z
   ·exact .inl z
   ·rcases w1p.mp z with z|z
    ·exact .inl z
    ·exact .inr (by simp[w0u.mp z])
  ·exact .inr (by simp[z])
theorem q2j{c:Mc}{t:Nat}(h:i<c.states.length):kd c t i∈lev c t:=by
 have h':i<(lev c t).length:=by rw[q2x];exact h
 unfold kd;rw[show(lev c t).getD i 0=(lev c t)[i] by simp[List.getD,h']];exact w0v h'
theorem z1x{c:Mc}{t k:Nat}(h:k∈lev c t):∃i,i<c.states.length/\kd c t i=k:=by
 obtain⟨i,hi,e⟩:=w2p h;refine⟨i,by rw[<- q2x c t];exact hi,?_⟩;unfold kd;rw[<- e];simp[List.getD,hi]
theorem y27{c:Mc}(hc:c.Ok):∀(t:Nat){M k:Nat},M∈lev c t->k<=M->∃i,i<c.states.length/\kd c t i=k
 |0,M,k,hM,hk=>by
  have e:M=0:=w3u hM;exact⟨0,hc.pos,by rw[q4w];omega⟩
 |t+1,M,k,hM,hk=>by
  have hM':M∈fin c (lev c t):=hM;unfold fin at hM';obtain⟨s,hs,e⟩:=w0k.mp hM';have h1:=x43 (q6g (c.states.map (stK (lev c t))) [] _ (w2q hs));obtain⟨x,hx,e2⟩:=x1i (c.states.map (stK (lev c t))) [] (fun k hk=>by simp at hk) k (by omega)
  rcases x1j _ _ x hx with z|z
  ·simp at z
  ·obtain⟨s',hs',rfl⟩:=w0k.mp z;refine z1x (t:=t+1) ?_;show k∈fin c (lev c t);unfold fin;exact w0k.mpr ⟨s',hs',e2⟩
theorem y7u{c:Mc}(hc:c.Ok){M M':Nat}(hM:M∈lev c L)(hM2:∀k∈lev c L,k<=M)(hM3:∀k∈lev c (L+1),k<=M')(hle:M'<=M):Stab c L:=by
 have sur:=fun k (hk:k<=M)=>y27 hc L hM hk
 let rep:Nat->Nat:=fun k=>Classical.epsilon fun i=>i<c.states.length/\kd c L i=k
 have hrep:∀k,k<=M->rep k<c.states.length/\kd c L (rep k)=k:=fun k hk=>Classical.epsilon_spec (p:=fun i=>i<c.states.length/\kd c L i=k) (sur k hk)
 have hnd:((List.range (M+1)).map fun k=>kd c (L+1) (rep k)).Nodup:=by
  refine List.pairwise_map.mpr (List.Pairwise.imp_of_mem (R:=(·≠·)) ?_ List.nodup_range);intro x y hx hy hne e;refine hne ?_;have hx:=hrep x (by have:=w0o.mp hx;omega);have hy:=hrep y (by have:=w0o.mp hy;omega);have:=q7m hc L hx.1 hy.1 e;rw[hx.2,hy.2]at this;exact this
 have key:∀i,i<c.states.length->kd c (L+1) i=kd c (L+1) (rep (kd c L i)):=fun i hi=>by
  have hm:=z1w (n:=M+1) hnd (fun x hx=>by
   obtain⟨k,hk,rfl⟩:=w0k.mp hx;have hk:=hrep k (by have:=w0o.mp hk;omega);have:=hM3 _ (q2j (t:=L+1) hk.1);omega) (by simp) (y:=kd c (L+1) i) (by have:=hM3 _ (q2j (t:=L+1) hi);omega)
  obtain⟨k,hk,e⟩:=w0k.mp hm;have hk:=hrep k (by have:=w0o.mp hk;omega);have:=q7m hc L hk.1 hi e;rw[hk.2]at this;rw[<- this];exact e.symm
 intro i j hi hj e;rw[key i hi,key j hj,e]
theorem x9a(h:ks≠[]):∃M:Nat,max1 [encK ks]=some (.int (M:Int))/\M∈ks/\∀k∈ks,k<=M:=by
 cases ks with
 |nil=>exact absurd rfl h
 |cons k ks=>
  have e:max1 [encK (k::ks)]=some (.int (maxL (k:Int) (ks.map fun x:Nat=>(x:Int)))):=by
   have:=z08 (n:=(k:Int)) (ns:=ks.map fun x:Nat=>(x:Int))
   rw[w1b,w1g]at this;exact this
  obtain⟨h1,h2,h3⟩:=q95 (ks.map fun x:Nat=>(x:Int)) (k:Int)
  have hall:∀M:Nat,maxL (k:Int) (ks.map fun x:Nat=>(x:Int))=(M:Int)->∀x∈k::ks,x<=M:=fun M hM x hx=>by
   rcases w0h.mp hx with rfl|hx
   ·omega
   ·have:=h3 (x:Int) (w0k.mpr ⟨x,hx,rfl⟩);omega
  rcases h1 with h1|h1
  ·exact⟨k,by rw[e,h1],by simp,hall k h1⟩
  ·obtain⟨x,hx,hx2⟩:=w0k.mp h1;exact⟨x,by rw[e,<- hx2],by simp[hx],hall x hx2.symm⟩
def rep(c:Mc)(L k:Nat):Nat:=(lev c L).idxOf k
theorem q0y{c:Mc}{k:Nat}(h:k∈lev c L):rep c L k<c.states.length:=by
 rw[<- q2x c L];exact q5e h
theorem q27{c:Mc}{k:Nat}(h:k∈lev c L):kd c L (rep c L k)=k:=q7n h
def kPr(c:Mc)(L k:Nat):List Pr:=(c.states.getD (rep c L k) []).map fun p=>(p.1,kd c L p.2)
theorem x5b{c:Mc}(hc:c.Ok){k:Nat}(h:k∈lev c L):∀p∈kPr c L k,p.2∈lev c L:=fun p hp=>by
 unfold kPr at hp;obtain⟨q,hq,rfl⟩:=w0k.mp hp;exact q2j (hc.pr _ (q0x (q0y h)) q hq).2
def lst'(c:Mc)(L:Nat)(T:List Nat):Mc:=⟨c.m,c.wide,T.map fun k=>numSt T (kPr c L k)⟩
structure Cl(c:Mc)(L:Nat)(T:List Nat):Prop where
 nd:T.Nodup
 mem:∀k∈T,k∈lev c L
 pos:0<T.length
 cl:∀k∈T,∀p∈kPr c L k,p.2∈T
theorem Cl.len{c:Mc}(hc:c.Ok)(h:Cl c L T):T.length<=c.states.length:=q45 _ h.nd fun k hk=>q9m hc.pos L k (h.mem k hk)
theorem Cl.ok{c:Mc}(hc:c.Ok)(h:Cl c L T):(lst' c L T).Ok where
 few:=hc.few
 wd:=hc.wd
 pos:=by show 0<(T.map _).length;rw[w0a];exact h.pos
 most:=by
  show(T.map _).length<=20;rw[w0a];have:=h.len hc;have:=hc.most;omega
 st:=fun s hs=>by
  obtain⟨k,hk,rfl⟩:=w0k.mp hs;unfold numSt kPr;rw[w0a,w0a];exact hc.st _ (q0x (q0y (h.mem k hk)))
 pr:=fun s hs p hp=>by
  obtain⟨k,hk,rfl⟩:=w0k.mp hs;have hp':=hp;unfold numSt at hp;obtain⟨q,hq,rfl⟩:=w0k.mp hp;have h2:=h.cl k hk q hq;unfold kPr at hq;obtain⟨q',hq',rfl⟩:=w0k.mp hq;refine⟨(hc.pr _ (q0x (q0y (h.mem k hk))) q' hq').1,?_⟩;show _<(T.map _).length;rw[w0a];exact q5e h2
theorem x0g{c:Mc}:(lst' c L T).states.length=T.length:=w0a _
theorem x9b{c:Mc}(hx:x<T.length):(lst' c L T).states.getD x []=numSt T (kPr c L (T.getD x 0)):=by
 show(T.map _).getD x []=_;simp[List.getD,hx]
theorem x9c{c:Mc}(hc:c.Ok)(h:Cl c L T)(hx:x<T.length)(hr:r<2^c.m):told (lst' c L T) x r=told c (rep c L (T.getD x 0)) r/\nxt (lst' c L T) x r=T.idxOf (kd c L (nxt c (rep c L (T.getD x 0)) r)):=by
 have hk:T.getD x 0∈lev c L:=h.mem _ (by rw[show T.getD x 0=T[x] by simp[List.getD,hx]];exact w0v hx);have hl:=hc.st _ (q0x (q0y hk));unfold told nxt;rw[x9b hx];unfold numSt kPr;generalize c.states.getD (rep c L (T.getD x 0)) []=s at hl;have:r<s.length:=by omega
 simp[List.getD,this]
theorem x5c(p:Pr):flatW (encPr p)=true:=by
 show(flatWs (p.1.map .bl)&&(true&&true))=true;rw[x42];rfl
theorem q6t{f:α->W}(h:∀x,flatW (f x)=true):∀l:List α,flatWs (l.map f)=true
 |[]=>rfl
 |x::l=>by show(flatW (f x)&&flatWs (l.map f))=true;rw[h x,q6t h l];rfl
theorem y28(s:List Pr):flatWs (s.map encPr)=true:=q6t x5c s
theorem y7v(s:List Nat):flatWs (s.map nW50)=true:=q6t (fun _=>rfl) s
def nD:Nat->List Nat->List (Key×Sv)
 |_,[]=>[]
 |o,x::T=>(.inl (x:Int),.inl (o:Int))::nD (o+1) T
theorem x5d:∀(T:List Nat)(o:Nat),nD o (T++[x])=nD o T++[(.inl (x:Int),.inl ((o+T.length:Nat):Int))]
 |[],o=>rfl
 |y::T,o=>by
  show _::nD (o+1) (T++[x])=_::(nD (o+1) T++_);rw[x5d T (o+1),show o+1+T.length=o+(y::T).length by simp;omega]
theorem x9d:∀(T:List Nat)(o:Nat),(nD o T).length=T.length
 |[],_=>rfl
 |_::T,o=>by show(nD (o+1) T).length+1=_;rw[x9d T];rfl
theorem x6b:∀(T:List Nat)(o:Nat),lk (nD o T) (.inl (x:Int))=if x∈T then some (.inl ((o+T.idxOf x:Nat):Int))else none
 |[],o=>by rw[if_neg (by simp)];rfl
 |y::T,o=>by
  unfold lk;rw[nD,w1y]
  by_cases e:y=x
  ·subst e;simp
  ·rw[decide_eq_false (fun z=>e (by injection z with z;omega))]
   show lk (nD (o+1) T) (.inl (x:Int))=_;rw[x6b T (o+1)];have e2:(y::T).idxOf x=T.idxOf x+1:=by rw[w3o,beq_false_of_ne e];rfl
   by_cases h:x∈T
   ·rw[if_pos h,if_pos (by simp[h]),e2,show o+1+T.idxOf x=o+(T.idxOf x+1) by omega]
   ·rw[if_neg h,if_neg (by simp[h];exact fun z=>e z.symm)]
theorem z1y(h:x∉T):putL (nD 0 T) (.inl (x:Int)) (.inl (T.length:Int))=nD 0 (T++[x]):=by
 have e:∀(T:List Nat)(o:Nat),x∉T->((nD o T).any fun p=>decide (p.1=.inl (x:Int)))=false:=fun T=>by
  induction T with
  |nil=>intro _ _;rfl
  |cons y T ih=>
   intro o h;show(decide ((Sum.inl (y:Int):Key)=.inl (x:Int))||(nD (o+1) T).any _)=false;have hne:y≠x:=fun z=>h (by simp[z])
   rw[ih (o+1) (fun z=>h (by simp[z])),decide_eq_false (fun z=>hne (by injection z with z;omega))]
   rfl
 unfold putL;rw[if_neg (by rw[e T 0 h];exact w0r),x5d,w3e]
theorem y29{e:List S}{m n:Int}{kvs:List (Key×Sv)}:putDC i (.int m) (.int n) e (some (.dic (.k kvs)))=if kvs.length<16777216/\onlyD i e=true then .nx (e.set i (.dic (.k (putL kvs (.inl n) (.inl m)))))else .no:=rfl
theorem x9e(r:Nat->List W->FR)(w0 w1:W)(T:List Nat)(hT:T.length<=50)(sts:List W)(z5:W)(st:List Pr)(hst:st.length<=100)(t:List Bool)(f:Nat):
  q2w K a r [.fr w0,.fr w1,.own none (T.map nW50),.dic (.k (nD 0 T)),.x (.acc sts),.fr z5,.own none (st.map encPr),.fr (encB t),.fr (.int (f:Int))] =
   .nx [.fr w0,.fr w1,.own none ((addN T f).map nW50),.dic (.k (nD 0 (addN T f))),.x (.acc sts),.fr z5,.own none ((st++[(t,(addN T f).idxOf f)]).map encPr),.fr (encB t),.fr (.int (f:Int))]:=by
 unfold q2w;walk_at "den";rw[x6b]
 by_cases h:f∈T
 ·have e:addN T f=T:=if_pos h;rw[if_pos h,if_neg (by simp)];walk_at "den";rw[if_pos (by rfl),if_pos (by rw[w0a];omega),w0n,e];rfl
 ·have e:addN T f=T++[f]:=if_neg h;rw[if_neg h,if_pos (by rfl),y29,if_pos ⟨by rw[x9d];omega,by rfl⟩,w0a,z1y h];walk_at "den";rw[if_pos (by rw[w0a];omega)];walk_at "den";rw[x6b,if_pos (by simp)];walk_at "den";rw[if_pos (by rfl),if_pos (by rw[w0a];omega),w0n,e,w0n];rfl
theorem x3i(r:Nat->List W->FR)(w0 w1:W)(sts:List W)(z5:W):∀(ps:List Pr)(T:List Nat)(st:List Pr)(z7 z8:S),isT z7=false->isT z8=false->T.length+ps.length<=50->st.length+ps.length<=100 ->
  ∃z7' z8',(isT z7'=false/\isT z8'=false)/\forP 7 8 (q2w K a r) (ps.map fun p=>(encB p.1,W.int (p.2:Int))) [.fr w0,.fr w1,.own none (T.map nW50),.dic (.k (nD 0 T)),.x (.acc sts),.fr z5,.own none (st.map encPr),z7,z8] =
   .nx [.fr w0,.fr w1,.own none (((ps.map (·.2)).foldl addN T).map nW50),.dic (.k (nD 0 ((ps.map (·.2)).foldl addN T))),.x (.acc sts),.fr z5,.own none ((st++numSt ((ps.map (·.2)).foldl addN T) ps).map encPr),z7',z8']
 |[],T,st,z7,z8,t7,t8,_,_=>⟨z7,z8,⟨t7,t8⟩,by show SR.nx _=_;simp[numSt]⟩
 |p::ps,T,st,z7,z8,t7,t8,h1,h2=>by
  have q:=x9e (K:=K) (a:=a) r w0 w1 T (by simp at h1;omega) sts z5 st (by simp at h2;omega) p.1 p.2;have hl:(addN T p.2).length<=T.length+1:=by unfold addN;split<;>simp
  obtain⟨z7',z8',tt,g⟩:=x3i r w0 w1 sts z5 ps (addN T p.2) (st++[(p.1,(addN T p.2).idxOf p.2)]) (.fr (encB p.1)) (.fr (.int (p.2:Int))) rfl rfl (by simp at h1;omega) (by simp at h2 |-;omega);refine⟨z7',z8',tt,?_⟩;show(q2w K a r [.fr w0,.fr w1,.own none (T.map nW50),.dic (.k (nD 0 T)),.x (.acc sts),.fr z5,.own none (st.map encPr),.fr (encB p.1),.fr (.int (p.2:Int))]).turnT (forP 7 8 (q2w K a r) (ps.map fun p=>(encB p.1,W.int (p.2:Int))))=_
  rw[q];walk_at "den";rw[g];show _=SR.nx [.fr w0,.fr w1,.own none (((ps.map (·.2)).foldl addN (addN T p.2)).map nW50),.dic (.k (nD 0 ((ps.map (·.2)).foldl addN (addN T p.2)))),.x (.acc sts),.fr z5,.own none ((st++numSt ((ps.map (·.2)).foldl addN (addN T p.2)) (p::ps)).map encPr),z7',z8'];obtain⟨m,hm⟩:=q53 (ps.map (·.2)) (addN T p.2)
  have e:(st++[(p.1,(addN T p.2).idxOf p.2)])++numSt ((ps.map (·.2)).foldl addN (addN T p.2)) ps=st++numSt ((ps.map (·.2)).foldl addN (addN T p.2)) (p::ps):=by
   unfold numSt;rw[w1b,w0p];congr 2;rw[hm,x88 (x49 T p.2)];rfl
  rw[e]
structure Told53(K:Fg)(a:Adr)(n:Nat)(j:Nat)(l:Lm)(caps:List W)(g:Nat->List Pr)(B:Nat->Prop):Prop where
 call:∀x,B x->∀e,callVK lams (run K a n) j l caps [.int (x:Int)] e=.ok (encSt (g x)) e
 next:∀x,B x->∀p∈g x,B p.2
 few:∀x,B x->x<20
 len:∀x,B x->(g x).length<=8
def cEnv(w0 w1:W)(g:Nat->List Pr)(b i:Nat)(z5 z6 z7 z8:S):List S:=[.fr w0,.fr w1,.own none ((bf g b i).map nW50),.dic (.k (nD 0 (bf g b i))),.x (.acc ((((bf g b i).take i).map fun x=>numSt (bf g b i) (g x)).map encSt)),z5,z6,z7,z8]
theorem x1k(n:Nat){l:Lm}{caps:List W}{g:Nat->List Pr}{B:Nat->Prop}(H:Told53 K a n j l caps g B)(w0:W)(b:Nat)(hb:B b):∀(fuel i:Nat)(z5 z6 z7 z8:S),isT z5=false->isT z6=false->isT z7=false->isT z8=false->i<=(bf g b i).length->21<=i+fuel ->
  ∃(I:Nat)(y5 y6 y7 y8:S),(isT y5=false/\isT y6=false/\isT y7=false/\isT y8=false)/\(bf g b I).length=I/\whileD (q4z K a (run K a n)) (q40 K a (run K a n)) (fuel+1) (cEnv w0 (.fn j l caps) g b i z5 z6 z7 z8)=.nx (cEnv w0 (.fn j l caps) g b I y5 y6 y7 y8)
 |0,i,z5,z6,z7,z8,t5,t6,t7,t8,hi,hf=>by
  have:=q45 20 (q6s g b i) (fun x hx=>H.few x (q3m hb H.next i x hx))
  omega
 |fuel+1,i,z5,z6,z7,z8,t5,t6,t7,t8,hi,hf=>by
  have hl:=q45 20 (q6s g b i) (fun x hx=>H.few x (q3m hb H.next i x hx))
  have ht:(((bf g b i).take i).map fun x=>numSt (bf g b i) (g x)).length=i:=by rw[w0a,w3w];omega
  have hw:q4z K a (run K a n) (cEnv w0 (.fn j l caps) g b i z5 z6 z7 z8)=.ok (decide (i<(bf g b i).length)) (cEnv w0 (.fn j l caps) g b i z5 z6 z7 z8):=by
   unfold q4z cEnv;walk_at "den";have ht2:((((bf g b i).take i).map fun x=>numSt (bf g b i) (g x)).map encSt).length=i:=by rw[w0a];exact ht
   rw[ht2,w0a];congr 1;rw[decide_eq_decide];omega
  rw[q7v,hw]
  by_cases h:i<(bf g b i).length
  ·have hB:B ((bf g b i).getD i 0):=q3m hb H.next i _ (by rw[show(bf g b i).getD i 0=(bf g b i)[i] by simp[List.getD,h]];exact w0v h);have hgl:=H.len _ hB
   have he:bf g b (i+1)=((g ((bf g b i).getD i 0)).map (·.2)).foldl addN (bf g b i):=by
    show(if i<(bf g b i).length then _ else _)=_;rw[if_pos h]
   obtain⟨y7,y8,⟨u7,u8⟩,q⟩:=x3i (K:=K) (a:=a) (run K a n) w0 (.fn j l caps) ((((bf g b i).take i).map fun x=>numSt (bf g b i) (g x)).map encSt) (.int ((bf g b i).getD i 0:Int)) (g ((bf g b i).getD i 0)) (bf g b i) [] z7 z8 t7 t8 (by omega) (by rw[w3n];omega)
   rw[<- he]at q
   have hbd:q40 K a (run K a n) (cEnv w0 (.fn j l caps) g b i z5 z6 z7 z8)=.nx (cEnv w0 (.fn j l caps) g b (i+1) (.fr (.int ((bf g b i).getD i 0:Int))) .no y7 y8):=by
    unfold q40 cEnv;walk_at "den";rw[w0a,ht,q1x h];unfold nW50 at q |-
    walk_at "den";rw[H.call _ hB];unfold encSt at q |-
    walk_at "den";rw[q42];walk_at "den";rw[show([]:List W)=([]:List Pr).map encPr from rfl,q];walk_at "den"
    rw[y7c,if_pos ⟨⟨by rw[w0a,ht];omega,y28 _⟩,by
     simp only[w2y,w2z,w1z,List.all_nil,u7,u8];rfl⟩,z4g h,w0n]
    rfl
   rw[decide_eq_true h];walk_at "den";rw[hbd];walk_at "den";obtain⟨m,hm⟩:=q9n g b i
   exact x1k n H w0 b hb fuel (i+1) _ _ _ _ rfl rfl u7 u8 (by
    have hp:(bf g b i).length<=(bf g b (i+1)).length:=by rw[hm];simp
    omega) (by omega)
  ·rw[decide_eq_false h];walk_at "den";exact⟨i,z5,z6,z7,z8,⟨t5,t6,t7,t8⟩,by omega,rfl⟩
theorem x3j(n:Nat){l:Lm}{caps:List W}{g:Nat->List Pr}{B:Nat->Prop}(H:Told53 K a n j l caps g B)(b:Nat)(hb:B b):∃I:Nat,(bf g b I).length=I /\
  run K a (n+1) q33 [.int (b:Int),.fn j l caps]=.ok (.x (.new (.tup [.lst (((bf g b I).map fun x=>numSt (bf g b I) (g x)).map encSt),.lst ((bf g b I).map nW50)]))):=by
 rw[q56];unfold q50;walk_at "den";obtain⟨I,y5,y6,y7,y8,⟨t5,t6,t7,t8⟩,h1,h2⟩:=x1k (K:=K) (a:=a) n H (.int (b:Int)) b hb 999999 0 .no .no .no .no rfl rfl rfl rfl (by simp) (by omega);rw[show(1000000:Nat)=999999+1 from rfl];have e:([S.fr (W.int (b:Int)),.fr (.fn j l caps),.own none [W.int (b:Int)],.dic (.k [(.inl (b:Int),.inl 0)]),.x (.acc []),.no,.no,.no,.no]:List S)=cEnv (.int (b:Int)) (.fn j l caps) g b 0 .no .no .no .no:=rfl;rw[e,h2];unfold cEnv;walk_at "den"
 rw[y7h,if_pos (by
  simp only[w2y,w2z,w1z,List.all_nil,t5,t6,t7,t8];rfl)]
 walk_at "den";rw[x4y,if_pos (y7v _)];walk_at "den";refine⟨I,h1,?_⟩;rw[w2i (by omega)]
theorem x6c(n:Nat)(c:Mc)(hc:c.Ok):∀(fuel t M:Nat),max1 [encK (lev c t)]=some (.int (M:Int))->M∈lev c t->(∀k∈lev c t,k<=M)->t<=M->M<c.states.length->c.states.length<=t+fuel ->
  ∃(L:Nat)(z:S),Stab c L/\L<c.states.length/\whileD (q13 K a (run K a (n+1))) (q2y K a (run K a (n+1))) (fuel+1) [.fr (.lst (c.states.map encSt)),.own none (levs c t),.fr (encK (lev c (t+1)))]=.nx [.fr (.lst (c.states.map encSt)),.own none (levs c L),z]:=by
 intro fuel
 induction fuel with
 |zero=>intro t M h1 _ _ h2 h3 h4;omega
 |succ fuel ih=>
  intro t M h1 hM1 hM2 h2 h3 h4;have hmost:=hc.most;obtain⟨M',m1,m2,m3⟩:=x9a (x87 hc (t+1));have hM':=q9m hc.pos (t+1) M' m2
  have hw:q13 K a (run K a (n+1)) [.fr (.lst (c.states.map encSt)),.own none (levs c t),.fr (encK (lev c (t+1)))]=.ok (decide ((M:Int)<(M':Int))) [.fr (.lst (c.states.map encSt)),.own none (levs c t),.fr (encK (lev c (t+1)))]:=by
   unfold q13;walk_at "den";rw[m1];walk_at "den";rw[x1g];walk_at "den";rw[h1];walk_at "den"
  rw[q7v,hw];walk_at "den"
  by_cases hlt:(M:Int)<(M':Int)
  ·rw[if_pos hlt];unfold q2y;walk_at "den";rw[if_pos (by rw[y25];omega)];walk_at "den";rw[x1e n c hc (lev c (t+1)) (q2x c (t+1))];walk_at "den";have q:=ih (t+1) M' m1 m2 m3 (by omega) hM' (by omega);rw[x1f]at q;exact q
  ·rw[if_neg hlt];exact⟨t,_,y7u hc hM1 hM2 m3 (by omega),by omega,rfl⟩
theorem y3a(n:Nat)(c:Mc)(hc:c.Ok):∃L:Nat,Stab c L/\L<c.states.length/\run K a (n+2) q1q [.lst (c.states.map encSt)]=.ok (.own none (levs c L)):=by
 have hmost:=hc.most;have hpos:=hc.pos;rw[q2z];unfold q2d;walk_at "den";rw[w0a,z4f _ (by omega)];walk_at "den";rw[show atI [encK (List.replicate c.states.length 0)] (-1)=some (encK (lev c 0)) by exact x0f (l:=[])];walk_at "den";rw[x1e n c hc (lev c 0) (q2x c 0)];walk_at "den";obtain⟨M,m1,m2,m3⟩:=x9a (x87 hc 0);have hM:=q9m hc.pos 0 M m2;obtain⟨L,z,q0,q1,q2⟩:=x6c (K:=K) (a:=a) n c hc 999999 0 M m1 m2 m3 (by omega) hM (by omega);have e:([encK (List.replicate c.states.length 0)]:List W)=levs c 0:=rfl;rw[e];rw[show(W.lst (List.map nW50 (fin c (lev c 0))))=encK (lev c 1)from rfl];rw[show(1000000:Nat)=999999+1 from rfl];rw[q2];walk_at "den";exact⟨L,q0,q1,rfl⟩
theorem x5e:∀ks:List Nat,intsW (ks.map nW50)=some (ks.map fun k:Nat=>(k:Int))
 |[]=>rfl
 |k::ks=>by
  show(intsW (ks.map nW50)).map _=_;rw[x5e ks];rfl
theorem x3k{k:Nat}:∀{ks:List Nat},k∈ks->idxI (k:Int) (ks.map fun k:Nat=>(k:Int))=some (ks.idxOf k)
 |[],h=>nomatch h
 |y::ks,h=>by
  show(if(y:Int)=(k:Int)then some 0 else(idxI (k:Int) (ks.map fun k:Nat=>(k:Int))).map (·+1))=_
  by_cases e:y=k
  ·subst e;rw[if_pos rfl,List.idxOf_cons_self]
  ·rw[if_neg (by omega),x3k ((w0h.mp h).resolve_left fun z=>e z.symm),w3o,beq_false_of_ne e]
   rfl
theorem x1l{k:Nat}(h:k∈ks):indexI (.lst (ks.map nW50)) [.int (k:Int)]=some (.int ((ks.idxOf k:Nat):Int)):=by
 show(match intsW (ks.map nW50)with
  |some ys=>match idxI (k:Int) ys with
   |some j=>some (W.int (j:Int))
   |none=>none
  |none=>none)=_
 rw[x5e];dsimp only;rw[x3k h]
theorem y38:∀bs:List Bool,noFns (bs.map .bl)=true
 |[]=>rfl
 |b::bs=>by show(true&&noFns (bs.map .bl))=true;rw[y38 bs];rfl
theorem z4h(p:Pr):noFn (encPr p)=true:=by
 show(noFns (p.1.map .bl)&&(true&&true))=true;rw[y38];rfl
theorem q9o{f:α->W}(h:∀x,noFn (f x)=true):∀l:List α,noFns (l.map f)=true
 |[]=>rfl
 |x::l=>by show(noFn (f x)&&noFns (l.map f))=true;rw[h x,q9o h l];rfl
theorem z4i(s:List Pr):noFn (encSt s)=true:=q9o z4h s
theorem x9f(l:List (List Pr)):noFn (.lst (l.map encSt))=true:=q9o z4i l
theorem nf_K(ks:List Nat):noFn (.lst (ks.map nW50))=true:=q9o (fun _=>rfl) ks
theorem z1z(n:Nat)(c:Mc)(hc:c.Ok)(L k:Nat)(hk:k∈lev c L):run K a (n+1) q2a [.lst (c.states.map encSt),encK (lev c L),.int (k:Int)]=.ok (.own none ((kPr c L k).map encPr)):=by
 have hr:=q0y hk;have hs:=q0x hr;have hpr:=hc.pr _ hs;have hl:=hc.st _ hs;have p8:2^c.m<=8:=w1d (w1n (by decide) hc.few) (by decide);rw[q3i];unfold q22 encK;walk_at "den";rw[x1l hk];walk_at "den";rw[show(((lev c L).idxOf k:Nat):Int)=((rep c L k:Nat):Int)from rfl,q70 hr];unfold kPr;generalize c.states.getD (rep c L k) []=s at *;unfold encSt;walk_at "den";rw[q42];walk_at "den";rw[if_pos (by rw[w0a];omega)];simp only[frz1,pj1,w0q,w1q];rw[q7g (q:=fun _=>true) (g:=fun p=>.tup [p.1,(ixW (encK (lev c L)) p.2).getD .non])]
 ·walk_at "den";rw[w4e.mpr (fun _ _=>rfl),w1g,w1g]
  congr 2;refine w1i fun p hp=>?_
  show W.tup [encB p.1,(atI ((lev c L).map nW50) (p.2:Int)).getD .non]=_;rw[q1x (by rw[q2x];exact(hpr p hp).2)];rfl
 ·intro q hq;obtain⟨p,hp,rfl⟩:=w0k.mp hq;refine⟨_,rfl,fun _=>?_⟩
  unfold q5b encK;walk_at "den";rw[q1x (by rw[q2x];exact(hpr p hp).2)];walk_at "den";exact⟨_,rfl⟩
theorem z16(n:Nat)(c:Mc)(hc:c.Ok)(L:Nat):Told53 K a (n+2) q3p q34 [.lst (c.states.map encSt),encK (lev c L)] (kPr c L) (·∈lev c L) where
 call:=fun x hx e=>by
  refine x09 x26 rfl (by show(noFn (.lst (c.states.map encSt))&&(noFn (encK (lev c L))&&true))=true;rw[x9f,show noFn (encK (lev c L))=true from nf_K _];rfl) ?_;show run K a (n+2) q3p [.int (x:Int),.lst (c.states.map encSt),encK (lev c L)]=_;rw[q4i];unfold q3r;walk_at "den";rw[z1z n c hc L x hx];walk_at "den";rfl
 next:=fun x hx=>x5b hc hx
 few:=fun x hx=>by
  have:=q9m hc.pos L x hx;have:=hc.most;omega
 len:=fun x hx=>by
  have p8:2^c.m<=8:=w1d (w1n (by decide) hc.few) (by decide);unfold kPr;rw[w0a,hc.st _ (q0x (q0y hx))];exact p8
theorem z17(n:Nat)(c:Mc)(hc:c.Ok):Told53 K a (n+1) q3q q35 [.lst (c.states.map encSt)] (fun x=>c.states.getD x []) (·<c.states.length) where
 call:=fun x hx e=>by
  refine x09 x27 rfl (by show(noFn (.lst (c.states.map encSt))&&true)=true;rw[x9f];rfl) ?_;show run K a (n+1) q3q [.int (x:Int),.lst (c.states.map encSt)]=_;rw[q4j];unfold q3s;walk_at "den";rw[q70 hx];walk_at "den";rfl
 next:=fun x hx p hp=>(hc.pr _ (q0x hx) p hp).2
 few:=fun x hx=>by
  have:=hc.most;omega
 len:=fun x hx=>by
  have p8:2^c.m<=8:=w1d (w1n (by decide) hc.few) (by decide);rw[hc.st _ (q0x hx)];exact p8
theorem q6u{c:Mc}(hc:c.Ok)(h:(bf (kPr c L) (kd c L 0) I).length=I):Cl c L (bf (kPr c L) (kd c L 0) I) where
 nd:=q6s _ _ _
 mem:=q3m (B:=(·∈lev c L)) (q2j hc.pos) (fun x hx=>x5b hc hx) I
 pos:=by
  obtain⟨m,e⟩:=q5i (kPr c L) (kd c L 0) I;rw[e];simp
 cl:=fun k hk=>x1w I (by omega) k (by rw[w2i (by omega)];exact hk)
theorem x0h{c:Mc}(hc:c.Ok)(hs:Stab c L)(h:Cl c L T)(h0:kd c L 0∈T)(i:Nat):∀x∈bf (fun x=>c.states.getD x []) 0 i,x<c.states.length/\kd c L x∈T:=
 q3m (B:=fun x=>x<c.states.length/\kd c L x∈T) ⟨hc.pos,h0⟩ (fun x hx p hp=>by
  have hl:=hc.st _ (q0x hx.1);have hp2:=(hc.pr _ (q0x hx.1) p hp).2;refine⟨hp2,?_⟩;obtain⟨r,hr,e⟩:=w2p hp;have hk:=q2j (t:=L) hx.1
  have e1:nxt c x r=p.2:=by
   unfold nxt;rw[<- e];generalize c.states.getD x []=s at hr;simp[List.getD,hr]
  have q:=((q5h hc (q0y hk) hx.1).mp (hs _ _ (q0y hk) hx.1 (q27 hk)) r (by omega)).2;rw[e1]at q;rw[<- q];have hl2:=hc.st _ (q0x (q0y hk));refine h.cl _ hx.2 (((c.states.getD (rep c L (kd c L x)) []).getD r ([],0)).1,kd c L (nxt c (rep c L (kd c L x)) r)) ?_;unfold kPr nxt;generalize c.states.getD (rep c L (kd c L x)) []=s at hl2;have hr':r<s.length:=by omega
  refine w0k.mpr ⟨s.getD r ([],0),?_,rfl⟩;rw[show s.getD r ([],0)=s[r] by simp[List.getD,hr']];exact w0v hr') i
theorem y7w(m:Nat)(h:m<=100):repL (.lst [.non]) (.int (m:Int))=some (List.replicate m .non):=by
 show(if okI (m:Int)=true/\([W.non]:List W).length*(m:Int).toNat<=16777216 then some (List.replicate (m:Int).toNat [W.non]).flatten else none)=_;rw[if_pos ⟨q2t (by omega) (by omega),by rw[w1v];simp;omega⟩,w1v,List.flatten_replicate_singleton]
def numW(c:Mc)(L:Nat)(T P:List Nat)(x:Nat):W:=if x∈P then .int ((T.idxOf (kd c L x):Nat):Int)else .non
def numL(c:Mc)(L:Nat)(T P:List Nat):List W:=(List.range c.states.length).map (numW c L T P)
theorem q6v(c:Mc)(L:Nat)(T P:List Nat):(numL c L T P).length=c.states.length:=by unfold numL;rw[w0a,w2a]
theorem y3b(c:Mc)(L:Nat)(T:List Nat):numL c L T []=List.replicate c.states.length .non:=by
 unfold numL;rw[List.eq_replicate_iff];refine⟨by rw[w0a,w2a],fun w hw=>?_⟩
 obtain⟨x,_,rfl⟩:=w0k.mp hw;exact if_neg (by simp)
theorem x3l{c:Mc}{P:List Nat}(h:x<c.states.length):(numL c L T P)[x]?=some (numW c L T P x):=by
 unfold numL;rw[w0i,w4f h];rfl
theorem y3c(c:Mc)(L:Nat)(T P:List Nat)(x:Nat):(numL c L T P).set x (.int ((T.idxOf (kd c L x):Nat):Int))=numL c L T (P++[x]):=by
 refine w3r fun i=>?_
 by_cases hi:i<c.states.length
 ·rw[x3l hi]
  by_cases e:x=i
  ·subst e;rw[w0g (by rw[q6v];exact hi)];unfold numW;rw[if_pos (by simp)]
  ·rw[w0f e,x3l hi];unfold numW;have q:(i∈P++[x])↔i∈P:=by simp;exact fun z=>absurd z.symm e
   by_cases m:i∈P
   ·rw[if_pos m,if_pos (q.mpr m)]
   ·rw[if_neg m,if_neg (fun z=>m (q.mp z))]
 ·rw[w2c (by rw[w2e,q6v];omega),w2c (by rw[q6v];omega)]
theorem y3d(c:Mc)(L:Nat)(T P:List Nat):flatWs (numL c L T P)=true:=q6t (fun x=>by unfold numW;split<;>rfl) _
theorem x9g(n:Nat)(c:Mc)(L:Nat)(T P:List Nat)(w0 w1 w3:W)(x:Nat)(hx:x<c.states.length)(hk:kd c L x∈T):
  q36 K a (run K a n) [.fr w0,.fr w1,.fr (encK (lev c L)),.x (.new (.tup [w3,.lst (T.map nW50)])),.own none (numL c L T P),.fr (.int (x:Int))]=.nx [.fr w0,.fr w1,.fr (encK (lev c L)),.x (.new (.tup [w3,.lst (T.map nW50)])),.own none (numL c L T (P++[x])),.fr (.int (x:Int))]:=by
 unfold q36 encK;walk_at "den";rw[z1v L hx];walk_at "den";rw[x1l hk];walk_at "den";rw[show ixN (numL c L T P).length (x:Int)=some x by unfold ixN;rw[q6v,if_pos (by omega),if_pos (by omega)];rfl];walk_at "den";rw[y3c]
theorem x3m(n:Nat)(c:Mc)(L:Nat)(T:List Nat)(w0 w1 w3:W):∀(xs P:List Nat)(z5:S),(∀x∈xs,x<c.states.length/\kd c L x∈T) ->
  ∃z5',forD 5 (q36 K a (run K a n)) (xs.map nW50) [.fr w0,.fr w1,.fr (encK (lev c L)),.x (.new (.tup [w3,.lst (T.map nW50)])),.own none (numL c L T P),z5]=.nx [.fr w0,.fr w1,.fr (encK (lev c L)),.x (.new (.tup [w3,.lst (T.map nW50)])),.own none (numL c L T (P++xs)),z5']
 |[],P,z5,_=>⟨z5,by rw[w1j];rfl⟩
 |x::xs,P,z5,h=>by
  obtain⟨h1,h2⟩:=h x (by simp);obtain⟨z5',q⟩:=x3m n c L T w0 w1 w3 xs (P++[x]) (.fr (.int (x:Int))) (fun y hy=>h y (by simp[hy]))
  refine⟨z5',?_⟩;show(q36 K a (run K a n) [.fr w0,.fr w1,.fr (encK (lev c L)),.x (.new (.tup [w3,.lst (T.map nW50)])),.own none (numL c L T P),.fr (.int (x:Int))]).turnT (forD 5 (q36 K a (run K a n)) (xs.map nW50))=_;rw[x9g n c L T P w0 w1 w3 x h1 h2];walk_at "den";rw[q,w0p];rfl
theorem q54(n:Nat)(c:Mc)(hc:c.Ok):∃(L I J:Nat),Stab c L/\(bf (kPr c L) (kd c L 0) I).length=I/\(bf (fun x=>c.states.getD x []) 0 J).length=J /\
  run K a (n+4) q1t [encMc c]=.ok (.x (.new (.tup [encMc (lst' c L (bf (kPr c L) (kd c L 0) I)),.lst (numL c L (bf (kPr c L) (kd c L 0) I) (bf (fun x=>c.states.getD x []) 0 J))]))):=by
 have hmost:=hc.most;have hpos:=hc.pos;obtain⟨L,hS,hL,k1⟩:=y3a (K:=K) (a:=a) (n+1) c hc;obtain⟨I,hI,c1⟩:=x3j (K:=K) (a:=a) (n+2) (z16 n c hc L) (kd c L 0) (q2j hc.pos);obtain⟨J,hJ,c2⟩:=x3j (K:=K) (a:=a) (n+2) (z17 (n+1) c hc) 0 hc.pos;have hcl:=q6u hc hI
 have h0:kd c L 0∈bf (kPr c L) (kd c L 0) I:=by
  obtain⟨m,e⟩:=q5i (kPr c L) (kd c L 0) I;rw[e];simp
 have hck:=x0h hc hS hcl h0 J;rw[q7j];unfold q7y;walk_at "den";rw[q7l (n+1) c hc];walk_at "den";rw[q2b];walk_at "den";rw[k1];walk_at "den";rw[x1g];walk_at "den";rw[show ixW (encK (lev c L)) (.int 0)=some (.int ((kd c L 0:Nat):Int))from q1x (i:=0) (by rw[q2x];exact hpos)];walk_at "den";generalize hT:bf (kPr c L) (kd c L 0) I=T at *;rw[show capsOf [1,2] [S.fr (encMc c),S.fr (W.lst (List.map encSt c.states)),S.fr (encK (lev c L)),S.no,S.no,S.no]=some [.lst (c.states.map encSt),encK (lev c L)]from rfl,q6q,c1];walk_at "den";rw[w0a,y7w _ (by omega)];walk_at "den";rw[show ∀s3 s4:S,capsOf [1] [S.fr (encMc c),S.fr (W.lst (List.map encSt c.states)),S.fr (encK (lev c L)),s3,s4,S.no]=some [.lst (c.states.map encSt)]from fun _ _=>rfl,q6q]
 rw[show(W.int 0)=W.int ((0:Nat):Int)from rfl,c2];walk_at "den";obtain⟨z5,f1⟩:=x3m (K:=K) (a:=a) (n+3) c L T (encMc c) (W.lst (List.map encSt c.states)) (W.lst (List.map encSt (List.map (fun x=>numSt T (kPr c L x)) T))) (bf (fun x=>c.states.getD x []) 0 J) [] .no hck
 rw[y3b,w3k]at f1;rw[f1];walk_at "den";rw[q5v];walk_at "den";rw[q4k];walk_at "den";rw[x4y,if_pos (y3d _ _ _ _)];walk_at "den";exact⟨L,I,J,hS,by rw[hT];exact hI,hJ,by rw[hT];rfl⟩
def unl:W->List W
 |.lst ws=>ws
 |_=>[]
def inn(c:Mc):List (List W):=c.states.map fun s=>s.map encPr
theorem x0i(c:Mc):(inn c).map W.lst=c.states.map encSt:=by
 unfold inn;rw[w1g];rfl
def encO:Option Int->W
 |none=>.non
 |some i=>.int i
theorem x6d(o:Option Int)(j:Int):ne2 (encO o) (.int j)=some (.bl (!decide (o=some j))):=by
 cases o with
 |none=>rfl
 |some i=>
  show(if(0:Nat)<=150 then some (W.bl (!(i==j)))else none)=_;rw[if_pos (by omega)]
  by_cases h:i=j
  ·simp[h]
  ·simp[h]
theorem at_o{k:Nat}(h:k<ts.length):atI (ts.map encO) (k:Int)=some (encO (ts.getD k none)):=by
 refine q14 ?_;rw[w0i,w0c h];simp[List.getD,h]
def Gd(ts:List (Option Int))(p q:Pr):Prop:=p.1=q.1/\ts.getD p.2 none=some (q.2:Int)
theorem z18(n:Nat)(w0 w1 w3:W)(ts:List (Option Int))(p q:Pr)(hp:p.2<ts.length):
  (Gd ts p q/\q1o K a (run K a n) [.fr w0,.fr w1,.fr (.lst (ts.map encO)),.fr w3,.fr (encPr p),.fr (encPr q)]=.nx [.fr w0,.fr w1,.fr (.lst (ts.map encO)),.fr w3,.fr (encPr p),.fr (encPr q)])\/(¬Gd ts p q/\∃e,q1o K a (run K a n) [.fr w0,.fr w1,.fr (.lst (ts.map encO)),.fr w3,.fr (encPr p),.fr (encPr q)]=.rt (.fr (.bl false)) e):=by
 unfold q1o encPr;walk_at "den";try rw[Q.ne_bb]
 walk_at "den"
 by_cases h:p.1=q.1
 ·rw[if_neg (by rw[h];simp),at_o hp];walk_at "den";rw[x6d];walk_at "den"
  by_cases h2:ts.getD p.2 none=some (q.2:Int)
  ·rw[if_neg (by rw[h2];simp)];exact .inl ⟨⟨h,h2⟩,rfl⟩
  ·rw[if_pos (by simpa using h2)];exact .inr ⟨fun z=>h2 z.2,_,rfl⟩
 ·rw[if_pos (by simpa using h)];exact .inr ⟨fun z=>h z.1,_,rfl⟩
theorem g_for(n:Nat)(w0 w1 w3:W)(ts:List (Option Int)):∀(s s':List Pr),(∀p∈s,p.2<ts.length)->∀z4 z5:S,
  ((∀x∈s.zip s',Gd ts x.1 x.2)/\∃z4' z5',forP 4 5 (q1o K a (run K a n)) ((s.map encPr).zip (s'.map encPr)) [.fr w0,.fr w1,.fr (.lst (ts.map encO)),.fr w3,z4,z5]=.nx [.fr w0,.fr w1,.fr (.lst (ts.map encO)),.fr w3,z4',z5'])\/((¬∀x∈s.zip s',Gd ts x.1 x.2)/\∃e,forP 4 5 (q1o K a (run K a n)) ((s.map encPr).zip (s'.map encPr)) [.fr w0,.fr w1,.fr (.lst (ts.map encO)),.fr w3,z4,z5]=.rt (.fr (.bl false)) e)
 |[],s',_,z4,z5=>.inl ⟨fun x hx=>by simp at hx,z4,z5,rfl⟩
 |p::s,[],_,z4,z5=>.inl ⟨fun x hx=>by simp at hx,z4,z5,rfl⟩
 |p::s,q::s',h,z4,z5=>by
  have st:forP 4 5 (q1o K a (run K a n)) (((p::s).map encPr).zip ((q::s').map encPr)) [.fr w0,.fr w1,.fr (.lst (ts.map encO)),.fr w3,z4,z5]=(q1o K a (run K a n) [.fr w0,.fr w1,.fr (.lst (ts.map encO)),.fr w3,.fr (encPr p),.fr (encPr q)]).turnT (forP 4 5 (q1o K a (run K a n)) ((s.map encPr).zip (s'.map encPr))):=rfl;rw[st];rcases z18 (K:=K) (a:=a) n w0 w1 w3 ts p q (h p (by simp))with⟨g,e⟩|⟨g,e',e⟩
  ·rw[e];walk_at "den";rcases g_for n w0 w1 w3 ts s s' (fun x hx=>h x (by simp[hx])) (.fr (encPr p)) (.fr (encPr q))with⟨g2,y⟩|⟨g2,y⟩
   ·refine .inl ⟨fun x hx=>?_,y⟩
    rw[w3a]at hx;rcases w0h.mp hx with rfl|hx
    ·exact g
    ·exact g2 x hx
   ·refine .inr ⟨fun z=>g2 fun x hx=>z x ?_,y⟩
    rw[w3a];exact w0t _ hx
  ·rw[e];refine .inr ⟨fun z=>g (z (p,q) ?_),e',rfl⟩
   rw[w3a];exact w1f ..
def Goes(c':Mc)(ts:List (Option Int))(s:List Pr):Option Int->Prop
 |none=>True
 |some i=>∀x∈s.zip (c'.states.getD i.toNat []),Gd ts x.1 x.2
theorem y3e(n:Nat)(c':Mc)(s:List Pr)(ts:List (Option Int))(hs:∀p∈s,p.2<ts.length)(o:Option Int)(ho:∀i,o=some i->0<=i/\i<(c'.states.length:Int)):
  ∃b:Bool,(b=true↔Goes c' ts s o)/\run K a (n+1) q44 [encSt s,encMc c',.lst (ts.map encO),encO o]=.ok (.fr (.bl b)):=by
 rw[q57];unfold q52;cases o with
 |none=>
  rw[show encO none=.non from rfl];walk_at "den";exact⟨true,⟨fun _=>trivial,fun _=>rfl⟩,rfl⟩
 |some i=>
  obtain⟨i0,i1⟩:=ho i rfl;obtain⟨k,rfl⟩:∃k:Nat,i=(k:Int):=⟨i.toNat,by omega⟩;rw[show encO (some (k:Int))=.int (k:Int)from rfl];walk_at "den";rw[q2b];walk_at "den";rw[q70 (show k<c'.states.length by omega)];unfold encSt;walk_at "den";rcases g_for (K:=K) (a:=a) n (.lst (s.map encPr)) (encMc c') (.int (k:Int)) ts s (c'.states.getD k []) hs .no .no with⟨g,z4,z5,e⟩|⟨g,e',e⟩
  ·rw[e];exact⟨true,⟨fun _=>g,fun _=>rfl⟩,rfl⟩
  ·rw[e];exact⟨false,⟨fun z=>(nomatch z),fun z=>absurd z g⟩,rfl⟩
theorem x3n:∀bs:List Bool,boolsW (bs.map .bl)=some bs
 |[]=>rfl
 |b::bs=>by
  show(boolsW (bs.map .bl)).map (b::·)=_;rw[x3n bs];rfl
theorem x9h(bs:List Bool):all1 [.lst (bs.map .bl)]=some (.bl (bs.all id)):=by
 show(boolsW (bs.map .bl)).map _=_;rw[x3n];rfl
theorem y3f(n:Nat)(c:Mc)(f:Int):run K a (n+1) q2n [encMc c,.int f]=.ok (.fr (.bl (decide (0<=f/\f<(c.states.length:Int))))):=by
 rw[q4f];unfold q39;walk_at "den"
 by_cases h:(0:Int)<=f
 ·rw[if_pos h,q2b];walk_at "den";rw[w0a];simp[h]
 ·rw[if_neg h];simp[h]
def inR(N:Nat):Option Int->Bool
 |none=>true
 |some i=>decide (0<=i/\i<(N:Int))
structure ShP(c c':Mc)(ts:List (Option Int)):Prop where
 m:c.m=c'.m
 w:c.wide=c'.wide
 l:ts.length=c.states.length
 r:ts.all (inR c'.states.length)=true
 z:ts.getD 0 none=some 0
 g:∀x,x<c.states.length->Goes c' ts (c.states.getD x []) (ts.getD x none)
theorem z4j{N:Nat}{o:Option Int}(h:inR N o=true):∀i,o=some i->0<=i/\i<(N:Int):=fun i e=>by
 subst e;exact of_decide_eq_true h
theorem x3o{d:Den W}{pe:List S}(f:α->W×W)(P:α->Prop):∀(ps:List α),(∀p∈ps,∃b:Bool,(b=true↔P p)/\∃e',d (.fr (f p).1::.fr (f p).2::pe)=.ok (.bl b) e')->∃bs:List Bool,compP dYes d pe (ps.map f)=some (bs.map .bl)/\(bs.all id=true↔∀p∈ps,P p)
 |[],_=>⟨[],rfl,by simp⟩
 |p::ps,h=>by
  obtain⟨b,hb,e',he⟩:=h p (by simp);obtain⟨bs,h1,h2⟩:=x3o f P ps fun q hq=>h q (by simp[hq])
  refine⟨b::bs,?_,?_⟩
  ·show(match d (.fr (f p).1::.fr (f p).2::pe)with|.ok y _=>(compP dYes d pe (ps.map f)).map (y::·)|_=>none)=_;rw[he,h1];rfl
  ·simp only[w1z,id,w0y,h2,hb,w0h,forall_eq_or_imp]
theorem y7x{c:Mc}(h:ts.length=c.states.length){P:List Pr->Option Int->Prop}:(∀p∈c.states.zip ts,P p.1 p.2)↔∀x,x<c.states.length->P (c.states.getD x []) (ts.getD x none):=by
 constructor
 ·intro z x hx;have hx2:x<ts.length:=by omega
  have hz:x<(c.states.zip ts).length:=by rw[w3m];omega
  have:=z _ (w0v hz);rw[List.getElem_zip]at this
  simpa [List.getD,hx,hx2]using this
 ·intro z p hp;obtain⟨x,hx,e⟩:=w2p hp;rw[w3m]at hx;have h1:x<c.states.length:=by omega
  have h2:x<ts.length:=by omega
  have:=z x h1;rw[List.getElem_zip]at e;subst e
  simpa [List.getD,h1,h2]using this
theorem z19(n:Nat)(c c':Mc)(hc:c.Ok)(hc':c'.Ok)(ts:List (Option Int))(hk:ts.length<=100):∃b:Bool,(b=true↔ShP c c' ts)/\run K a (n+3) q0w [encMc c,encMc c',.lst (ts.map encO)]=.ok (.fr (.bl b)):=by
 have hpos:=hc.pos;have hmost:=hc.most;rw[q4h];unfold q3u;walk_at "den";rw[q7l n c hc];walk_at "den";rw[q7l n c' hc'];walk_at "den";rw[q5v];walk_at "den";rw[q5v];walk_at "den"
 by_cases h1:(c.m:Int)=(c'.m:Int)
 ·rw[decide_eq_true h1];walk_at "den";rw[q4k];walk_at "den";rw[q4k];walk_at "den"
  by_cases h2:(c.wide:Int)=(c'.wide:Int)
  ·rw[decide_eq_true h2];walk_at "den";rw[q2b];walk_at "den";rw[w0a,w0a]
   by_cases h3:(ts.length:Int)=(c.states.length:Int)
   ·rw[decide_eq_true h3];walk_at "den";rw[if_pos (show ts.length<=16777216 by omega)];simp only[frz1,pj1,w0q,w1q]
    have cm:compD dYes (q4b K a (run K a (n+2))) [.fr (encMc c')] (ts.map encO)=some ((ts.map (inR c'.states.length)).map .bl):=by
     rw[D.x2o (g:=fun w=>match w with|.int k=>W.bl (decide (0<=k/\k<(c'.states.length:Int)))|_=>.bl true)]
     ·rw[w1g,w1g];congr 1;refine w1i fun o _=>?_
      cases o<;>rfl
     ·intro w hw;obtain⟨o,ho,rfl⟩:=w0k.mp hw;unfold q4b;walk_at "den";cases o with
      |none=>
       rw[show encO none=.non from rfl];walk_at "den";exact⟨_,rfl⟩
      |some i=>
       rw[show encO (some i)=.int i from rfl];walk_at "den";rw[y3f];walk_at "den";exact⟨_,rfl⟩
    rw[cm];walk_at "den";rw[x9h];walk_at "den"
    by_cases h4:ts.all (inR c'.states.length)=true
    ·rw[show(ts.map (inR c'.states.length)).all id=true by rw[w3y];exact h4];walk_at "den"
     rw[show(List.map encO ts)[0]?=some (encO (ts.getD 0 none)) by
      have hk0:0<ts.length:=by omega
      rw[w0i,w0c hk0];simp[List.getD,hk0]]
     walk_at "den";rw[x6d];walk_at "den"
     by_cases h5:ts.getD 0 none=some 0
     ·rw[if_neg (by rw[h5];simp),q2b];walk_at "den";rw[if_pos (by rw[w3m,w0a,w0a];omega)];simp only[frz1,pj1,w0q,w1q]
      obtain⟨bs,hb,hb2⟩:=x3o (d:=q4a K a (run K a (n+2))) (pe:=[.fr (encMc c'),.fr (.lst (ts.map encO))]) (fun p:List Pr×Option Int=>(encSt p.1,encO p.2)) (fun p=>Goes c' ts p.1 p.2) (c.states.zip ts) (by
       intro p hp;have hp1:=(w2k (show(p.1,p.2)∈_ from hp)).1;have hp2:=(w2k (show(p.1,p.2)∈_ from hp)).2;obtain⟨b,hb1,hb⟩:=y3e (K:=K) (a:=a) (n+1) c' p.1 ts (fun q hq=>by have:=(hc.pr _ hp1 q hq).2;omega) p.2 (z4j (w0s.mp h4 _ hp2))
       refine⟨b,hb1,?_⟩;unfold q4a;walk_at "den";rw[hb];walk_at "den";exact⟨_,rfl⟩)
      rw[show(c.states.map encSt).zip (ts.map encO)=(c.states.zip ts).map fun p:List Pr×Option Int=>(encSt p.1,encO p.2) by rw[List.zip_map];rfl,hb]
      walk_at "den";rw[x9h];walk_at "den";refine⟨_,?_,rfl⟩;rw[hb2,y7x (P:=fun s o=>Goes c' ts s o) (by omega)]
      exact⟨fun z=>⟨by omega,by omega,by omega,h4,h5,z⟩,fun z=>z.g⟩
     ·rw[if_pos (by simpa using h5)];exact⟨false,⟨fun z=>(nomatch z),fun z=>absurd z.z h5⟩,rfl⟩
    ·rw[show(ts.map (inR c'.states.length)).all id=false by rw[w3y];exact w1t.mpr h4];walk_at "den";exact⟨false,⟨fun z=>(nomatch z),fun z=>absurd z.r h4⟩,rfl⟩
   ·rw[decide_eq_false h3];walk_at "den";exact⟨false,⟨fun z=>(nomatch z),fun z=>absurd z.l (by omega)⟩,rfl⟩
  ·rw[decide_eq_false h2];walk_at "den";exact⟨false,⟨fun z=>(nomatch z),fun z=>absurd z.w (by omega)⟩,rfl⟩
 ·rw[decide_eq_false h1];walk_at "den";exact⟨false,⟨fun z=>(nomatch z),fun z=>absurd z.m (by omega)⟩,rfl⟩
theorem y7y(f:Nat)(F:List Nat):ninW (.int (f:Int)) (.lst (F.map nW50))=some (.bl (!decide (f∈F))):=by
 have h1:∀F:List Nat,(F.map nW50).all scalW=true:=fun F=>by
  induction F with
  |nil=>rfl
  |cons x F ih=>show(true&&(F.map nW50).all scalW)=true;rw[ih];rfl
 have h2:∀F:List Nat,((F.map nW50).any fun y=>eqS y (.int (f:Int)))=decide (f∈F):=fun F=>by
  induction F with
  |nil=>rfl
  |cons x F ih=>
   show(eqS (.int (x:Int)) (.int (f:Int))||(F.map nW50).any _)=_;rw[ih];show(decide ((x:Int)=(f:Int))||decide (f∈F))=_
   by_cases e:x=f
   ·simp[e]
   ·rw[decide_eq_false (by omega)];simp;exact fun z=>absurd z.symm e
 show(if scalW (.int (f:Int))=true/\(F.map nW50).all scalW=true then some (W.bl (!(F.map nW50).any fun y=>eqS y (.int (f:Int))))else none)=_
 rw[if_pos ⟨rfl,h1 F⟩,h2 F]
theorem x6e(r:Nat->List W->FR)(w0 w2:W)(F:List Nat)(hF:F.length<=50)(p:Pr):q1m K a r [.fr w0,.own none (F.map nW50),.fr w2,.fr (encPr p)]=.nx [.fr w0,.own none ((addN F p.2).map nW50),.fr w2,.fr (encPr p)]:=by
 unfold q1m encPr;walk_at "den";rw[y7y];walk_at "den"
 by_cases h:p.2∈F
 ·rw[decide_eq_true h,show addN F p.2=F from if_pos h];walk_at "den"
 ·rw[decide_eq_false h,show addN F p.2=F++[p.2]from if_neg h];walk_at "den";rw[if_pos (by rw[w0a];omega),w0n];rfl
theorem x1m(r:Nat->List W->FR)(w0 w2:W):∀(s:List Pr)(F:List Nat)(z3:S),F.length+s.length<=50 ->
  ∃z3',forD 3 (q1m K a r) (s.map encPr) [.fr w0,.own none (F.map nW50),.fr w2,z3]=.nx [.fr w0,.own none (((s.map (·.2)).foldl addN F).map nW50),.fr w2,z3']
 |[],F,z3,_=>⟨z3,rfl⟩
 |p::s,F,z3,h=>by
  have hl:(addN F p.2).length<=F.length+1:=by unfold addN;split<;>simp
  have q:=x6e (K:=K) (a:=a) r w0 w2 F (by simp at h;omega) p;obtain⟨z3',g⟩:=x1m r w0 w2 s (addN F p.2) (.fr (encPr p)) (by simp at h;omega);refine⟨z3',?_⟩;show(q1m K a r [.fr w0,.own none (F.map nW50),.fr w2,.fr (encPr p)]).turnT (forD 3 (q1m K a r) (s.map encPr))=_;rw[q];walk_at "den";exact g
theorem q9p(g:Nat->List Pr)(b i:Nat):b∈bf g b i:=by
 obtain⟨m,e⟩:=q5i g b i;rw[e];simp
theorem z2a{g:Nat->List Pr}(h:(bf g b J).length=J):∀x∈bf g b J,∀p∈g x,p.2∈bf g b J:=fun x hx=>x1w J (by omega) x (by rw[w2i (by omega)];exact hx)
theorem q72{g:Nat->List Pr}(h:(bf g b J).length=J):∀d,bf g b (J+d)=bf g b J
 |0=>rfl
 |d+1=>by
  show(if J+d<(bf g b (J+d)).length then _ else bf g b (J+d))=_;rw[if_neg (by rw[q72 h d];omega),q72 h d]
theorem q1g{l:List Nat}(h:j<l.length):l.getD j 0∈l:=by
 rw[show l.getD j 0=l[j] by simp[List.getD,h]];exact w0v h
theorem y7z{c:Mc}(hc:c.Ok)(hs:Stab c L)(hx:x<c.states.length)(hr:r<2^c.m):told c (rep c L (kd c L x)) r=told c x r/\kd c L (nxt c (rep c L (kd c L x)) r)=kd c L (nxt c x r):=
 (q5h hc (q0y (q2j hx)) hx).mp (hs _ _ (q0y (q2j hx)) hx (q27 (q2j hx))) r hr
theorem z2b{c:Mc}(hc:c.Ok){B:List Nat}(hB:∀x∈B,∀p∈c.states.getD x [],p.2∈B)(hx:x∈B)(hl:x<c.states.length)(hr:r<2^c.m):nxt c x r∈B:=by
 have h1:=hc.st _ (q0x hl);have h2:=hB x hx;unfold nxt;generalize c.states.getD x []=s at h1 h2;have hr':r<s.length:=by omega
 rw[show s.getD r ([],0)=s[r] by simp[List.getD,hr']];exact h2 _ (w0v hr')
theorem z2c(n:Nat)(c:Mc)(hc:c.Ok):run K a (n+1) q1v [.lst (c.states.map encSt)]=.ok (.own none ((bf (fun x=>c.states.getD x []) 0 c.states.length).map nW50)):=by
 have hmost:=hc.most;have p8:2^c.m<=8:=w1d (w1n (by decide) hc.few) (by decide);have hall:∀j,∀x∈bf (fun x=>c.states.getD x []) 0 j,x<c.states.length:=q3m (B:=(·<c.states.length)) hc.pos fun x hx p hp=>(hc.pr _ (q0x hx) p hp).2
 rw[q30];unfold q3d;walk_at "den";rw[w0a,if_pos (q2t (by omega) (by omega))];walk_at "den"
 obtain⟨e',h2,z2,z3,rfl⟩:=q2m (b:=q2s K a (run K a n)) (i:=2) (lo:=0) (hi:=(c.states.length:Int)) c.states.length (by omega) (fun j e=>∃z2 z3:S,e=[.fr (.lst (c.states.map encSt)),.own none ((bf (fun x=>c.states.getD x []) 0 j).map nW50),z2,z3])
  [.fr (.lst (c.states.map encSt)),.own none [.int 0],.no,.no] ⟨_,_,rfl⟩ (by
  rintro j e hj ⟨z2,z3,rfl⟩;rw[w3z];show ∃e',q2s K a (run K a n) [.fr (.lst (c.states.map encSt)),.own none ((bf (fun x=>c.states.getD x []) 0 j).map nW50),.fr (.int (j:Int)),z3]=_/\_
  have hle:(bf (fun x=>c.states.getD x []) 0 j).length<=20:=q45 20 (q6s _ _ _) fun x hx=>by have:=hall j x hx;omega
  unfold q2s;walk_at "den";rw[w0a]
  by_cases h:j<(bf (fun x=>c.states.getD x []) 0 j).length
  ·have hx:(bf (fun x=>c.states.getD x []) 0 j).getD j 0<c.states.length:=hall j _ (q1g h)
   have he:bf (fun x=>c.states.getD x []) 0 (j+1)=((c.states.getD ((bf (fun x=>c.states.getD x []) 0 j).getD j 0) []).map (·.2)).foldl addN (bf (fun x=>c.states.getD x []) 0 j):=by
    show(if j<(bf (fun x=>c.states.getD x []) 0 j).length then _ else _)=_
    rw[if_pos h]
   have hl:=hc.st _ (q0x hx);obtain⟨z3',q⟩:=x1m (K:=K) (a:=a) (run K a n) (.lst (c.states.map encSt)) (.int (j:Int)) (c.states.getD ((bf (fun x=>c.states.getD x []) 0 j).getD j 0) []) (bf (fun x=>c.states.getD x []) 0 j) z3 (by omega)
   rw[<- he]at q;rw[if_pos (by omega),q1x h];unfold nW50 at q |-
   walk_at "den";rw[q70 hx];unfold encSt at q |-
   walk_at "den";rw[q];exact⟨_,rfl,_,_,rfl⟩
  ·have he:bf (fun x=>c.states.getD x []) 0 (j+1)=bf (fun x=>c.states.getD x []) 0 j:=by
    show(if j<(bf (fun x=>c.states.getD x []) 0 j).length then _ else _)=_
    rw[if_neg h]
   rw[if_neg (by omega)];refine⟨_,rfl,.fr (.int (j:Int)),z3,?_⟩;rw[he])
 rw[h2];walk_at "den"
theorem x5f{α:Type}{d:Den W}{pe:List S}{f:α->W}{P:α->Prop}:∀(ws:List W),(∀w∈ws,∃x e',d (.fr w::pe)=.ok (f x) e'/\P x)->∃xs:List α,compD dYes d pe ws=some (xs.map f)/\xs.length=ws.length/\∀x∈xs,P x
 |[],_=>⟨[],rfl,rfl,by simp⟩
 |w::ws,h=>by
  obtain⟨x,e',he,hx⟩:=h w (by simp);obtain⟨xs,h1,h2,h3⟩:=x5f (f:=f) ws fun u hu=>h u (by simp[hu])
  refine⟨x::xs,?_,by simp[h2],by simpa using ⟨hx,h3⟩⟩;show(match d (.fr w::pe)with|.ok y _=>(compD dYes d pe ws).map (y::·)|_=>none)=_;rw[he,h1];rfl
def Sm(c d:Mc):Nat->Nat->Nat->Prop
 |0,_,_=>True
 |t+1,i,j=>∀r,r<2^c.m->told c i r=told d j r/\Sm c d t (nxt c i r) (nxt d j r)
def Al(c d:Mc)(i j:Nat):Prop:=∀t,Sm c d t i j
theorem q6w{c d e:Mc}(h:c.m=d.m):∀{t i j k:Nat},Sm c d t i j->Sm d e t j k->Sm c e t i k
 |0,_,_,_,_,_=>trivial
 |t+1,_,_,_,h1,h2=>fun r hr=>⟨(h1 r hr).1.trans (h2 r (by rw[<- h];exact hr)).1,q6w h (h1 r hr).2 (h2 r (by rw[<- h];exact hr)).2⟩
theorem x0j{c d:Mc}(h:c.m=d.m):∀{t i j:Nat},Sm c d t i j->Sm d c t j i
 |0,_,_,_=>trivial
 |t+1,_,_,h1=>fun r hr=>⟨(h1 r (by rw[h];exact hr)).1.symm,x0j h (h1 r (by rw[h];exact hr)).2⟩
theorem Al.trans{c d e:Mc}(h:c.m=d.m){k:Nat}(h1:Al c d i j)(h2:Al d e j k):Al c e i k:=fun t=>q6w h (h1 t) (h2 t)
theorem Al.symm{c d:Mc}(h:c.m=d.m)(h1:Al c d i j):Al d c j i:=fun t=>x0j h (h1 t)
theorem Al.step{c d:Mc}{r:Nat}(h:Al c d i j)(hr:r<2^c.m):told c i r=told d j r/\Al c d (nxt c i r) (nxt d j r):=⟨(h 1 r hr).1,fun t=>(h (t+1) r hr).2⟩
theorem x1x{c:Mc}(hc:c.Ok):∀{t i j:Nat},i<c.states.length->j<c.states.length->(Sm c c t i j↔kd c t i=kd c t j)
 |0,i,j,_,_=>⟨fun _=>by rw[q4w,q4w],fun _=>trivial⟩
 |t+1,i,j,hi,hj=>by
  rw[q5h hc hi hj];exact forall_congr' fun r=>⟨fun h hr=>⟨(h hr).1,(x1x hc (q12 hc hi hr) (q12 hc hj hr)).mp (h hr).2⟩,fun h hr=>⟨(h hr).1,(x1x hc (q12 hc hi hr) (q12 hc hj hr)).mpr (h hr).2⟩⟩
theorem q73{c:Mc}(hc:c.Ok)(hs:Stab c L)(hi:i<c.states.length)(hj:j<c.states.length):Al c c i j↔kd c L i=kd c L j:=
 ⟨fun h=>(x1x hc hi hj).mp (h L),fun h t=>(x1x hc hi hj).mpr (x3h hc hs t i j hi hj h)⟩
inductive F2(P:Nat->Nat->Prop):List Nat->List Nat->Prop
 |nil:F2 P [] []
 |cons {x y l m}:P x y->F2 P l m->F2 P (x::l) (y::m)
theorem F2.len:∀{l m:List Nat},F2 P l m->l.length=m.length
 |_,_,.nil=>rfl
 |_,_,.cons _ h=>by rw[w0z,w0z,h.len]
theorem F2.get:∀{l m:List Nat}{i:Nat},F2 P l m->i<l.length->P (l.getD i 0) (m.getD i 0)
 |_,_,_,.nil,h=>by cases h
 |_,_,0,.cons p _,_=>p
 |_,_,i+1,.cons _ h,hi=>by
  have:=h.get (i:=i) (by simpa using hi)
  simpa using this
theorem F2.snoc(p:P x y):∀{l m:List Nat},F2 P l m->F2 P (l++[x]) (m++[y])
 |_,_,.nil=>.cons p .nil
 |_,_,.cons q h=>.cons q (F2.snoc p h)
theorem F2.mem(u:∀x y x' y',P x y->P x' y'->(x=x'↔y=y'))(p:P x y):∀{l m:List Nat},F2 P l m->(x∈l↔y∈m)
 |_,_,.nil=>by simp
 |_,_,.cons q h=>by rw[w0h,w0h,F2.mem u p h,u _ _ _ _ p q]
theorem F2.ix(u:∀x y x' y',P x y->P x' y'->(x=x'↔y=y'))(p:P x y):∀{l m:List Nat},F2 P l m->l.idxOf x=m.idxOf y
 |_,_,.nil=>rfl
 |x'::l,y'::m,.cons q h=>by
  rw[w3o,w3o,F2.ix u p h];have:=u _ _ _ _ q p
  by_cases e:x'=x
  ·rw[beq_iff_eq.mpr e,beq_iff_eq.mpr (this.mp e)]
  ·rw[beq_eq_false_iff_ne.mpr e,beq_eq_false_iff_ne.mpr fun z=>e (this.mpr z)]
theorem F2.add(u:∀x y x' y',P x y->P x' y'->(x=x'↔y=y'))(p:P x y){m:List Nat}(h:F2 P l m):F2 P (addN l x) (addN m y):=by
 unfold addN
 by_cases e:x∈l
 ·rw[if_pos e,if_pos ((h.mem u p).mp e)];exact h
 ·rw[if_neg e,if_neg fun z=>e ((h.mem u p).mpr z)];exact h.snoc p
theorem F2.fold{P:Nat->Nat->Prop}(u:∀x y x' y',P x y->P x' y'->(x=x'↔y=y')):∀{xs ys l m:List Nat},F2 P xs ys->F2 P l m->F2 P (xs.foldl addN l) (ys.foldl addN m)
 |[],[],_,_,_,h=>h
 |[],_::_,_,_,q,_=>nomatch q
 |_::_,[],_,_,q,_=>nomatch q
 |x::xs,y::ys,l,m,q,h=>by
  cases q with
  |cons p q=>exact F2.fold (xs:=xs) (ys:=ys) (l:=addN l x) (m:=addN m y) u q (h.add u p)
theorem F2.maps{f g:α->Nat}:∀{l:List α},(∀x∈l,P (f x) (g x))->F2 P (l.map f) (l.map g)
 |[],_=>.nil
 |x::l,h=>.cons (h x (by simp)) (F2.maps fun y hy=>h y (by simp[hy]))
theorem F2.mapEq{f g:Nat->α}(e:∀x y,P x y->f x=g y):∀{l m:List Nat},F2 P l m->l.map f=m.map g
 |_,_,.nil=>rfl
 |_,_,.cons p h=>by rw[w1b,w1b,e _ _ p,F2.mapEq e h]
theorem F2.bf(u:∀x y x' y',P x y->P x' y'->(x=x'↔y=y')){g g':Nat->List Pr}{b':Nat}(p:P b b')(hg:∀x y,P x y->F2 P ((g x).map (·.2)) ((g' y).map (·.2))):∀i,F2 P (Q.bf g b i) (Q.bf g' b' i)
 |0=>.cons p .nil
 |i+1=>by
  have h:=F2.bf u p hg i;show F2 P (if i<(Q.bf g b i).length then _ else _) (if i<(Q.bf g' b' i).length then _ else _)
  by_cases e:i<(Q.bf g b i).length
  ·rw[if_pos e,if_pos (by rw[<- h.len];exact e)];exact F2.fold u (hg _ _ (h.get e)) h
  ·rw[if_neg e,if_neg (by rw[<- h.len];exact e)];exact h
theorem F2.stop{P:Nat->Nat->Prop}(u:∀x y x' y',P x y->P x' y'->(x=x'↔y=y')){g g':Nat->List Pr}{b':Nat}(p:P b b')(hg:∀x y,P x y->F2 P ((g x).map (·.2)) ((g' y).map (·.2))){I':Nat}(hI:(Q.bf g b I).length=I)(hI':(Q.bf g' b' I').length=I'):F2 P (Q.bf g b I) (Q.bf g' b' I'):=by
 have h:=F2.bf u p hg;rcases Nat.le_total I I' with le|le
 ·have l1:(Q.bf g' b' I).length=I:=by rw[<- (h I).len];exact hI
  have:=q72 l1 (I'-I);rw[show I+(I'-I)=I' by omega]at this;rw[this];exact h I
 ·have l1:(Q.bf g b I').length=I':=by rw[(h I').len];exact hI'
  have:=q72 l1 (I-I');rw[show I'+(I-I')=I by omega]at this;rw[this];exact h I'
theorem q31{c:Mc}(hc:c.Ok)(hi:i<c.states.length):c.states.getD i []=(List.range (2^c.m)).map fun r=>(told c i r,nxt c i r):=by
 have hl:=hc.st _ (q0x hi);unfold told nxt;generalize c.states.getD i []=s at hl |-
 refine List.ext_getElem (by simp[hl]) fun r h1 h2=>?_
 simp[List.getD,h1]
theorem q46{c:Mc}(hc:c.Ok){k:Nat}(hk:k∈lev c L):kPr c L k=(List.range (2^c.m)).map fun r=>(told c (rep c L k) r,kd c L (nxt c (rep c L k) r)):=by
 unfold kPr;rw[q31 hc (q0y hk),w1g];rfl
structure Rk(c d:Mc)(L L' x y:Nat):Prop where
 cm:x∈lev c L
 dm:y∈lev d L'
 a:Al c d (rep c L x) (rep d L' y)
theorem x1y{c d:Mc}(hc:c.Ok)(hd:d.Ok)(hm:c.m=d.m)(hs:Stab c L)(hs':Stab d L')(hi:i<c.states.length)(hj:j<d.states.length)(h:Al c d i j):Rk c d L L' (kd c L i) (kd d L' j):=by
 have k1:=q2j (t:=L) hi;have k2:=q2j (t:=L') hj;refine⟨k1,k2,?_⟩;have a1:=(q73 hc hs (q0y k1) hi).mpr (q27 k1);have a2:=(q73 hd hs' hj (q0y k2)).mpr (q27 k2).symm;exact a1.trans rfl (h.trans hm a2)
theorem x3p{c d:Mc}(hc:c.Ok)(hd:d.Ok)(hm:c.m=d.m)(hs:Stab c L)(hs':Stab d L'):∀x y x' y',Rk c d L L' x y->Rk c d L L' x' y'->(x=x'↔y=y'):=fun x y x' y' p q=>by
 constructor
 ·rintro rfl;have:=(q73 hd hs' (q0y p.dm) (q0y q.dm)).mp ((p.a.symm hm).trans hm.symm q.a)
  rwa [q27 p.dm,q27 q.dm]at this
 ·rintro rfl;have:=(q73 hc hs (q0y p.cm) (q0y q.cm)).mp (p.a.trans hm (q.a.symm hm))
  rwa [q27 p.cm,q27 q.cm]at this
theorem x5g{c d:Mc}(hc:c.Ok)(hd:d.Ok)(hm:c.m=d.m)(hs:Stab c L)(hs':Stab d L')(p:Rk c d L L' x y)(hr:r<2^c.m):told c (rep c L x) r=told d (rep d L' y) r/\Rk c d L L' (kd c L (nxt c (rep c L x) r)) (kd d L' (nxt d (rep d L' y) r)):=by
 obtain⟨h1,h2⟩:=p.a.step hr;exact⟨h1,x1y hc hd hm hs hs' (q12 hc (q0y p.cm) hr) (q12 hd (q0y p.dm) (by rw[<- hm];exact hr)) h2⟩
theorem canon{c d:Mc}(hc:c.Ok)(hd:d.Ok)(hm:c.m=d.m)(hw:c.wide=d.wide)(hs:Stab c L)(hs':Stab d L')(h:Al c d 0 0){I':Nat}(hI:(bf (kPr c L) (kd c L 0) I).length=I)(hI':(bf (kPr d L') (kd d L' 0) I').length=I'):
  F2 (Rk c d L L') (bf (kPr c L) (kd c L 0) I) (bf (kPr d L') (kd d L' 0) I')/\lst' c L (bf (kPr c L) (kd c L 0) I)=lst' d L' (bf (kPr d L') (kd d L' 0) I'):=by
 have u:=x3p hc hd hm hs hs'
 have f:=F2.stop u (x1y hc hd hm hs hs' hc.pos hd.pos h) (fun x y p=>by
  rw[q46 hc p.cm,q46 hd p.dm,w1g,w1g,<- hm];exact F2.maps fun r hr=>(x5g hc hd hm hs hs' p (w0o.mp hr)).2) hI hI'
 refine⟨f,?_⟩;unfold lst';rw[hm,hw];congr 1;refine F2.mapEq (fun x y p=>?_) f
 unfold numSt;rw[q46 hc p.cm,q46 hd p.dm,w1g,w1g,<- hm];refine w1i fun r hr=>?_
 obtain⟨e1,e2⟩:=x5g hc hd hm hs hs' p (w0o.mp hr);exact Prod.ext e1 (F2.ix u e2 f)
theorem x3q{c:Mc}(hc:c.Ok)(hs:Stab c L)(h:Cl c L T):∀(t x:Nat),x<T.length->Sm c (lst' c L T) t (rep c L (T.getD x 0)) x
 |0,_,_=>trivial
 |t+1,x,hx=>fun r hr=>by
  have hk:=h.mem _ (q1g hx);obtain⟨e1,e2⟩:=x9c hc h hx hr;have hn:=q12 hc (q0y hk) hr
  have hin:kd c L (nxt c (rep c L (T.getD x 0)) r)∈T:=h.cl _ (q1g hx) (told c (rep c L (T.getD x 0)) r,kd c L (nxt c (rep c L (T.getD x 0)) r)) (by
   rw[q46 hc hk];exact w0k.mpr ⟨r,w0o.mpr hr,rfl⟩)
  refine⟨e1.symm,?_⟩;rw[e2];have ih:=x3q hc hs h t _ (q5e hin);rw[q7n hin]at ih;have k1:=q2j (t:=L) hn;exact q6w rfl ((q73 hc hs hn (q0y k1)).mpr (q27 k1).symm t) ih
theorem x0k{c:Mc}(hc:c.Ok)(hs:Stab c L)(hI:(bf (kPr c L) (kd c L 0) I).length=I):Al c (lst' c L (bf (kPr c L) (kd c L 0) I)) 0 0:=fun t=>by
 have h:=q6u hc hI;have:=x3q hc hs h t 0 h.pos;obtain⟨m,hm⟩:=q5i (kPr c L) (kd c L 0) I;have e:(bf (kPr c L) (kd c L 0) I).getD 0 0=kd c L 0:=by rw[hm];rfl
 rw[e]at this;have k1:=q2j (t:=L) hc.pos;exact q6w rfl ((q73 hc hs hc.pos (q0y k1)).mpr (q27 k1).symm t) this
theorem q8s{β γ:Type}(f:α->β)(g:α->γ):∀l:List α,(l.map f).zip (l.map g)=l.map fun x=>(f x,g x)
 |[]=>rfl
 |x::l=>by rw[w1b,w1b,w3a,q8s f g l];rfl
def numO(c:Mc)(L:Nat)(T P:List Nat)(x:Nat):Option Int:=if x∈P then some ((T.idxOf (kd c L x):Nat):Int)else none
def nums(c:Mc)(L:Nat)(T P:List Nat):List (Option Int):=(List.range c.states.length).map (numO c L T P)
theorem y3g(c:Mc)(L:Nat)(T P:List Nat):numL c L T P=(nums c L T P).map encO:=by
 unfold numL nums;rw[w1g];refine w1i fun x _=>?_
 show numW c L T P x=encO (numO c L T P x);unfold numW numO;split<;>rfl
theorem q8t(c:Mc)(L:Nat)(T P:List Nat):(nums c L T P).length=c.states.length:=by unfold nums;rw[w0a,w2a]
theorem q5w{c:Mc}{P:List Nat}(h:x<c.states.length):(nums c L T P).getD x none=numO c L T P x:=by
 unfold nums;simp[List.getD,h]
theorem x3r{c:Mc}(hc:c.Ok)(hs:Stab c L)(hI:(bf (kPr c L) (kd c L 0) I).length=I)(hJ:(bf (fun x=>c.states.getD x []) 0 J).length=J):
  ShP c (lst' c L (bf (kPr c L) (kd c L 0) I)) (nums c L (bf (kPr c L) (kd c L 0) I) (bf (fun x=>c.states.getD x []) 0 J)):=by
 have h:=q6u hc hI;have hck:=x0h hc hs h (q9p _ _ _) J;have hB:=z2a hJ;obtain⟨m0,hh⟩:=q5i (kPr c L) (kd c L 0) I;have h0:=q9p (fun x=>c.states.getD x []) 0 J
 have hd:=h.ok hc;have hlen:(lst' c L (bf (kPr c L) (kd c L 0) I)).states.length=(bf (kPr c L) (kd c L 0) I).length:=x0g;generalize hP:bf (fun x=>c.states.getD x []) 0 J=P at *
 generalize hT:bf (kPr c L) (kd c L 0) I=T at *;refine⟨rfl,rfl,q8t ..,?_,?_,fun x hx=>?_⟩
 ·refine w0s.mpr fun o ho=>?_
  unfold nums at ho;obtain⟨x,hx,rfl⟩:=w0k.mp ho;unfold numO;split
  ·rename_i hxp;have:=q5e (hck x hxp).2;exact decide_eq_true ⟨by omega,by rw[hlen];omega⟩
  ·rfl
 ·rw[q5w hc.pos];unfold numO;rw[if_pos h0,hh];simp
 ·rw[q5w hx];unfold numO;split
  ·rename_i hxp;have hk:=(hck x hxp).2;show ∀z∈(c.states.getD x []).zip ((lst' c L T).states.getD (T.idxOf (kd c L x)) []),Gd _ z.1 z.2;have hix:=q5e hk;rw[q31 hc hx,q31 hd (by rw[hlen];exact hix)];intro z hz;rw[show(lst' c L T).m=c.m from rfl,q8s]at hz;obtain⟨r,hr,rfl⟩:=w0k.mp hz;have hr:=w0o.mp hr;obtain⟨e1,e2⟩:=x9c hc h hix hr;rw[q7n hk]at e1 e2;obtain⟨f1,f2⟩:=y7z hc hs hx hr;refine⟨by show told c x r=told (lst' c L T) _ r;rw[e1,f1],?_⟩;show(nums c L T P).getD (nxt c x r) none=some ((nxt (lst' c L T) _ r:Nat):Int);rw[q5w (q12 hc hx hr),e2,f2];exact if_pos (z2b hc hB hxp hx hr)
  ·trivial
theorem x9i{c:Mc}(hc:c.Ok)(hs:Stab c L)(hI:(bf (kPr c L) (kd c L 0) I).length=I){L2 I2 J2:Nat}(hs2:Stab (lst' c L (bf (kPr c L) (kd c L 0) I)) L2)
  (hI2:(bf (kPr (lst' c L (bf (kPr c L) (kd c L 0) I)) L2) (kd (lst' c L (bf (kPr c L) (kd c L 0) I)) L2 0) I2).length=I2)(hJ2:(bf (fun x=>(lst' c L (bf (kPr c L) (kd c L 0) I)).states.getD x []) 0 J2).length=J2):
  lst' (lst' c L (bf (kPr c L) (kd c L 0) I)) L2 (bf (kPr (lst' c L (bf (kPr c L) (kd c L 0) I)) L2) (kd (lst' c L (bf (kPr c L) (kd c L 0) I)) L2 0) I2)=lst' c L (bf (kPr c L) (kd c L 0) I) /\
  nums (lst' c L (bf (kPr c L) (kd c L 0) I)) L2 (bf (kPr (lst' c L (bf (kPr c L) (kd c L 0) I)) L2) (kd (lst' c L (bf (kPr c L) (kd c L 0) I)) L2 0) I2) (bf (fun x=>(lst' c L (bf (kPr c L) (kd c L 0) I)).states.getD x []) 0 J2)=(List.range (bf (kPr c L) (kd c L 0) I).length).map fun x:Nat=>some (x:Int):=by
 have h:=q6u hc hI;have hd:=h.ok hc;have al0:=Al.symm (show c.m=(lst' c L (bf (kPr c L) (kd c L 0) I)).m from rfl) (x0k hc hs hI);obtain⟨f,e⟩:=canon hd hc rfl rfl hs2 hs al0 hI2 hI;refine⟨e,?_⟩;have hlen:(lst' c L (bf (kPr c L) (kd c L 0) I)).states.length=(bf (kPr c L) (kd c L 0) I).length:=x0g;obtain⟨m0,hh⟩:=q5i (kPr c L) (kd c L 0) I
 have u2:∀x y x' y',(x<(bf (kPr c L) (kd c L 0) I).length/\y=(bf (kPr c L) (kd c L 0) I).getD x 0)->(x'<(bf (kPr c L) (kd c L 0) I).length/\y'=(bf (kPr c L) (kd c L 0) I).getD x' 0)->(x=x'↔y=y'):=by
  rintro x y x' y' ⟨p1,rfl⟩ ⟨q1,rfl⟩;refine⟨fun z=>by rw[z],fun z=>?_⟩
  rw[<- x6a h.nd p1,z,x6a h.nd q1]
 have f2:=F2.stop (P:=fun x y=>x<(bf (kPr c L) (kd c L 0) I).length/\y=(bf (kPr c L) (kd c L 0) I).getD x 0) u2 (g:=fun x=>(lst' c L (bf (kPr c L) (kd c L 0) I)).states.getD x []) (b:=0) ⟨h.pos,by rw[hh];rfl⟩ (fun x y ⟨p1,p2⟩=>by
  subst p2;show F2 _ (((lst' c L (bf (kPr c L) (kd c L 0) I)).states.getD x []).map (·.2)) _;rw[x9b p1];unfold numSt;rw[w1g]
  exact F2.maps fun p hp=>by
   have:=h.cl _ (q1g p1) p hp;exact⟨q5e this,(q7n this).symm⟩) hJ2 hI
 have u:=x3p hd hc rfl hs2 hs;unfold nums;rw[hlen];refine w1i fun x hx=>?_
 have hx:=w0o.mp hx;have hxd:x<(lst' c L (bf (kPr c L) (kd c L 0) I)).states.length:=by rw[hlen];exact hx
 have hk:=h.mem _ (q1g hx);have al:Al (lst' c L (bf (kPr c L) (kd c L 0) I)) c x (rep c L ((bf (kPr c L) (kd c L 0) I).getD x 0)):=fun t=>x0j (show c.m=(lst' c L (bf (kPr c L) (kd c L 0) I)).m from rfl) (x3q hc hs h t x hx)
 have rk:=x1y hd hc rfl hs2 hs hxd (q0y hk) al;rw[q27 hk]at rk;have ix:=F2.ix u rk f;rw[x6a h.nd hx]at ix;have hxl:=f2.len;have g:=f2.get (i:=x) (by rw[hxl];exact hx);have gx:=(u2 _ _ x _ g ⟨hx,rfl⟩).mpr rfl
 have hin:x∈bf (fun x=>(lst' c L (bf (kPr c L) (kd c L 0) I)).states.getD x []) 0 J2:=by
  have:=q1g (l:=bf (fun x=>(lst' c L (bf (kPr c L) (kd c L 0) I)).states.getD x []) 0 J2) (j:=x) (by rw[hxl];exact hx)
  rw[gx]at this;exact this
 unfold numO;rw[if_pos hin,ix]
theorem y3h{c o:Mc}(hc:c.Ok)(ho:o.Ok)(hm:o.m=c.m){LO IO:Nat}(hs:Stab c L)(hsO:Stab o LO)(hI:(bf (kPr c L) (kd c L 0) I).length=I)(hIO:(bf (kPr o LO) (kd o LO 0) IO).length=IO)
  (hx:∀x r,x<c.states.length->r<2^c.m->nxt o x r=nxt c x r)(hy:y∈bf (fun x=>c.states.getD x []) 0 J)(hr:r<2^c.m)(hne:told o y r≠told c y r):
  lst' o LO (bf (kPr o LO) (kd o LO 0) IO)≠lst' c L (bf (kPr c L) (kd c L 0) I):=fun e=>by
 have a1:=x0k ho hsO hIO;have a2:=Al.symm (show c.m=(lst' c L (bf (kPr c L) (kd c L 0) I)).m from rfl) (x0k hc hs hI);rw[e]at a1;have a0:Al o c 0 0:=Al.trans (show o.m=(lst' c L (bf (kPr c L) (kd c L 0) I)).m from hm) a1 a2
 have all:=q3m (g:=fun x=>c.states.getD x []) (b:=0) (B:=fun x=>x<c.states.length/\Al o c x x) ⟨hc.pos,a0⟩ (fun x ⟨h1,h2⟩ p hp=>by
  have hp:p∈c.states.getD x []:=hp;rw[q31 hc h1]at hp;obtain⟨q,hq,rfl⟩:=w0k.mp hp;have hq:=w0o.mp hq;have:=(h2.step (r:=q) (by rw[hm];exact hq)).2;rw[hx x q h1 hq]at this;exact⟨q12 hc h1 hq,this⟩) J y hy
 exact hne (all.2.step (by rw[hm];exact hr)).1
def cpL(x:Str):List Nat:=x.cps.toList
def nS(i:Int):List Nat:=cpL ((toString i:String):Str)
mutual
def sW:W->List Nat
 |.non=>[78,111,110,101]
 |.bl b=>if b then[84,114,117,101]else[70,97,108,115,101]
 |.int i=>nS i
 |.tup ws=>40::(jW ws++if ws.length==1 then[44,41]else[41])
 |.lst ws=>91::(jW ws++[93])
 |_=>[]
def jW:List W->List Nat
 |[]=>[]
 |w::ws=>sW w++tW ws
def tW:List W->List Nat
 |[]=>[]
 |w::ws=>44::32::(sW w++tW ws)
end
theorem q5j(a b:Str):cpL (a++b)=cpL a++cpL b:=by
 show((a++b).cps).toList=_;rw[Str.cps_append,w3l];rfl
theorem q8u:∀(ws:List W)(ts:List Str),ts.map cpL=ws.map sW->cpL (Str.join ", " ts)=jW ws
 |[],[],_=>rfl
 |[],_::_,h=>by simp at h
 |_::_,[],h=>by simp at h
 |[w],[t],h=>by
  have h:cpL t=sW w:=by simpa using h
  show cpL t=sW w++[];rw[h,w1j]
 |[w],_::_::_,h=>by simp at h
 |_::_::_,[t],h=>by simp at h
 |w::v::ws,t::u::ts,h=>by
  have h1:cpL t=sW w:=by simp at h;exact h.1
  have h2:(u::ts).map cpL=(v::ws).map sW:=by simp at h |-;exact h.2
  show cpL (t++", "++Str.join ", " (u::ts))=_;rw[q5j,q5j,h1,q8u (v::ws) (u::ts) h2];show(sW w++[44,32])++jW (v::ws)=sW w++(44::32::jW (v::ws));rw[w0p];rfl
mutual
theorem y39:∀(w:W),plainW w=true->∀d,toD w=some d->cpL d.shown=sW w
 |.non,_,d,h=>by cases h;rw[PyData.shown_none];rfl
 |.bl b,_,d,h=>by cases h;rw[PyData.shown_bool];cases b<;>rfl
 |.int i,_,d,h=>by cases h;rw[PyData.shown_int];rfl
 |.tup ws,p,d,h=>by
  obtain⟨ds,h1,rfl⟩:=w0d.mp (show(toDs ws).map PyData.tuple=some d from h);obtain⟨e1,e2⟩:=x3s ws p ds h1;rw[PyData.shown_tuple,q5j,q5j,q8u ws _ e1,e2];show([40]++jW ws)++cpL _=40::(jW ws++_);split<;>rfl
 |.lst ws,p,d,h=>by
  obtain⟨ds,h1,rfl⟩:=w0d.mp (show(toDs ws).map PyData.list=some d from h);obtain⟨e1,e2⟩:=x3s ws p ds h1;rw[PyData.shown_list,q5j,q5j,q8u ws _ e1];rfl
 |.str i,h,_,_=>by cases h
 |.exc i,h,_,_=>by cases h
 |.dic i,h,_,_=>by cases h
 |.dw _ _ _ _,h,_,_=>by cases h
 |.fn _ _ _,h,_,_=>by cases h
theorem x3s:∀(ws:List W),plainWs ws=true->∀ds,toDs ws=some ds->(PyData.shownAll ds).map cpL=ws.map sW/\ds.length=ws.length
 |[],_,ds,h=>by cases h;rw[PyData.shownAll_nil];exact⟨rfl,rfl⟩
 |w::ws,p,ds,h=>by
  have p:(plainW w&&plainWs ws)=true:=p;rw[w0y]at p;unfold toDs at h;split at h
  ·rename_i d ds' h1 h2;cases h;obtain⟨e1,e2⟩:=x3s ws p.2 ds' h2;rw[PyData.shownAll_cons,w1b,w1b,y39 w p.1 d h1,e1];exact⟨rfl,by rw[w0z,w0z,e2]⟩
  ·cases h
end
def dg(c:Nat):Bool:=48<=c&&c<=57
def dec(l:List Nat):Nat:=l.foldl (fun a c=>10*a+(c-48)) 0
theorem q7o:∀n:Fin 512,(nS ((n.val:Nat):Int)).all dg=true/\nS ((n.val:Nat):Int)≠[]/\dec (nS ((n.val:Nat):Int))=n.val:=by decide +kernel
def stp:List Nat->Bool
 |[]=>true
 |c::_=>c==44||c==41||c==93
def nsp:List Nat->Bool
 |44::32::_=>false
 |_=>true
theorem x0l:∀{l r:List Nat},l.all dg=true->stp r=true->(l++r).takeWhile dg=l
 |[],[],_,_=>rfl
 |[],c::r,_,h=>by
  have:dg c=false:=by
   have h:(c==44||c==41||c==93)=true:=h;simp only[w3j,beq_iff_eq]at h;rcases h with(rfl|rfl)|rfl<;>rfl
  rw[w3k,w4g,this];rfl
 |c::l,r,h,hr=>by
  rw[w1z,w0y]at h;rw[List.cons_append,w4g,if_pos h.1,x0l h.2 hr]
theorem y70{i j:Int}{r1 r2:List Nat}(hi:0<=i/\i<512)(hj:0<=j/\j<512)(s1:stp r1=true)(s2:stp r2=true)(e:nS i++r1=nS j++r2):i=j/\r1=r2:=by
 obtain⟨m,rfl⟩:∃n:Fin 512,i=((n.val:Nat):Int):=⟨⟨i.toNat,by omega⟩,by simp;omega⟩;obtain⟨n,rfl⟩:∃n:Fin 512,j=((n.val:Nat):Int):=⟨⟨j.toNat,by omega⟩,by simp;omega⟩;have t:=congrArg (List.takeWhile dg) e;rw[x0l (q7o m).1 s1,x0l (q7o n).1 s2]at t;rw[t]at e;have q:=congrArg dec t;rw[(q7o m).2.2,(q7o n).2.2]at q;exact⟨by rw[q],w2h e⟩
def knd:W->Nat
 |.non=>0
 |.bl true=>1
 |.bl false=>2
 |.int _=>3
 |.tup _=>4
 |_=>5
def kn:Nat->Nat
 |78=>0
 |84=>1
 |70=>2
 |40=>4
 |91=>5
 |_=>3
theorem q74:∀(w:W),plainW w=true->∃c l,sW w=c::l/\kn c=knd w/\stp (c::l)=false
 |.non,_=>⟨_,_,rfl,rfl,rfl⟩
 |.bl true,_=>⟨_,_,rfl,rfl,rfl⟩
 |.bl false,_=>⟨_,_,rfl,rfl,rfl⟩
 |.tup ws,_=>⟨_,_,rfl,rfl,rfl⟩
 |.lst ws,_=>⟨_,_,rfl,rfl,rfl⟩
 |.int i,h=>by
  have h:=of_decide_eq_true (show decide (0<=i/\i<512)=true from h);obtain⟨n,rfl⟩:∃n:Fin 512,i=((n.val:Nat):Int):=⟨⟨i.toNat,by omega⟩,by simp;omega⟩;obtain⟨a1,a2,_⟩:=q7o n;show ∃c l,nS _=c::l/\_;cases q:nS ((n.val:Nat):Int)with
  |nil=>exact absurd q a2
  |cons c l=>
   rw[q,w1z,w0y]at a1
   have hc:48<=c/\c<=57:=by
    have:=a1.1;unfold dg at this
    simpa using this
   refine⟨c,l,rfl,?_,?_⟩
   ·show kn c=3;unfold kn;split<;>first|omega|rfl
   ·show(c==44||c==41||c==93)=false;simp only[Bool.or_eq_false_iff,beq_eq_false_iff_ne];omega
 |.str i,h=>by cases h
 |.exc i,h=>by cases h
 |.dic i,h=>by cases h
 |.dw _ _ _ _,h=>by cases h
 |.fn _ _ _,h=>by cases h
theorem z2d{w v:W}(h1:plainW w=true)(h2:plainW v=true){r1 r2:List Nat}(e:sW w++r1=sW v++r2):knd w=knd v:=by
 obtain⟨c,l,a1,a2,_⟩:=q74 w h1;obtain⟨c',l',b1,b2,_⟩:=q74 v h2;rw[a1,b1]at e;have:=(List.cons.inj e).1;rw[<- a2,<- b2,this]
theorem q9q(ws:List W){e:List Nat}(h:stp e=true):stp (tW ws++e)=true:=by
 cases ws with
 |nil=>exact h
 |cons w ws=>rfl
def clo(b:Bool):List Nat:=if b then[44,41]else[41]
theorem x9j(b:Bool)(r:List Nat):stp (clo b++r)=true/\nsp (clo b++r)=true:=by cases b<;>exact⟨rfl,rfl⟩
mutual
theorem uniq:∀(w v:W),plainW w=true->plainW v=true->∀r1 r2,stp r1=true->stp r2=true->sW w++r1=sW v++r2->w=v/\r1=r2
 |w,v,h1,h2,r1,r2,s1,s2,e=>by
  have k:=z2d h1 h2 e;cases w with
  |non=>
   cases v with
   |non=>exact⟨rfl,w2h e⟩
   |bl b=>cases b<;>cases k
   |int i=>cases k
   |tup i=>cases k
   |lst i=>cases k
   |_=>cases h2
  |bl b=>
   cases v with
   |bl b'=>
    cases b<;>cases b'<;>first|exact⟨rfl,w2h e⟩|cases k
   |non=>cases b<;>cases k
   |int i=>cases b<;>cases k
   |tup i=>cases b<;>cases k
   |lst i=>cases b<;>cases k
   |_=>cases h2
  |int i=>
   cases v with
   |int j=>
    obtain⟨a,b⟩:=y70 (of_decide_eq_true h1) (of_decide_eq_true h2) s1 s2 e;exact⟨by rw[a],b⟩
   |bl b=>cases b<;>cases k
   |non=>cases k
   |tup i=>cases k
   |lst i=>cases k
   |_=>cases h2
  |tup ws=>
   cases v with
   |tup vs=>
    have e:(jW ws++clo (ws.length==1))++r1=(jW vs++clo (vs.length==1))++r2:=(List.cons.inj e).2;rw[w0p,w0p]at e;obtain⟨a1,a2⟩:=x9j (ws.length==1) r1;obtain⟨b1,b2⟩:=x9j (vs.length==1) r2;obtain⟨z1,z2⟩:=uniqs ws vs h1 h2 _ _ a1 a2 b1 b2 e;subst z1;exact⟨rfl,w2h z2⟩
   |bl b=>cases b<;>cases k
   |non=>cases k
   |int i=>cases k
   |lst i=>cases k
   |_=>cases h2
  |lst ws=>
   cases v with
   |lst vs=>
    have e:(jW ws++[93])++r1=(jW vs++[93])++r2:=(List.cons.inj e).2;rw[w0p,w0p]at e;obtain⟨z1,z2⟩:=uniqs ws vs h1 h2 _ _ rfl rfl rfl rfl e;subst z1;exact⟨rfl,(List.cons.inj z2).2⟩
   |bl b=>cases b<;>cases k
   |non=>cases k
   |int i=>cases k
   |tup i=>cases k
   |_=>cases h2
  |_=>cases h1
theorem uniqs:∀(ws vs:List W),plainWs ws=true->plainWs vs=true->∀e1 e2,stp e1=true->nsp e1=true->stp e2=true->nsp e2=true->jW ws++e1=jW vs++e2->ws=vs/\e1=e2
 |[],[],_,_,e1,e2,_,_,_,_,e=>⟨rfl,e⟩
 |[],v::vs,_,h2,e1,e2,s1,_,_,_,e=>by
  have h2:(plainW v&&plainWs vs)=true:=h2;rw[w0y]at h2;obtain⟨c,l,a1,_,a3⟩:=q74 v h2.1;have e:e1=(sW v++tW vs)++e2:=e;rw[a1]at e;subst e;have a3:(c==44||c==41||c==93)=false:=a3;have s1:(c==44||c==41||c==93)=true:=s1;rw[a3]at s1;cases s1
 |w::ws,[],h1,_,e1,e2,_,_,s2,_,e=>by
  have h1:(plainW w&&plainWs ws)=true:=h1;rw[w0y]at h1;obtain⟨c,l,a1,_,a3⟩:=q74 w h1.1;have e:(sW w++tW ws)++e1=e2:=e;rw[a1]at e;subst e;have a3:(c==44||c==41||c==93)=false:=a3;have s2:(c==44||c==41||c==93)=true:=s2;rw[a3]at s2;cases s2
 |w::ws,v::vs,h1,h2,e1,e2,s1,n1,s2,n2,e=>by
  have h1:(plainW w&&plainWs ws)=true:=h1;have h2:(plainW v&&plainWs vs)=true:=h2;rw[w0y]at h1 h2;have e:(sW w++tW ws)++e1=(sW v++tW vs)++e2:=e;rw[w0p,w0p]at e;obtain⟨rfl,z⟩:=uniq w v h1.1 h2.1 _ _ (q9q ws s1) (q9q vs s2) e;obtain⟨rfl,z2⟩:=uniqt ws vs h1.2 h2.2 e1 e2 s1 n1 s2 n2 z;exact⟨rfl,z2⟩
theorem uniqt:∀(ws vs:List W),plainWs ws=true->plainWs vs=true->∀e1 e2,stp e1=true->nsp e1=true->stp e2=true->nsp e2=true->tW ws++e1=tW vs++e2->ws=vs/\e1=e2
 |[],[],_,_,e1,e2,_,_,_,_,e=>⟨rfl,e⟩
 |[],v::vs,_,h2,e1,e2,_,n1,_,_,e=>by
  have e:e1=44::32::((sW v++tW vs)++e2):=e;subst e;cases n1
 |w::ws,[],h1,_,e1,e2,_,_,_,n2,e=>by
  have e:44::32::((sW w++tW ws)++e1)=e2:=e;subst e;cases n2
 |w::ws,v::vs,h1,h2,e1,e2,s1,n1,s2,n2,e=>by
  have h1:(plainW w&&plainWs ws)=true:=h1;have h2:(plainW v&&plainWs vs)=true:=h2;rw[w0y]at h1 h2;have e:44::32::((sW w++tW ws)++e1)=44::32::((sW v++tW vs)++e2):=e;have e:=(List.cons.inj (List.cons.inj e).2).2;rw[w0p,w0p]at e;obtain⟨rfl,z⟩:=uniq w v h1.1 h2.1 _ _ (q9q ws s1) (q9q vs s2) e;obtain⟨rfl,z2⟩:=uniqt ws vs h1.2 h2.2 e1 e2 s1 n1 s2 n2 z;exact⟨rfl,z2⟩
end
theorem y3i{vs:List W}(h1:plainWs ws=true)(h2:plainWs vs=true){x:Str}(e1:repr1 [.tup ws]=some (.str x))(e2:repr1 [.tup vs]=some (.str x)):ws=vs:=by
 have key:∀us:List W,plainWs us=true->repr1 [.tup us]=some (.str x)->cpL x=sW (.tup us):=fun us h e=>by
  obtain⟨d,hd,_⟩:=q8j (.tup us) h;have e:(toD (.tup us)).bind (fun d=>if d.showable=true/\d.depth<=100/\d.shown.length<=16777216 then some (W.str d.shown)else none)=some (.str x):=e
  rw[hd]at e;have e:(if d.showable=true/\d.depth<=100/\d.shown.length<=16777216 then some (W.str d.shown)else none)=some (.str x):=e;split at e
  ·injection e with e
   injection e with e
   rw[<- e];exact y39 (.tup us) h d hd
  ·cases e
 have q:=(key ws h1 e1).symm.trans (key vs h2 e2);have:=(uniq (.tup ws) (.tup vs) h1 h2 [] [] rfl rfl (by rw[q])).1;injection this
theorem modN{v q:Int}(hq:0<q):∃j:Nat,v%q=(j:Int)/\(j:Int)<q:=by
 have h1:=w2f v (show q≠0 by omega);have h2:=w2j v hq;exact⟨(v%q).toNat,by omega,by omega⟩
theorem x3t:∀l:List Nat,depWs (l.map nW50)=0
 |[]=>rfl
 |x::l=>by show max 0 (depWs (l.map nW50))=0;rw[x3t l];rfl
theorem z4k(l:List Nat):ne2 (.lst (l.map nW50)) (.lst [])=some (.bl (!decide (l=[]))):=by
 show(if depWs (l.map nW50)+1<=150 then(eqWs (l.map nW50) []).map (fun b=>W.bl (!b))else none)=_
 rw[x3t,if_pos (by decide)];cases l<;>rfl
theorem x9k{β:Type}(f:α->β):∀(l:List α)(j:Nat),(l.map f).eraseIdx j=(l.eraseIdx j).map f
 |[],_=>rfl
 |x::l,0=>rfl
 |x::l,j+1=>by
  show f x::(l.map f).eraseIdx j=_;rw[x9k f l j];rfl
theorem x3u(n:Nat)(ns:List Int)(w1 w2 w3:W):∀(q fuel:Nat)(st ord:List Nat),st.length=q->q<fuel->ord.length+q<=20 ->
  ∃m:List Nat,m.length=q/\(∀x,x∈m↔x∈st)/\whileD (q1w K a (run K a (n+1))) (q2h K a (run K a (n+1))) fuel [.fr (.lst (ns.map .int)),.fr w1,.fr w2,.fr w3,.own none (st.map nW50),.own none (ord.map nW50),.no,.no,.no,.no,.no] =
   .nx [.fr (.lst (ns.map .int)),.fr w1,.fr w2,.fr w3,.own none [],.own none ((ord++m).map nW50),.no,.no,.no,.no,.no]
 |q,0,st,ord,_,hf,_=>by omega
 |0,fuel+1,st,ord,h,hf,ho=>by
  have:st=[]:=List.length_eq_zero_iff.mp h;subst this;refine⟨[],rfl,fun x=>Iff.rfl,?_⟩
  rw[q7v];unfold q1w;walk_at "den";rw[show ne2 (W.lst []) (.lst [])=some (.bl false)from rfl];walk_at "den";rw[w1j]
 |q+1,fuel+1,st,ord,h,hf,ho=>by
  obtain⟨j,hj,hj2⟩:=modN (v:=mix2 (ns.getD 21 0) (st.length:Int)) (q:=(st.length:Int)) (by omega);have hlt:j<st.length:=by omega
  obtain⟨m,m1,m2,g⟩:=x3u n ns w1 w2 w3 q fuel (st.eraseIdx j) (ord++[st[j]]) (by rw[List.length_eraseIdx,if_pos hlt];omega) (by omega) (by simp;omega);refine⟨st[j]::m,by simp[m1],fun x=>?_,?_⟩
  ·rw[w0h,m2];constructor
   ·rintro(rfl|h)
    ·exact w0v hlt
    ·exact List.mem_of_mem_eraseIdx h
   ·intro hx;obtain⟨i,hi,e⟩:=w2d.mp hx
    by_cases z:i=j
    ·subst z;exact .inl e.symm
    ·exact .inr (List.mem_eraseIdx_iff_getElem.mpr ⟨i,hi,z,e⟩)
  ·have hw:q1w K a (run K a (n+1)) [.fr (.lst (ns.map .int)),.fr w1,.fr w2,.fr w3,.own none (st.map nW50),.own none (ord.map nW50),.no,.no,.no,.no,.no]=.ok true [.fr (.lst (ns.map .int)),.fr w1,.fr w2,.fr w3,.own none (st.map nW50),.own none (ord.map nW50),.no,.no,.no,.no,.no]:=by
    unfold q1w;walk_at "den";rw[z4k,decide_eq_false (fun z=>by rw[z]at h;cases h)]
    walk_at "den"
   have hb:q2h K a (run K a (n+1)) [.fr (.lst (ns.map .int)),.fr w1,.fr w2,.fr w3,.own none (st.map nW50),.own none (ord.map nW50),.no,.no,.no,.no,.no]=.nx [.fr (.lst (ns.map .int)),.fr w1,.fr w2,.fr w3,.own none ((st.eraseIdx j).map nW50),.own none ((ord++[st[j]]).map nW50),.no,.no,.no,.no,.no]:=by
    unfold q2h;walk_at "den";rw[q4v n ns (by omega)];walk_at "den";rw[w0a,q5u n];walk_at "den";rw[w0a,if_pos (by omega),hj];walk_at "den";rw[y2s (w:=nW50 st[j]) (by rw[w0i,w0c hlt];rfl) (by omega)];walk_at "den";rw[if_pos (by rw[w0a];omega),w0n,x9k];rfl
   rw[q7v,hw];walk_at "den";rw[hb];walk_at "den";rw[g,w0p];rfl
theorem q47(q:Nat):rangeW 0 (q:Int)=(List.range q).map nW50:=by
 unfold rangeW;simp[nW50]
theorem x5h{cc:Den Bool}{d:Den W}{pe:List S}{q:Nat->Bool}:∀(l:List Nat),(∀j∈l,∃e1,cc (.fr (nW50 j)::pe)=.ok (q j) e1/\(q j=true->∃e2,d e1=.ok (nW50 j) e2))->compD cc d pe (l.map nW50)=some ((l.filter q).map nW50)
 |[],_=>rfl
 |j::l,h=>by
  obtain⟨e1,h1,h2⟩:=h j (by simp);have ih:=x5h l fun u hu=>h u (by simp[hu])
  rw[w1b,x7r,h1];cases hq:q j with
  |true=>
   obtain⟨e2,h3⟩:=h2 hq;dsimp only;rw[h3,ih,w3f,if_pos hq];rfl
  |false=>
   dsimp only;rw[ih,w3f,if_neg (by rw[hq];decide)]
def TwS(ord:List Nat)(s st:List Pr):Prop:=st.length=s.length/\∀(r:Nat)(p q:Pr),s[r]?=some p->st[r]?=some q->q.1=p.1/\q.2<ord.length/\ord.getD q.2 0=p.2
theorem y71(n:Nat)(w0 w1 w2:W)(cell:Int)(ord:List Nat)(ho:ord.length<=20)(sts:List W)(k:Nat)(st:List Pr)(hst:st.length<=100)(p:Pr)(hp:p.2∈ord)(z5 z10:S)(hz:z5=.own none (ord.map nW50)\/z5=.fr (.lst (ord.map nW50))):
  ∃j:Nat,j<ord.length/\ord.getD j 0=p.2/\∃y10,q09 K a (run K a (n+1)) [.fr w0,.fr w1,.fr w2,.fr (.int cell),.own none [],z5,.own none sts,.fr (.int (k:Int)),.own none (st.map encPr),.fr (encPr p),z10] =
   .nx [.fr w0,.fr w1,.fr w2,.fr (.int cell),.own none [],.fr (.lst (ord.map nW50)),.own none sts,.fr (.int (k:Int)),.own none ((st++[(p.1,j)]).map encPr),.fr (encPr p),y10]:=by
 have ix1:ixW (encPr p) (.int 1)=some (.int (p.2:Int)):=rfl;have ix0:ixW (encPr p) (.int 0)=some (encB p.1):=rfl
 have cf:∀pe,pe=[.fr (.lst (ord.map nW50)),.fr (encPr p)]->compD (q4r K a (run K a (n+1))) (q4q K a (run K a (n+1))) pe (rangeW 0 (ord.length:Int))=some (((List.range ord.length).filter fun j=>decide (ord.getD j 0=p.2)).map nW50):=fun pe hpe=>by
  subst hpe;rw[q47,x5h (q:=fun j=>decide (ord.getD j 0=p.2)) (List.range ord.length) fun j hj=>?_]
  have hj:=w0o.mp hj;unfold q4r q4q;walk_at "den";rw[show ixW (W.lst (ord.map nW50)) (nW50 j)=atI (ord.map nW50) (j:Int)from rfl,q1x hj];walk_at "den";rw[ix1];walk_at "den"
  rw[show eq2 (nW50 (ord.getD j 0)) (.int (p.2:Int))=some (.bl (decide (ord.getD j 0=p.2))) by
   show some (W.bl (decide (((ord.getD j 0:Nat):Int)=(p.2:Int))))=_;rw[decide_eq_decide.mpr (show((ord.getD j 0:Nat):Int)=(p.2:Int)↔ord.getD j 0=p.2 from Int.ofNat_inj)]]
  walk_at "den";exact⟨_,rfl,fun _=>⟨_,rfl⟩⟩
 have hne:0<((List.range ord.length).filter fun j=>decide (ord.getD j 0=p.2)).length:=by
  refine w4h.mpr fun z=>?_
  have:ord.idxOf p.2∈(List.range ord.length).filter fun j=>decide (ord.getD j 0=p.2):=w2t.mpr ⟨w0o.mpr (q5e hp),decide_eq_true (q7n hp)⟩
  rw[z]at this;cases this
 have hall:∀j∈(List.range ord.length).filter (fun j=>decide (ord.getD j 0=p.2)),j<ord.length/\ord.getD j 0=p.2:=fun j hj=>by
  obtain⟨h1,h2⟩:=w2t.mp hj;exact⟨w0o.mp h1,of_decide_eq_true h2⟩
 have hfl:((List.range ord.length).filter fun j=>decide (ord.getD j 0=p.2)).length<=20:=w1d (List.length_filter_le _ _) (by rw[w2a];exact ho)
 generalize (List.range ord.length).filter (fun j=>decide (ord.getD j 0=p.2))=ks at *
 obtain⟨j,hj,hj2⟩:=modN (v:=mix2 (cell+(k:Int)) (st.length:Int)) (q:=(ks.length:Int)) (by omega);have hjl:j<ks.length:=by omega
 obtain⟨a1,a2⟩:=hall ks[j] (w0v hjl);refine⟨ks[j],a1,a2,?_⟩
 have hat:atI (ks.map nW50) (j:Int)=some (nW50 ks[j]):=by
  refine q14 ?_;rw[w0i,w0c hjl];rfl
 have go:∀z5:S,(z5=.own none (ord.map nW50)\/z5=.fr (.lst (ord.map nW50)))->∃y10,q09 K a (run K a (n+1)) [.fr w0,.fr w1,.fr w2,.fr (.int cell),.own none [],z5,.own none sts,.fr (.int (k:Int)),.own none (st.map encPr),.fr (encPr p),z10] =
   .nx [.fr w0,.fr w1,.fr w2,.fr (.int cell),.own none [],.fr (.lst (ord.map nW50)),.own none sts,.fr (.int (k:Int)),.own none ((st++[(p.1,ks[j])]).map encPr),.fr (encPr p),y10]:=by
  rintro z5 (rfl|rfl)
  all_goals
   unfold q09;walk_at "den";rw[w0a,if_pos (q2t (by omega) (by omega))];walk_at "den";rw[if_pos (by rw[q47,w0a,w2a];omega)];simp only[frz1,pj1,w2z,w2y,w0q,w1q];rw[cf _ rfl];walk_at "den";rw[ix0];walk_at "den";rw[w0a,q5u n];walk_at "den";rw[w0a,if_pos (by omega),hj];walk_at "den";rw[hat];walk_at "den";rw[if_pos (by rw[w0a];omega),w0n];exact⟨_,rfl⟩
 exact go z5 hz
theorem x9l(n:Nat)(w0 w1 w2:W)(cell:Int)(ord:List Nat)(ho:ord.length<=20)(sts:List W)(k:Nat):∀(ps done st:List Pr)(z5 z9 z10:S),(z5=.own none (ord.map nW50)\/z5=.fr (.lst (ord.map nW50)))->(∀p∈ps,p.2∈ord)->TwS ord done st->st.length+ps.length<=100 ->
  ∃(st':List Pr)(y5 y9 y10:S),TwS ord (done++ps) st'/\(y5=.own none (ord.map nW50)\/y5=.fr (.lst (ord.map nW50)))/\forD 9 (q09 K a (run K a (n+1))) (ps.map encPr) [.fr w0,.fr w1,.fr w2,.fr (.int cell),.own none [],z5,.own none sts,.fr (.int (k:Int)),.own none (st.map encPr),z9,z10] =
   .nx [.fr w0,.fr w1,.fr w2,.fr (.int cell),.own none [],y5,.own none sts,.fr (.int (k:Int)),.own none (st'.map encPr),y9,y10]
 |[],done,st,z5,z9,z10,h5,_,ht,_=>⟨st,z5,z9,z10,by rw[w1j];exact ht,h5,rfl⟩
 |p::ps,done,st,z5,z9,z10,h5,hp,ht,hl=>by
  obtain⟨j,a1,a2,y10,q⟩:=y71 (K:=K) (a:=a) n w0 w1 w2 cell ord ho sts k st (by simp at hl;omega) p (hp p (by simp)) z5 z10 h5
  have ht2:TwS ord (done++[p]) (st++[(p.1,j)]):=by
   obtain⟨t1,t2⟩:=ht;refine⟨by simp[t1],fun r p' q' h1 h2=>?_⟩
   rcases Nat.lt_or_ge r done.length with hr|hr
   ·rw[w1c hr]at h1;rw[w1c (by omega)]at h2;exact t2 r p' q' h1 h2
   ·rw[w1e hr]at h1;rw[w1e (by omega),t1]at h2;cases hd:r-done.length with
    |zero=>
     rw[hd]at h1 h2;cases h1;cases h2;exact⟨rfl,a1,a2⟩
    |succ i=>rw[hd]at h1;simp at h1
  obtain⟨st',y5,y9,y10',b1,b2,g⟩:=x9l n w0 w1 w2 cell ord ho sts k ps (done++[p]) (st++[(p.1,j)]) (.fr (.lst (ord.map nW50))) (.fr (encPr p)) y10 (.inr rfl) (fun u hu=>hp u (by simp[hu])) ht2 (by simp at hl |-;omega)
  refine⟨st',y5,y9,y10',by rw[w0p]at b1;exact b1,b2,?_⟩;show(q09 K a (run K a (n+1)) [.fr w0,.fr w1,.fr w2,.fr (.int cell),.own none [],z5,.own none sts,.fr (.int (k:Int)),.own none (st.map encPr),.fr (encPr p),z10]).turnT (forD 9 (q09 K a (run K a (n+1))) (ps.map encPr))=_;rw[q];walk_at "den";exact g
theorem z2e(n:Nat)(w0 w2:W)(cell:Int){c:Mc}(hc:c.Ok)(ord:List Nat)(ho:ord.length<=20)(hon:∀x∈ord,x<c.states.length)(hall:∀x,x<c.states.length->x∈ord)(ss:List (List Pr))(hss:ss.length<=100)(k:Nat)(hk:k<ord.length)(z5 z8 z9 z10:S)(h5:z5=.own none (ord.map nW50)\/z5=.fr (.lst (ord.map nW50))):
  ∃(st':List Pr)(y5 y8 y9 y10:S),TwS ord (c.states.getD (ord.getD k 0) []) st'/\(y5=.own none (ord.map nW50)\/y5=.fr (.lst (ord.map nW50)))/\q3e K a (run K a (n+1)) [.fr w0,.fr (encMc c),.fr w2,.fr (.int cell),.own none [],z5,.own none (ss.map encSt),.fr (.int (k:Int)),z8,z9,z10] =
   .nx [.fr w0,.fr (encMc c),.fr w2,.fr (.int cell),.own none [],y5,.own none ((ss++[st']).map encSt),.fr (.int (k:Int)),y8,y9,y10]:=by
 have hx:=hon _ (q1g hk);have hs:=q0x hx;have p8:2^c.m<=8:=w1d (w1n (by decide) hc.few) (by decide);have hl:=hc.st _ hs;obtain⟨st',y5,y9,y10,b1,b2,g⟩:=x9l (K:=K) (a:=a) n w0 (encMc c) w2 cell ord ho (ss.map encSt) k (c.states.getD (ord.getD k 0) []) [] [] z5 z9 z10 h5 (fun p hp=>hall _ (hc.pr _ hs p hp).2) ⟨rfl,fun r p q h _=>by simp at h⟩ (by rw[hl];simp;omega)
 have g:forD 9 (q09 K a (run K a (n+1))) ((c.states.getD (ord.getD k 0) []).map encPr) [.fr w0,.fr (encMc c),.fr w2,.fr (.int cell),.own none [],z5,.own none (ss.map encSt),.fr (.int (k:Int)),.own none [],z9,z10]=_:=g;refine⟨st',y5,.fr (encSt st'),y9,y10,b1,b2,?_⟩;have hix:ixW (.lst (c.states.map encSt)) (nW50 (ord.getD k 0))=some (encSt (c.states.getD (ord.getD k 0) [])):=q70 hx;rcases h5 with rfl|rfl
 all_goals
  unfold q3e;walk_at "den";rw[q2b];walk_at "den";rw[q1x hk];walk_at "den";rw[hix];walk_at "den";rw[show seqW (encSt (c.states.getD (ord.getD k 0) []))=some ((c.states.getD (ord.getD k 0) []).map encPr)from rfl];walk_at "den";rw[g];walk_at "den";rw[if_pos (by rw[w0a];omega),w0n];rfl
theorem x6f(n:Nat)(w0 w1:W)(cell:Int)(q:Nat)(hq:0<q)(hq2:q<=20)(z4 z5 z6 z7 z8 z9 z10:S):∃st:List Nat,(∀x,0<x->x<q->x∈st)/\(∀x∈st,x<q)/\st.length+1<=20 /\
  dCat (dFz (dListR2 (dCons (dC (.int 1)) (dCons (dVar 2) dNil)))) (dFz (dCompR rng1 [2,3] (dCons (dFn min2 (dCons (dOp modW (dVar 3) (dC (.int 5))) (dCons (dOp subW (dC (.int 20)) (dVar 2)) dNil))) dNil) dYes (q2i K a (run K a (n+1))))) [.fr w0,.fr w1,.fr (.int (q:Int)),.fr (.int cell),z4,z5,z6,z7,z8,z9,z10] =
   .ok (st.map nW50) [.fr w0,.fr w1,.fr (.int (q:Int)),.fr (.int cell),z4,z5,z6,z7,z8,z9,z10]:=by
 have h0:(dCons (dC (.int 1)) (dCons (dVar 2) dNil)) [.fr w0,.fr w1,.fr (.int (q:Int)),.fr (.int cell),z4,z5,z6,z7,z8,z9,z10]=.ok [.int 1,.int (q:Int)] [.fr w0,.fr w1,.fr (.int (q:Int)),.fr (.int cell),z4,z5,z6,z7,z8,z9,z10]:=by
  walk_at "den"
 have hr:okR2 1 (q:Int):=⟨⟨by omega,by omega⟩,⟨by omega,by omega⟩,by omega⟩
 have h1:(dFz (dListR2 (dCons (dC (.int 1)) (dCons (dVar 2) dNil)))) [.fr w0,.fr w1,.fr (.int (q:Int)),.fr (.int cell),z4,z5,z6,z7,z8,z9,z10]=.ok (.lst (((List.range (q-1)).map (·+1)).map nW50)) [.fr w0,.fr w1,.fr (.int (q:Int)),.fr (.int cell),z4,z5,z6,z7,z8,z9,z10]:=by
  rw[y31,x1b,h0,q6d,y2v hr,q86,q6d,show((q:Int)-1).toNat=q-1 by omega,w1g];congr 2;refine w1i fun k _=>?_
  show W.int (1+(k:Int))=W.int ((k+1:Nat):Int);congr 1;omega
 obtain⟨r,hr1,hr2⟩:∃r:Nat,(if(20:Int)-(q:Int)<cell%5 then(20:Int)-(q:Int)else cell%5)=(r:Int)/\r<=20-q:=by
  have a1:=w2f cell (show(5:Int)≠0 by decide);split
  ·exact⟨20-q,by omega,w0j _⟩
  ·exact⟨(cell%5).toNat,by omega,by omega⟩
 have h2:∃xs:List Nat,xs.length=r/\(∀x∈xs,x<q)/\(dFz (dCompR rng1 [2,3] (dCons (dFn min2 (dCons (dOp modW (dVar 3) (dC (.int 5))) (dCons (dOp subW (dC (.int 20)) (dVar 2)) dNil))) dNil) dYes (q2i K a (run K a (n+1))))) [.fr w0,.fr w1,.fr (.int (q:Int)),.fr (.int cell),z4,z5,z6,z7,z8,z9,z10]=.ok (.lst (xs.map nW50)) [.fr w0,.fr w1,.fr (.int (q:Int)),.fr (.int cell),z4,z5,z6,z7,z8,z9,z10]:=by
  obtain⟨xs,x1,x2,x3⟩:=x5f (d:=q2i K a (run K a (n+1))) (pe:=[.fr (.int (q:Int)),.fr (.int cell)]) (f:=nW50) (P:=fun x=>x<q) (rangeW 0 (r:Int)) (fun w hw=>by
   rw[q47]at hw;obtain⟨k,_,rfl⟩:=w0k.mp hw;obtain⟨j,hj,hj2⟩:=modN (v:=mix2 cell (k:Int)) (q:=(q:Int)) (by omega);unfold q2i nW50;walk_at "den";rw[q5u n];walk_at "den";rw[if_pos (by omega),hj];exact⟨j,_,rfl,by omega⟩)
  rw[q47,w0a,w2a]at x2;refine⟨xs,x2,x3,?_⟩;walk_at "den";rw[hr1,if_pos (q2t (by omega) (by omega))];walk_at "den";rw[if_pos (by rw[q47,w0a,w2a];omega)];simp only[frz1,pj1,w2z,w2y,w0q,w1q];rw[x1];walk_at "den"
 obtain⟨xs,x1,x2,h2⟩:=h2;refine⟨(List.range (q-1)).map (·+1)++xs,fun x hx hx2=>w1m _ (w0k.mpr ⟨x-1,w0o.mpr (by omega),by omega⟩),fun x hx=>?_,by simp;omega,?_⟩
 ·rcases w1p.mp hx with h|h
  ·obtain⟨k,hk,rfl⟩:=w0k.mp h;have:=w0o.mp hk;omega
  ·exact x2 x h
 ·rw[show ∀(da db:Den W) e,dCat da db e=(da e).bind fun u e1=>(db e1).bind fun v e2=>catK u e2 v from fun _ _ _=>rfl,h1,q6d,h2,q6d,w0n]
  exact if_pos (by simp;omega)
theorem y72(n:Nat)(ns:List Int){c:Mc}(hc:c.Ok)(w2:W)(cell:Int)(st:List Nat)(h1:∀x,0<x->x<c.states.length->x∈st)(h2:∀x∈st,x<c.states.length)(h3:st.length+1<=20):∃(ord:List Nat)(ss:List (List Pr)),ord.length<=20/\(∃m,ord=0::m)/\(∀x∈ord,x<c.states.length)/\ss.length=ord.length/\(∀i,i<ord.length->TwS ord (c.states.getD (ord.getD i 0) []) (ss.getD i [])) /\
  (twT K a (run K a (n+1)) [.fr (.lst (ns.map .int)),.fr (encMc c),.fr w2,.fr (.int cell),.own none (st.map nW50),.no,.no,.no,.no,.no,.no]).fn=.ok (.fr (.tup [encMc ⟨c.m,c.wide,ss⟩,.lst (ord.map nW50)])):=by
 have hpos:=hc.pos;obtain⟨m,m1,m2,g⟩:=x3u (K:=K) (a:=a) n ns (encMc c) w2 (.int cell) st.length 1000000 st [0] rfl (by omega) (by simp;omega);have hol:(0::m).length<=20:=by simp;omega
 have hon:∀x∈0::m,x<c.states.length:=fun x hx=>by
  rcases w0h.mp hx with rfl|hx
  ·exact hpos
  ·exact h2 x ((m2 x).mp hx)
 have hall:∀x,x<c.states.length->x∈0::m:=fun x hx=>by
  rcases Nat.eq_zero_or_pos x with rfl|h
  ·simp
  ·exact w0t _ ((m2 x).mpr (h1 x h hx))
 have g:whileD (q1w K a (run K a (n+1))) (q2h K a (run K a (n+1))) 1000000 [.fr (.lst (ns.map .int)),.fr (encMc c),.fr w2,.fr (.int cell),.own none (st.map nW50),.own none [.int 0],.no,.no,.no,.no,.no]=.nx [.fr (.lst (ns.map .int)),.fr (encMc c),.fr w2,.fr (.int cell),.own none [],.own none ((0::m).map nW50),.no,.no,.no,.no,.no]:=g;obtain⟨ord,hord⟩:∃o,o=0::m:=⟨_,rfl⟩;rw[<- hord]at g hol hon hall
 obtain⟨e',k1,ss,y5,y7,y8,y9,y10,s1,s2,s5,rfl⟩:=q2m (b:=q3e K a (run K a (n+1))) (i:=7) (lo:=0) (hi:=(ord.length:Int)) ord.length (by omega)
  (fun k e=>∃(ss:List (List Pr))(y5 y7 y8 y9 y10:S),ss.length=k/\(∀i,i<k->TwS ord (c.states.getD (ord.getD i 0) []) (ss.getD i []))/\(y5=.own none (ord.map nW50)\/y5=.fr (.lst (ord.map nW50)))/\e=[.fr (.lst (ns.map .int)),.fr (encMc c),.fr w2,.fr (.int cell),.own none [],y5,.own none (ss.map encSt),y7,y8,y9,y10])
  [.fr (.lst (ns.map .int)),.fr (encMc c),.fr w2,.fr (.int cell),.own none [],.own none (ord.map nW50),.own none [],.no,.no,.no,.no] ⟨[],_,_,_,_,_,rfl,fun i h=>by omega,.inl rfl,rfl⟩ (by
   rintro k e hk ⟨ss,y5,y7,y8,y9,y10,s1,s2,s5,rfl⟩;rw[w3z];obtain⟨st',u5,u8,u9,u10,t1,t5,q⟩:=z2e (K:=K) (a:=a) n (.lst (ns.map .int)) w2 cell hc ord hol hon hall ss (by omega) k hk y5 y8 y9 y10 s5;refine⟨_,q,ss++[st'],u5,_,u8,u9,u10,by simp[s1],fun i hi=>?_,t5,rfl⟩
   rcases Nat.lt_or_ge i k with h|h
   ·rw[show(ss++[st']).getD i []=ss.getD i [] by simp[List.getD,w1c (show i<ss.length by omega)]];exact s2 i h
   ·obtain rfl:i=k:=by omega
    rw[show(ss++[st']).getD i []=st' by simp[List.getD,<- s1]];exact t1)
 refine⟨ord,ss,hol,⟨m,hord⟩,hon,s1,s2,?_⟩;unfold twT;walk_at "den";rw[g];walk_at "den";rw[w0a,if_pos (q2t (by omega) (by omega))];walk_at "den";rw[k1];rcases s5 with rfl|rfl
 all_goals
  walk_at "den";rw[q5v];walk_at "den";rw[q4k];walk_at "den";rfl
theorem y73(n:Nat)(ns:List Int){c:Mc}(hc:c.Ok)(q:Nat)(hq:c.states.length=q)(cell:Int):∃(ord:List Nat)(ss:List (List Pr)),ord.length<=20/\(∃m,ord=0::m)/\(∀x∈ord,x<c.states.length)/\ss.length=ord.length/\(∀i,i<ord.length->TwS ord (c.states.getD (ord.getD i 0) []) (ss.getD i [])) /\
  (twS K a (run K a (n+1)) [.fr (.lst (ns.map .int)),.fr (encMc c),.fr (.int (q:Int)),.fr (.int cell),.no,.no,.no,.no,.no,.no,.no]).fn=.ok (.fr (.tup [encMc ⟨c.m,c.wide,ss⟩,.lst (ord.map nW50)])):=by
 have hp:=hc.pos;have hm:=hc.most;obtain⟨st,h1,h2,h3,g⟩:=x6f (K:=K) (a:=a) n (.lst (ns.map .int)) (encMc c) cell q (by omega) (by omega) .no .no .no .no .no .no .no;obtain⟨ord,ss,a1,a2,a3,a4,a5,t⟩:=y72 (K:=K) (a:=a) n ns hc (.int (q:Int)) cell st (by rw[hq];exact h1) (by rw[hq];exact h2) h3;refine⟨ord,ss,a1,a2,a3,a4,a5,?_⟩
 have e:∀(d:Den (List W))(k:List S->SR)(en:List S)(ws:List W),d en=.ok ws en->(dSeq (dSetO 4 d) k) en=k (en.set 4 (.own none ws)):=fun d k en ws h=>by
  rw[x7j,x4l,h];rfl
 have e2:=e _ (twT K a (run K a (n+1))) _ _ g;unfold twS;rw[e2];exact t
theorem x9m(n:Nat)(ns:List Int){c:Mc}(hc:c.Ok):∃(ord:List Nat)(ss:List (List Pr)),ord.length<=20/\(∃m,ord=0::m)/\(∀x∈ord,x<c.states.length)/\ss.length=ord.length/\(∀i,i<ord.length->TwS ord (c.states.getD (ord.getD i 0) []) (ss.getD i [])) /\
  run K a (n+2) q2f [.lst (ns.map .int),encMc c]=.ok (.fr (.tup [encMc ⟨c.m,c.wide,ss⟩,.lst (ord.map nW50)])):=by
 have e:∀k:List S->SR,(dSeq (dSet 2 (dFn len1 (dCons (dOp ixW (dVar 1) (dC (.int 2))) dNil))) (dSeq (dSet 3 (dCall (run K a (n+1) q0t) (dCons (dVar 0) (dCons (dC (.int 20)) dNil)))) k)) [.fr (.lst (ns.map .int)),.fr (encMc c),.no,.no,.no,.no,.no,.no,.no,.no,.no]=k [.fr (.lst (ns.map .int)),.fr (encMc c),.fr (.int (c.states.length:Int)),.fr (.int (ns.getD 20 0)),.no,.no,.no,.no,.no,.no,.no]:=fun k=>by
  walk_at "den";rw[q2b];walk_at "den";rw[w0a,q4v n ns (by omega)];walk_at "den"
 obtain⟨ord,ss,a1,a2,a3,a4,a5,t⟩:=y73 (K:=K) (a:=a) n ns hc _ rfl (ns.getD 20 0);refine⟨ord,ss,a1,a2,a3,a4,a5,?_⟩;rw[q4t,if_pos (show[W.lst (ns.map .int),encMc c].length=2 from rfl),show init 11 [W.lst (ns.map .int),encMc c]=[.fr (.lst (ns.map .int)),.fr (encMc c),.no,.no,.no,.no,.no,.no,.no,.no,.no]from rfl];unfold q4d;rw[e];exact t
theorem TwS.at{s st:List Pr}(h:TwS ord s st){r:Nat}(hr:r<s.length):(st.getD r ([],0)).1=(s.getD r ([],0)).1/\(st.getD r ([],0)).2<ord.length/\ord.getD (st.getD r ([],0)).2 0=(s.getD r ([],0)).2:=by
 have h2:r<st.length:=by rw[h.1];exact hr
 have:=h.2 r s[r] st[r] (w0c hr) (w0c h2)
 simpa [List.getD,hr,h2]using this
theorem y74{c:Mc}(hc:c.Ok){ss:List (List Pr)}(h1:ord.length<=20)(h2:∃m,ord=0::m)(h3:∀x∈ord,x<c.states.length)(h4:ss.length=ord.length)(h5:∀i,i<ord.length->TwS ord (c.states.getD (ord.getD i 0) []) (ss.getD i [])):
  Mc.Ok ⟨c.m,c.wide,ss⟩/\∀k,k<ord.length->Al c ⟨c.m,c.wide,ss⟩ (ord.getD k 0) k:=by
 have hp:0<ord.length:=by obtain⟨m,rfl⟩:=h2;simp
 have hl:∀i,i<ord.length->(c.states.getD (ord.getD i 0) []).length=2^c.m:=fun i hi=>hc.st _ (q0x (h3 _ (q1g hi)))
 have hs:∀s∈ss,∃i,i<ord.length/\s=ss.getD i []:=fun s hs=>by
  obtain⟨i,hi,rfl⟩:=w2d.mp hs;exact⟨i,by omega,by simp[List.getD,hi]⟩
 refine⟨⟨hc.few,hc.wd,by show 0<ss.length;omega,by show ss.length<=20;omega,fun s hs'=>?_,fun s hs' p hp'=>?_⟩,fun k hk t=>?_⟩
 ·obtain⟨i,hi,rfl⟩:=hs s hs';rw[(h5 i hi).1];exact hl i hi
 ·obtain⟨i,hi,rfl⟩:=hs s hs';obtain⟨r,hr,rfl⟩:=w2d.mp hp';have hr2:=hr;rw[(h5 i hi).1]at hr2;obtain⟨b1,b2,_⟩:=(h5 i hi).at hr2;have e:(ss.getD i []).getD r ([],0)=(ss.getD i [])[r]:=by generalize ss.getD i []=s at hr;simp[List.getD,hr]
  rw[e]at b1 b2;refine⟨?_,by show _<ss.length;rw[h4];exact b2⟩;rw[b1];have hx:=h3 _ (q1g hi);have e2:(c.states.getD (ord.getD i 0) []).getD r ([],0)=(c.states.getD (ord.getD i 0) [])[r]:=by generalize c.states.getD (ord.getD i 0) []=s at hr2;simp[List.getD,hr2]
  rw[e2];exact(hc.pr _ (q0x hx) _ (w0v hr2)).1
 ·have key:∀t k,k<ord.length->Sm c ⟨c.m,c.wide,ss⟩ t (ord.getD k 0) k:=fun t=>by
   induction t with
   |zero=>intro k _;trivial
   |succ t ih=>
    intro k hk r hr;obtain⟨b1,b2,b3⟩:=(h5 k hk).at (r:=r) (by rw[hl k hk];exact hr);refine⟨b1.symm,?_⟩;have:=ih _ b2;rw[b3]at this;exact this
  exact key t k hk
theorem y3j(c:Mc):W.tup [.int (c.m:Int),.int (c.wide:Int),.lst (List.map W.lst (inn c))]=encMc c:=by rw[x0i];rfl
theorem y3k(n:Nat)(c:Mc)(hc:c.Ok):run K a (n+1) q3l [encMc c]=.ok (.x (.tn [.int (c.m:Int),.int (c.wide:Int)] (inn c))):=by
 have hmost:=hc.most;have p8:2^c.m<=8:=w1d (w1n (by decide) hc.few) (by decide);rw[q5a];unfold q41;walk_at "den";rw[q5v];walk_at "den";rw[q4k];walk_at "den";rw[q2b];walk_at "den";rw[if_pos (by rw[w0a];omega),x06 (g:=unl)]
 ·rw[show(c.states.map encSt).map unl=inn c by unfold inn;rw[w1g];rfl];walk_at "den"
 ·intro w hw;obtain⟨s,hs,rfl⟩:=w0k.mp hw;have hl:=hc.st s hs;unfold encSt;walk_at "den";exact⟨_,rfl⟩
theorem y75{c:Mc}(hy:y<c.states.length):atI (inn c) (y:Int)=some ((c.states.getD y []).map encPr):=by
 refine q14 ?_;unfold inn;rw[w0i,w0c hy];simp[List.getD,hy]
theorem y3l(c:Mc)(y:Nat)(s:List Pr):((inn c).set y (s.map encPr)).map W.lst=(c.states.set y s).map encSt:=by
 rw[w4a,x0i,w4a];rfl
theorem x9n(n:Nat){c:Mc}(hc:c.Ok)(hw:0<c.wide)(tl:List Nat)(hl:tl≠[])(hl2:tl.length<=100)(ht:∀x∈tl,x<c.states.length)(cell:Int):∃(y r:Nat)(b:List Bool),y∈tl/\r<2^c.m/\b.length=c.wide/\b≠told c y r /\
  run K a (n+2) q1z [encMc c,.lst (tl.map nW50),.int cell]=.ok (.fr (encMc ⟨c.m,c.wide,c.states.set y ((c.states.getD y []).set r (b,nxt c y r))⟩)):=by
 have hp:0<tl.length:=w4h.mpr hl;obtain⟨j,hj,hj2⟩:=modN (v:=cell) (q:=(tl.length:Int)) (by omega);have hjl:j<tl.length:=by omega
 have hy:=ht _ (q1g hjl);have hst:=hc.st _ (q0x hy);obtain⟨Q,hQ⟩:∃Q,2^c.m=Q:=⟨_,rfl⟩;have hQ0:0<Q:=by rw[<- hQ];exact Nat.pow_pos (by decide)
 rw[hQ]at hst;obtain⟨r,hr,hr2⟩:=modN (v:=cell / 20) (q:=(Q:Int)) (by omega);have hrl:r<Q:=by omega
 obtain⟨p,hp1,hp2⟩:=modN (v:=cell / 160) (q:=(c.wide:Int)) (by omega);have cp:=y3k (K:=K) (a:=a) n c hc;rw[q4u];unfold q4e;walk_at "den";rw[cp];walk_at "den";rw[w0a,if_pos (by omega),hj,q1x hjl];walk_at "den";rw[y3j];walk_at "den";have hix:ixW (.lst ((inn c).map W.lst)) (nW50 (tl.getD j 0))=some (encSt (c.states.getD (tl.getD j 0) [])):=by rw[x0i];exact q70 hy
 have hpr:ixW (encSt (c.states.getD (tl.getD j 0) [])) (.int (r:Int))=some (encPr (told c (tl.getD j 0) r,nxt c (tl.getD j 0) r)):=by
  show atI ((c.states.getD (tl.getD j 0) []).map encPr) (r:Int)=_;refine q14 ?_;rw[q31 hc hy,hQ,w0i,w0i,w4f hrl];rfl
 rw[hix];walk_at "den"
 rw[show len1 [encSt (c.states.getD (tl.getD j 0) [])]=some (.int (Q:Int)) by
  show some (W.int (((c.states.getD (tl.getD j 0) []).map encPr).length:Int))=_;rw[w0a,hst]]
 walk_at "den";rw[if_pos (by omega),hr];walk_at "den";rw[hix];walk_at "den";rw[hpr];walk_at "den";rw[x5c];walk_at "den";rw[q4k];walk_at "den";rw[if_pos (by omega),hp1];walk_at "den"
 have htl:(told c (tl.getD j 0) r).length=c.wide:=by
  have hm:(told c (tl.getD j 0) r,nxt c (tl.getD j 0) r)∈c.states.getD (tl.getD j 0) []:=by
   rw[q31 hc hy,hQ];exact w0k.mpr ⟨r,w0o.mpr hrl,rfl⟩
  exact(hc.pr _ (q0x hy) _ hm).1
 generalize hb:told c (tl.getD j 0) r=bs at *;generalize hn:nxt c (tl.getD j 0) r=q at *;have hpl:p<bs.length:=by omega
 have hat:atI (bs.map W.bl) (p:Int)=some (.bl bs[p]):=by
  refine q14 ?_;rw[w0i,w0c hpl];rfl
 rw[show ixW (encPr (bs,q)) (.int 0)=some (.tup (bs.map .bl))from rfl];walk_at "den";rw[hat];walk_at "den";have ixn:∀{N k:Nat},k<N->ixN N (k:Int)=some k:=fun {N k} h=>by unfold ixN;rw[if_pos (by omega),if_pos (by omega)];simp
 rw[w0a,ixn hpl];walk_at "den";rw[show ixW (encPr (bs,q)) (.int 1)=some (.int (q:Int))from rfl];walk_at "den";have hil:(inn c).length=c.states.length:=by unfold inn;rw[w0a]
 have hia:atI (inn c) ((tl.getD j 0:Nat):Int)=some ((c.states.getD (tl.getD j 0) []).map encPr):=y75 hy
 rw[show(bs.map W.bl).set p (W.bl !bs[p])=(bs.set p !bs[p]).map .bl by rw[w4a],show W.tup [W.tup ((bs.set p !bs[p]).map .bl),.int (q:Int)]=encPr (bs.set p !bs[p],q)from rfl,show nW50 (tl.getD j 0)=.int ((tl.getD j 0:Nat):Int)from rfl,
  y2i (jj:=tl.getD j 0) (ws':=((c.states.getD (tl.getD j 0) []).set r (bs.set p !bs[p],q)).map encPr) (by rw[hil];exact ixn hy) (by
   rw[hia];show(ixN ((c.states.getD (tl.getD j 0) []).map encPr).length (r:Int)).map _=_;rw[w0a,ixn (by rw[hst];exact hrl)];show some _=some _;rw[w4a]) (by exact⟨rfl,rfl⟩)]
 walk_at "den";refine⟨tl.getD j 0,r,bs.set p !bs[p],q1g hjl,by rw[hQ];exact hrl,by rw[w2e];exact htl,fun z=>?_,?_⟩
 ·rw[hb]at z;have:=congrArg (fun l=>l[p]?) z
  simp[hpl]at this
 ·rw[hn];rw[y3l c];rfl
theorem x6g(q:Nat)(r:List Bool)(h:r.length<=q):plainW (encB r)=true/\depW (encB r)=1/\wgt (encB r)<=q:=by
 obtain⟨h1,h2,h3⟩:=q55 r;refine⟨h1,?_,?_⟩
 ·show depWs (r.map .bl)+1=1;rw[h2]
 ·show wgts (r.map .bl)<=q;rw[h3];exact h
theorem y3m(h1:plainWs ws=true)(h2:depWs ws<=90)(h3:wgts ws<=1000000):∃x:Str,repr1 [.tup ws]=some (.str x):=by
 obtain⟨d,d1,d2,d3,d4,d5⟩:=q8j (.tup ws) h1;refine⟨d.shown,?_⟩;show(toD (.tup ws)).bind _=_;rw[d1];show(if d.showable=true/\d.depth<=100/\d.shown.length<=16777216 then some (W.str d.shown)else none)=_;have hw:d.weight<=2^20:=by rw[d5];exact w1d h3 (by decide)
 have hs:=PyData.shown_fits (B:=8) (by decide) (by decide) d3 hw;rw[sizeLine_eq]at hs;exact if_pos ⟨d2,by rw[d4];show depWs ws+1<=100;omega,hs⟩
theorem x1n{wide size:Nat}(hw:wide<=24)(hs:size<=400):∀s:List Pr,(∀p∈s,p.1.length=wide/\p.2<size)->plainWs (s.map encPr)=true/\depWs (s.map encPr)<=2/\wgts (s.map encPr)<=60*s.length
 |[],_=>⟨rfl,w1k _,w1k _⟩
 |p::s,h=>by
  obtain⟨i1,i2,i3⟩:=x1n hw hs s fun q hq=>h q (by simp[hq])
  obtain⟨p1,p2⟩:=h p (by simp);obtain⟨b1,b2,b3⟩:=x6g 24 p.1 (by omega);have hi:plainW (.int (p.2:Int))=true:=decide_eq_true ⟨by omega,by omega⟩;have hg:=y1f (n:=p.2) (by omega);refine⟨?_,?_,?_⟩
  ·show((plainW (encB p.1)&&(plainW (.int (p.2:Int))&&true))&&plainWs (s.map encPr))=true;rw[b1,hi,i1];rfl
  ·show max (max (depW (encB p.1)) (max 0 0)+1) (depWs (s.map encPr))<=2;rw[b2];omega
  ·show(wgt (encB p.1)+1+(wgt (.int (p.2:Int))+1+0))+1+wgts (s.map encPr)<=60*(s.length+1);omega
theorem x1o{m wide size:Nat}(hm:m<=3)(hw:wide<=24)(hs:size<=400):∀l:List (List Pr),(∀s∈l,s.length=2^m/\∀p∈s,p.1.length=wide/\p.2<size)->plainWs (l.map encSt)=true/\depWs (l.map encSt)<=3/\wgts (l.map encSt)<=500*l.length
 |[],_=>⟨rfl,w1k _,w1k _⟩
 |s::l,h=>by
  obtain⟨i1,i2,i3⟩:=x1o hm hw hs l fun q hq=>h q (by simp[hq])
  obtain⟨s1,s2⟩:=h s (by simp);obtain⟨b1,b2,b3⟩:=x1n hw hs s s2;have hp:2^m<=2^3:=w1n (by decide) hm;have hp8:(2:Nat)^3=8:=rfl;refine⟨?_,?_,?_⟩
  ·show(plainWs (s.map encPr)&&plainWs (l.map encSt))=true;rw[b1,i1];rfl
  ·show max (depWs (s.map encPr)+1) (depWs (l.map encSt))<=3;omega
  ·show wgts (s.map encPr)+1+wgts (l.map encSt)<=500*(l.length+1);omega
theorem x9o(c:Mc)(few:c.m<=3)(wd:c.wide<=24)(most:c.states.length<=400)(st:∀s∈c.states,s.length=2^c.m/\∀p∈s,p.1.length=c.wide/\p.2<c.states.length):plainW (encMc c)=true/\depW (encMc c)<=6/\wgt (encMc c)<=201000:=by
 obtain⟨b1,b2,b3⟩:=x1o few wd most c.states st;have h1:plainW (.int (c.m:Int))=true:=decide_eq_true ⟨by omega,by omega⟩;have h2:plainW (.int (c.wide:Int))=true:=decide_eq_true ⟨by omega,by omega⟩;have g1:=x4q (n:=c.m) (by omega);have g2:=x4q (n:=c.wide) (by omega);refine⟨?_,?_,?_⟩
 ·show(plainW (.int (c.m:Int))&&(plainW (.int (c.wide:Int))&&(plainWs (c.states.map encSt)&&true)))=true;rw[h1,h2,b1];rfl
 ·show max 0 (max 0 (max (depWs (c.states.map encSt)+1) 0))+1<=6;omega
 ·show wgt (.int (c.m:Int))+1+(wgt (.int (c.wide:Int))+1+(wgts (c.states.map encSt)+1+0))<=201000;omega
theorem q8v{c:Mc}(hc:c.Ok):plainW (encMc c)=true/\depW (encMc c)<=6/\wgt (encMc c)<=201000:=
 x9o c hc.few (by have:=hc.wd;omega) (by have:=hc.most;omega) fun s hs=>⟨hc.st s hs,hc.pr s hs⟩
theorem y3n{c:Mc}(hc:c.Ok)(hy:y<c.states.length)(hr:r<2^c.m){b:List Bool}(hb:b.length=c.wide)(hne:b≠told c y r):
  Mc.Ok ⟨c.m,c.wide,c.states.set y ((c.states.getD y []).set r (b,nxt c y r))⟩/\(∀x k,x<c.states.length->k<2^c.m->nxt ⟨c.m,c.wide,c.states.set y ((c.states.getD y []).set r (b,nxt c y r))⟩ x k=nxt c x k)/\told ⟨c.m,c.wide,c.states.set y ((c.states.getD y []).set r (b,nxt c y r))⟩ y r≠told c y r:=by
 have hs:=hc.st _ (q0x hy);have hn:=q12 hc hy hr
 have hg:∀x,(c.states.set y ((c.states.getD y []).set r (b,nxt c y r))).getD x []=if x=y then(c.states.getD y []).set r (b,nxt c y r)else c.states.getD x []:=fun x=>by
  by_cases e:x=y
  ·subst e;rw[if_pos rfl];simp[List.getD,hy]
  ·rw[if_neg e];simp[List.getD,w0f (fun z=>e z.symm)]
 refine⟨⟨hc.few,hc.wd,by show 0<(c.states.set _ _).length;rw[w2e];exact hc.pos,by show(c.states.set _ _).length<=20;rw[w2e];exact hc.most,fun s h=>?_,fun s h p hp=>?_⟩,fun x k hx hk=>?_,?_⟩
 ·rcases w2m h with h|rfl
  ·exact hc.st s h
  ·rw[w2e];exact hs
 ·show _/\p.2<(c.states.set _ _).length;rw[w2e];rcases w2m h with h|rfl
  ·exact hc.pr s h p hp
  ·rcases w2m hp with hp|rfl
   ·exact hc.pr _ (q0x hy) p hp
   ·exact⟨hb,hn⟩
 ·show(((c.states.set y ((c.states.getD y []).set r (b,nxt c y r))).getD x []).getD k ([],0)).2=nxt c x k;rw[hg];split
  ·rename_i e;subst e
   by_cases e2:k=r
   ·subst e2
    have:((c.states.getD x []).set k (b,nxt c x k)).getD k ([],0)=(b,nxt c x k):=by
     rw[<- hs]at hk;generalize nxt c x k=q;generalize c.states.getD x []=s at hk;simp[List.getD,hk]
    rw[this]
   ·have:((c.states.getD x []).set r (b,nxt c x r)).getD k ([],0)=(c.states.getD x []).getD k ([],0):=by
     generalize nxt c x r=q;generalize c.states.getD x []=s;simp[List.getD,w0f (fun z=>e2 z.symm)]
    rw[this];rfl
  ·rfl
 ·show(((c.states.set y ((c.states.getD y []).set r (b,nxt c y r))).getD y []).getD r ([],0)).1≠_;rw[hg,if_pos rfl]
  have:((c.states.getD y []).set r (b,nxt c y r)).getD r ([],0)=(b,nxt c y r):=by
   rw[<- hs]at hr;generalize nxt c y r=q;generalize c.states.getD y []=s at hr;simp[List.getD,hr]
  rw[this];exact hne
theorem x9p:∀{x y:List Bool},x.map W.bl=y.map W.bl->x=y
 |[],[],_=>rfl
 |[],_::_,h=>by cases h
 |_::_,[],h=>by cases h
 |a::x,b::y,h=>by
  injection h with h1 h2
  injection h1 with h1
  rw[h1,x9p h2]
theorem x0m{f:α->W}(hf:∀x y,f x=f y->x=y):∀{l m:List α},l.map f=m.map f->l=m
 |[],[],_=>rfl
 |[],_::_,h=>by cases h
 |_::_,[],h=>by cases h
 |a::x,b::y,h=>by
  injection h with h1 h2
  rw[hf _ _ h1,x0m hf h2]
theorem y76{c d:Mc}(h:encMc c=encMc d):c=d:=by
 obtain⟨m,w,s⟩:=c;obtain⟨m',w',s'⟩:=d;have h:W.tup [.int (m:Int),.int (w:Int),.lst (s.map encSt)]=.tup [.int (m':Int),.int (w':Int),.lst (s'.map encSt)]:=h;injection h with h
 injection h with h1 h
 injection h with h2 h
 injection h with h3 _
 injection h1 with h1
 injection h2 with h2
 injection h3 with h3
 rw[show m=m' by omega,show w=w' by omega,x0m (f:=encSt) (fun x y e=>by
  injection e with e
  exact x0m (f:=encPr) (fun p q e=>by
   injection e with e
   injection e with e1 e
   injection e with e2 _
   injection e1 with e1
   injection e2 with e2
   exact Prod.ext (x9p e1) (by omega)) e) h3]
theorem q75{c:Mc}(hc:c.Ok):∃x:Str,repr1 [encMc c]=some (.str x):=by
 obtain⟨a1,a2,a3⟩:=q8v hc
 exact y3m a1 (by
  have a2:depWs [.int (c.m:Int),.int (c.wide:Int),.lst (c.states.map encSt)]+1<=6:=a2;omega) (by
  have a3:wgts [.int (c.m:Int),.int (c.wide:Int),.lst (c.states.map encSt)]<=201000:=a3;omega)
theorem y77{c d:Mc}(hc:c.Ok)(hd:d.Ok)(h:c≠d):∃x y:Str,repr1 [encMc c]=some (.str x)/\repr1 [encMc d]=some (.str y)/\x≠y:=by
 obtain⟨x,hx⟩:=q75 hc;obtain⟨y,hy⟩:=q75 hd;refine⟨x,y,hx,hy,fun z=>h (y76 ?_)⟩
 subst z;exact congrArg W.tup (y3i (q8v hc).1 (q8v hd).1 hx hy)
theorem x9q{d:Mc}(hd:d.Ok)(hl:d.states.length<20):Mc.Ok ⟨d.m,d.wide,d.states++[d.states.getD 0 []]⟩/\ShP d ⟨d.m,d.wide,d.states++[d.states.getD 0 []]⟩ ((List.range d.states.length).map fun x:Nat=>some (x:Int)):=by
 have hp:=hd.pos;have g:∀x,x<d.states.length->((List.range d.states.length).map fun x:Nat=>some (x:Int)).getD x none=some (x:Int):=fun x hx=>by simp[List.getD,hx]
 refine⟨⟨hd.few,hd.wd,by show 0<(d.states++_).length;simp,by show(d.states++_).length<=20;simp;omega,fun s hs=>?_,fun s hs p hp'=>?_⟩,rfl,rfl,by simp,?_,g 0 hp,fun x hx=>?_⟩
 ·rcases w1p.mp hs with h|h
  ·exact hd.st s h
  ·rw[w0u.mp h];exact hd.st _ (q0x hp)
 ·have:p.1.length=d.wide/\p.2<d.states.length:=by
   rcases w1p.mp hs with h|h
   ·exact hd.pr s h p hp'
   ·rw[w0u.mp h]at hp';exact hd.pr _ (q0x hp) p hp'
  exact⟨this.1,by show p.2<(d.states++_).length;simp;omega⟩
 ·refine w0s.mpr fun o ho=>?_
  obtain⟨x,hx,rfl⟩:=w0k.mp ho;have hx:=w0o.mp hx;exact decide_eq_true ⟨by omega,by show(x:Int)<((d.states++_).length:Int);simp;omega⟩
 ·rw[g x hx];show ∀z∈(d.states.getD x []).zip ((d.states++[d.states.getD 0 []]).getD x []),Gd _ z.1 z.2;rw[show(d.states++[d.states.getD 0 []]).getD x []=d.states.getD x [] by simp[List.getD,w1c hx],q31 hd hx,q8s];intro z hz;obtain⟨r,hr,rfl⟩:=w0k.mp hz;exact⟨rfl,g _ (q12 hd hx (w0o.mp hr))⟩
theorem x9r(n:Nat):((List.range n).map fun x:Nat=>some (x:Int)).map encO=(List.range n).map nW50:=by rw[w1g];rfl
theorem x3v(h:n<=20):listR1 [.int (n:Int)]=some ((List.range n).map nW50):=by
 have q:((n:Int).toNat<=16777216/\-(2^62)<=(n:Int)):=⟨by omega,by omega⟩;exact(if_pos q).trans (by rw[w1v];rfl)
theorem z4l(l:List Nat):ne2 (.lst (l.map nW50)) (.lst (l.map nW50))=some (.bl false):=by
 have e:∀l:List Nat,eqWs (l.map nW50) (l.map nW50)=some true:=fun l=>by
  induction l with
  |nil=>rfl
  |cons x l ih=>
   show(match eqW (nW50 x) (nW50 x),eqWs (l.map nW50) (l.map nW50)with|some p,some q=>some (p&&q)|_,_=>none)=_;rw[ih,show eqW (nW50 x) (nW50 x)=some true from(congrArg some (decide_eq_true (rfl:(x:Int)=(x:Int))))];rfl
 show(if depWs (l.map nW50)+1<=150 then(eqWs (l.map nW50) (l.map nW50)).map (fun b=>W.bl (!b))else none)=_
 rw[x3t,if_pos (by decide),e];rfl
theorem y4a(o:Option Int):nisW (encO o) .non=some (.bl (!decide (o=none))):=by cases o<;>rfl
theorem x9s(R:Nat->List W->FR)(w0 w1 w2 w4 w6:W)(ord:List Nat)(ts ts':List (Option Int))(k:Nat)(hk:k<ord.length)(h1:k<ts'.length)(h2:ord.getD k 0<ts.length)(he:∀i j,ts'.getD k none=some i->ts.getD (ord.getD k 0) none=some j->i=j):
  q7z K a R [.fr w0,.fr w1,.fr w2,.fr (.lst (ord.map nW50)),.fr w4,.fr (.lst (ts.map encO)),.fr w6,.fr (.lst (ts'.map encO)),.fr (.int (k:Int)),.no,.no,.no,.no]=.nx [.fr w0,.fr w1,.fr w2,.fr (.lst (ord.map nW50)),.fr w4,.fr (.lst (ts.map encO)),.fr w6,.fr (.lst (ts'.map encO)),.fr (.int (k:Int)),.no,.no,.no,.no]:=by
 unfold q7z;walk_at "den";rw[at_o h1];walk_at "den";rw[y4a];walk_at "den";rw[q1x hk];walk_at "den";rw[show ixW (.lst (ts.map encO)) (nW50 (ord.getD k 0))=some (encO (ts.getD (ord.getD k 0) none))from at_o h2];walk_at "den";rw[y4a];walk_at "den";rw[at_o h1];walk_at "den";rw[q1x hk];walk_at "den";rw[show ixW (.lst (ts.map encO)) (nW50 (ord.getD k 0))=some (encO (ts.getD (ord.getD k 0) none))from at_o h2];walk_at "den";generalize ts'.getD k none=o1 at *;generalize ts.getD (ord.getD k 0) none=o2 at *;cases o1 with
 |none=>rfl
 |some i=>
  cases o2 with
  |none=>rfl
  |some j=>
   rw[he i j rfl rfl,show ne2 (encO (some j)) (encO (some j))=some (.bl false)from(x6d (some j) j).trans (by rw[decide_eq_true rfl];rfl)];rfl
structure Law56(R:Nat->List W->FR)(ns:List Int)(c tw o:Mc)(ord:List Nat)(ts ts':List (Option Int))(Dl E:Mc)(tl:List Nat):Prop where
 okc:c.Ok
 okt:tw.Ok
 okD:Dl.Ok
 m:R q1u [.lst (ns.map .int),.int 0]=.ok (.fr (encMc c))
 t:R q2f [.lst (ns.map .int),encMc c]=.ok (.fr (.tup [encMc tw,.lst (ord.map nW50)]))
 s1:R q1t [encMc c]=.ok (.x (.new (.tup [encMc Dl,.lst (ts.map encO)])))
 s2:R q1t [encMc tw]=.ok (.x (.new (.tup [encMc Dl,.lst (ts'.map encO)])))
 h1:R q0w [encMc tw,encMc Dl,.lst (ts'.map encO)]=.ok (.fr (.bl true))
 h2:R q0w [encMc c,encMc Dl,.lst (ts.map encO)]=.ok (.fr (.bl true))
 ol:ord.length<=20
 tl1:ts.length=c.states.length
 tl2:ts'.length=ord.length
 on:∀x∈ord,x<c.states.length
 eq:∀k,k<ord.length->∀i j,ts'.getD k none=some i->ts.getD (ord.getD k 0) none=some j->i=j
 pd:Dl.states.length<20->R q0w [encMc Dl,encMc ⟨Dl.m,Dl.wide,Dl.states++[Dl.states.getD 0 []]⟩,.lst (((List.range Dl.states.length).map fun x:Nat=>some (x:Int)).map encO)]=.ok (.fr (.bl true))
 ag:R q1t [encMc Dl]=.ok (.x (.new (.tup [encMc Dl,.lst (((List.range Dl.states.length).map fun x:Nat=>some (x:Int)).map encO)])))
 lc:R q1v [.lst (c.states.map encSt)]=.ok (.own none (tl.map nW50))
 ce:R q0t [.lst (ns.map .int),.int 22]=.ok (.fr (.int (ns.getD 22 0)))
 ot:0<c.wide->R q1z [encMc c,.lst (tl.map nW50),.int (ns.getD 22 0)]=.ok (.fr (encMc o))/\∃z,R q1t [encMc o]=.ok (.x (.new (.tup [encMc E,z])))/\E.Ok/\E≠Dl
theorem x9t(R:Nat->List W->FR){ns:List Int}{c tw o:Mc}{ts':List (Option Int)}{Dl E:Mc}{tl:List Nat}(h:Law56 R ns c tw o ord ts ts' Dl E tl)(z8 z9 z10:S)(w2 w3 w5 w6 w7:W):
  (end56 K a R [.fr (.lst (ns.map .int)),.fr (encMc c),.fr w2,.fr w3,.fr (encMc Dl),.fr w5,.fr w6,.fr w7,z8,z9,z10,.no,.no]).fn=.ok (.fr (.bl true)):=by
 obtain⟨x,hx⟩:=q75 h.okD;have hDm:=h.okD.most;have hDp:=h.okD.pos;unfold end56;walk_at "den";rw[h.ag];walk_at "den";rw[hx];walk_at "den";rw[hx];walk_at "den";rw[q2b];walk_at "den";rw[w0a,x3v hDm,x9r];walk_at "den";rw[z4l];walk_at "den";rw[q4k];walk_at "den"
 by_cases hw:c.wide=0
 ·rw[hw];rfl
 ·obtain⟨o1,z,o2,okE,ne⟩:=h.ot (by omega);obtain⟨x1,y1,r1,r2,r3⟩:=y77 okE h.okD ne;rw[if_neg (by omega),q2b];walk_at "den";rw[h.lc];walk_at "den";rw[h.ce];walk_at "den";rw[o1];walk_at "den";rw[o2];walk_at "den";rw[r1];walk_at "den";rw[r2];walk_at "den";rw[decide_eq_false r3];rfl
theorem law56(R:Nat->List W->FR){ns:List Int}{c tw o:Mc}{ts':List (Option Int)}{Dl E:Mc}{tl:List Nat}(h:Law56 R ns c tw o ord ts ts' Dl E tl):
  (q9h K a R [.fr (.lst (ns.map .int)),.no,.no,.no,.no,.no,.no,.no,.no,.no,.no,.no,.no]).fn=.ok (.fr (.bl true)):=by
 have en:=fun z8 z9 z10 w2 w3 w5 w6 w7=>x9t (K:=K) (a:=a) R h z8 z9 z10 w2 w3 w5 w6 w7
 obtain⟨x,hx⟩:=q75 h.okD;have hDm:=h.okD.most;have hDp:=h.okD.pos;have hol:=h.ol;unfold q9h;walk_at "den";rw[h.m];walk_at "den";rw[h.t];walk_at "den";rw[h.s1];walk_at "den";rw[h.s2];walk_at "den";rw[hx];walk_at "den";rw[hx];walk_at "den";rw[h.h1];walk_at "den";rw[h.h2];walk_at "den";rw[w0a,if_pos (q2t (by omega) (by omega))];walk_at "den"
 obtain⟨e',h2,y8,rfl⟩:=q2m (b:=q7z K a R) (i:=8) (lo:=0) (hi:=(ord.length:Int)) ord.length (by omega) (fun k e=>∃y8,e=[.fr (.lst (ns.map .int)),.fr (encMc c),.fr (encMc tw),.fr (.lst (ord.map nW50)),.fr (encMc Dl),.fr (.lst (ts.map encO)),.fr (encMc Dl),.fr (.lst (ts'.map encO)),y8,.no,.no,.no,.no])
  [.fr (.lst (ns.map .int)),.fr (encMc c),.fr (encMc tw),.fr (.lst (ord.map nW50)),.fr (encMc Dl),.fr (.lst (ts.map encO)),.fr (encMc Dl),.fr (.lst (ts'.map encO)),.no,.no,.no,.no,.no] ⟨_,rfl⟩ (by
  rintro k e hk ⟨y8,rfl⟩;rw[w3z];exact⟨_,x9s (K:=K) (a:=a) R _ _ _ _ _ ord ts ts' k hk (by rw[h.tl2];exact hk) (by rw[h.tl1];exact h.on _ (q1g hk)) (h.eq k hk),.fr (.int (k:Int)),rfl⟩)
 rw[h2];walk_at "den";rw[q2b];walk_at "den";rw[w0a]
 by_cases h20:Dl.states.length<20
 ·rw[if_pos (by omega),q5v];walk_at "den";rw[q4k];walk_at "den";rw[q2b];walk_at "den";rw[q2b];walk_at "den";rw[show(Dl.states.map encSt)[0]?=some (encSt (Dl.states.getD 0 [])) by rw[w0i,w0c hDp];simp[List.getD,hDp]];walk_at "den";rw[show lst1 [encSt (Dl.states.getD 0 [])]=some ((Dl.states.getD 0 []).map encPr)from rfl];walk_at "den";have pd:=h.pd h20;rw[x9r]at pd;rw[if_pos (by rw[w0a];omega),x3v hDm];walk_at "den"
  rw[show W.tup [.int (Dl.m:Int),.int (Dl.wide:Int),.lst (Dl.states.map encSt++[.lst ((Dl.states.getD 0 []).map encPr)])]=encMc ⟨Dl.m,Dl.wide,Dl.states++[Dl.states.getD 0 []]⟩ by
   show _=W.tup [.int (Dl.m:Int),.int (Dl.wide:Int),.lst ((Dl.states++[Dl.states.getD 0 []]).map encSt)];rw[w0n];rfl,pd]
  walk_at "den";exact en _ _ _ _ _ _ _ _
 ·rw[if_neg (by omega)];exact en _ _ _ _ _ _ _ _
theorem y3o(M:Exs K mg a)(ns:List Int)(hl:ns.length<=63):run K a 151 q7x [.lst (ns.map .int)]=.ok (.fr (.bl true)):=by
 obtain⟨c,hc,mr⟩:=x4b (K:=K) (a:=a) 147 ns 0;obtain⟨ord,ss,t1,t2,t3,t4,t5,tr⟩:=x9m (K:=K) (a:=a) 148 ns hc;obtain⟨okt,alt⟩:=y74 hc t1 t2 t3 t4 t5;obtain⟨L,I,J,hs,hI,hJ,s1⟩:=q54 (K:=K) (a:=a) 146 c hc;obtain⟨L',I',J',hs',hI',hJ',s2⟩:=q54 (K:=K) (a:=a) 146 ⟨c.m,c.wide,ss⟩ okt;have hp:0<ord.length:=by obtain⟨m,rfl⟩:=t2;simp
 have al0:Al c ⟨c.m,c.wide,ss⟩ 0 0:=by
  have:=alt 0 hp;obtain⟨m,rfl⟩:=t2;exact this
 obtain⟨f,e⟩:=canon hc okt rfl rfl hs hs' al0 hI hI';have okD:=(q6u hc hI).ok hc;obtain⟨L2,I2,J2,hs2,hI2,hJ2,s3⟩:=q54 (K:=K) (a:=a) 146 _ okD;obtain⟨a1,a2⟩:=x9i hc hs hI hs2 hI2 hJ2;rw[y3g]at s1 s2 s3;rw[<- e]at s2;rw[a1,a2]at s3;have sh1:=x3r okt hs' hI' hJ';have sh2:=x3r hc hs hI hJ;rw[<- e]at sh1
 have ssr:∀(c c':Mc)(ts:List (Option Int)),c.Ok->c'.Ok->ShP c c' ts->run K a 150 q0w [encMc c,encMc c',.lst (ts.map encO)]=.ok (.fr (.bl true)):=fun c c' ts hc hc' h=>by
  obtain⟨b,b1,b2⟩:=z19 (K:=K) (a:=a) 147 c c' hc hc' ts (by rw[h.l];have:=hc.most;omega);rw[b1.mpr h]at b2;exact b2
 have lc:=z2c (K:=K) (a:=a) 149 c hc;have hlen:(lst' c L (bf (kPr c L) (kd c L 0) I)).states.length=(bf (kPr c L) (kd c L 0) I).length:=x0g;have hck:=x0h hc hs (q6u hc hI) (q9p _ _ _) c.states.length
 have htl:(bf (fun x=>c.states.getD x []) 0 c.states.length).length<=100:=by
  have:=q45 c.states.length (q6s (fun x=>c.states.getD x []) 0 c.states.length) fun x hx=>(hck x hx).1
  have:=hc.most;omega
 have oth:∃o E:Mc,0<c.wide->run K a 150 q1z [encMc c,.lst ((bf (fun x=>c.states.getD x []) 0 c.states.length).map nW50),.int (ns.getD 22 0)]=.ok (.fr (encMc o))/\∃z,run K a 150 q1t [encMc o]=.ok (.x (.new (.tup [encMc E,z])))/\E.Ok/\E≠lst' c L (bf (kPr c L) (kd c L 0) I):=by
  by_cases hw:0<c.wide
  ·obtain⟨y,r,b,o1,o2,o3,o4,o5⟩:=x9n (K:=K) (a:=a) 148 hc hw (bf (fun x=>c.states.getD x []) 0 c.states.length) (fun z=>by have:=q9p (fun x=>c.states.getD x []) 0 c.states.length;rw[z]at this;cases this) htl (fun x hx=>(hck x hx).1) (ns.getD 22 0)
   obtain⟨oo,on,ot⟩:=y3n hc (hck y o1).1 o2 o3 o4;obtain⟨LO,IO,JO,hsO,hIO,hJO,sO⟩:=q54 (K:=K) (a:=a) 146 _ oo;exact⟨_,_,fun _=>⟨o5,_,sO,(q6u oo hIO).ok oo,y3h hc oo rfl hs hsO hI hIO on o1 o2 ot⟩⟩
  ·exact⟨c,c,fun z=>absurd z hw⟩
 obtain⟨o,E,oth⟩:=oth
 have lw:Law56 (run K a 150) ns c ⟨c.m,c.wide,ss⟩ o ord (nums c L (bf (kPr c L) (kd c L 0) I) (bf (fun x=>c.states.getD x []) 0 J)) (nums ⟨c.m,c.wide,ss⟩ L' (bf (kPr ⟨c.m,c.wide,ss⟩ L') (kd ⟨c.m,c.wide,ss⟩ L' 0) I') (bf (fun x=>(⟨c.m,c.wide,ss⟩:Mc).states.getD x []) 0 J')) (lst' c L (bf (kPr c L) (kd c L 0) I)) E (bf (fun x=>c.states.getD x []) 0 c.states.length):=by
  refine⟨hc,okt,okD,mr,tr,s1,s2,ssr _ _ _ okt okD sh1,ssr _ _ _ hc okD sh2,t1,q8t ..,(q8t ..).trans t4,t3,fun k hk i j=>?_,fun h20=>?_,?_,lc,?_,oth⟩
  ·have hk2:k<(⟨c.m,c.wide,ss⟩:Mc).states.length:=by show k<ss.length;rw[t4];exact hk
   rw[q5w hk2,q5w (t3 _ (q1g hk))];unfold numO;intro h1 h2;split at h1
   ·split at h2
    ·injection h1 with h1
     injection h2 with h2
     rw[<- h1,<- h2,F2.ix (x3p hc okt rfl hs hs') (x1y hc okt rfl hs hs' (t3 _ (q1g hk)) hk2 (alt k hk)) f]
    ·cases h2
   ·cases h1
  ·obtain⟨p1,p2⟩:=x9q okD h20;exact ssr _ _ _ okD p1 p2
  ·rw[hlen];exact s3
  ·have:=q4v (K:=K) (a:=a) 149 ns (k:=22) (by omega);exact this
 rw[q6f,if_pos (show[W.lst (ns.map .int)].length=1 from rfl)];exact law56 (K:=K) (a:=a) (run K a 150) lw
theorem walk{l:PySem.W.OpenLaw}{q:Program}{loose:List Str}{XP:(Str->Option Value)->Heap->Prop}{YP:World->Heap->Prop}{d:DefRec}{K:Params->Fg}{tabs:List (Addr×Str)}(hn:l.most=some 63)(hdf:d.params.defaults=[])
  (hY:∀(w:World)(h:Heap),YP w h->(K w.params).In h)(hT:∀(w:World)(h:Heap),YP w h->∀P∈tabs.map (·.1),h.get? P=some (tabObj #[]))
  (hG:∀w:World,((D.dropT (K w.params)).lookup mainGlobals).isSome=true)(hNM:∀w:World,noMark (K w.params)=true)(hd:tabs.all (fun p=>tabs.lookup p.1==some p.2)=true)
  (hK:∀w:World,tabs.all (fun p=>((D.dropT (K w.params)).lookup p.1).isNone)=true)(hc:∀w:World,∀p∈tabs,∃c,codeHdIn (K w.params) c p.1=true)
  (F:∀(w:World)(mg:Str->Option Value)(fa:Addr)(h:Heap),(D.markT (D.dropT (K w.params)) tabs).In h->h.Ns mainGlobals mg->mg d.name=some (.ref fa) ->
   ∃fd:FuncData,(∀(s:Shared)(u:Value),BindsTo s fd ⟨[u],[]⟩ [("_law_script", u)])/\∀base:Heap,(D.markT (D.dropT (K w.params)) tabs).In base->base.Ns mainGlobals mg->BMain base mg->FnOk l.prog w (D.markT (D.dropT (K w.params)) tabs) mg base (CX1 l.prog w) 151 fa fd ["_law_script"] (spLaw (D.markT (D.dropT (K w.params)) tabs))):
  PySem.W.WalkO q loose XP YP l.row.toRowW d [] (fun f vs=>PySem.call f vs):=
 L2.y1t (K:=fun p=>D.markT (D.dropT (K p)) tabs) (tabs:=tabs) (n:=63) (k:=151) (x:="_law_script") (CX:=fun w=>CX1 l.prog w) (sp:=fun w=>spLaw (D.markT (D.dropT (K w.params)) tabs)) hn (by decide) hdf ⟨rfl,by decide,by decide,rfl⟩ (fun w h Y=>D.in_m (hG w) (D.y1p (hY w h Y))) F (fun _ _ a ns hl hS=>⟨a,ns,rfl,hS,hl,fun _=>rfl⟩) (fun _ _ _ _ _ z=>y88 z)
  (fun w=>D.x56 (D.x34 (hNM w)) hd) (fun w h Y=>D.y66 (hY w h Y) (hT w h Y) (hc w)) (fun w=>D.tabs_none (hG w) (hK w))
end Q
open PySem PySem.W PyProof.Rows
set_option maxRecDepth 100000 in
set_option maxHeartbeats 0 in
theorem PySem.Challenge.cw_circuits_k56_whole_one_value_holds : PySem.Challenge.rw_circuits_k56_whole_one_value.Holds := by
 w_on; o_law; k_head; (case hw => w_witness2)
 k_fill
 refine Q.walk (l := PySem.Challenge.rw_circuits_k56_whole_one_value) (tabs := [(81, ("small" ++ ".<locals>.") ++ "<lambda>")]) rfl rfl (fun w h Y => PySem.W.km_in_of Y) (fun w h Y => PySem.W.km_tabs_of Y) (fun w => by kernel_rfl) (fun w => by kernel_rfl) (by decide +kernel) (fun w => by kernel_rfl) (fun w => List.forall_mem_cons.mpr ⟨⟨85, by kernel_rfl⟩, fun _ h => nomatch h⟩) ?F
 case F =>
  intro w mg fa h KX G hmg;refine' Q.mk KX G hmg ?a0 ?l0 ?c0 ?k0 ?a1 ?l1 ?c1 ?k1 ?a2 ?l2 ?c2 ?k2 ?a3 ?l3 ?c3 ?k3 ?a4 ?l4 ?c4 ?k4 ?a5 ?l5 ?c5 ?k5 ?a6 ?l6 ?c6 ?k6 ?a7 ?l7 ?c7 ?k7 ?a8 ?l8 ?c8 ?k8 ?a9 ?l9 ?c9 ?k9 ?a10 ?l10 ?c10 ?k10 ?a11 ?l11 ?c11 ?k11 ?a12 ?l12 ?c12 ?k12 ?a13 ?l13 ?c13 ?k13 ?a14 ?l14 ?c14 ?k14 ?a15 ?l15 ?c15 ?k15 ?a16 ?l16 ?c16 ?k16 ?a17 ?l17 ?c17 ?k17 ?a18 ?l18 ?c18 ?k18 ?a19 ?l19 ?c19 ?k19 ?v6 ?h6 ?m6 ?n_CircuitError ?n_NoMachine ?z_all ?z_int ?z_len ?z_list ?z_max ?z_min ?z_range ?z_repr ?z_tuple ?z_zip ?nt 150 ?hL
  (case a0 => exact D.ns_m (D.q0j (by k_is) (by kernel_rfl)))
  (case l0 => exact D.q00 (D.q0l (by k_is) (by kernel_rfl)))
  (case c0 => exact D.q07 (D.q0p (by k_is) (by kernel_rfl)))
  (case k0 => exact D.q08 (by kernel_rfl))
  (case a1 => exact D.ns_m (D.q0j (by k_is) (by kernel_rfl)))
  (case l1 => exact D.q00 (D.q0l (by k_is) (by kernel_rfl)))
  (case c1 => exact D.q07 (D.q0p (by k_is) (by kernel_rfl)))
  (case k1 => exact D.q08 (by kernel_rfl))
  (case a2 => exact D.ns_m (D.q0j (by k_is) (by kernel_rfl)))
  (case l2 => exact D.q00 (D.q0l (by k_is) (by kernel_rfl)))
  (case c2 => exact D.q07 (D.q0p (by k_is) (by kernel_rfl)))
  (case k2 => exact D.q08 (by kernel_rfl))
  (case a3 => exact D.ns_m (D.q0j (by k_is) (by kernel_rfl)))
  (case l3 => exact D.q00 (D.q0l (by k_is) (by kernel_rfl)))
  (case c3 => exact D.q07 (D.q0p (by k_is) (by kernel_rfl)))
  (case k3 => exact D.q08 (by kernel_rfl))
  (case a4 => exact D.ns_m (D.q0j (by k_is) (by kernel_rfl)))
  (case l4 => exact D.q00 (D.q0l (by k_is) (by kernel_rfl)))
  (case c4 => exact D.q07 (D.q0p (by k_is) (by kernel_rfl)))
  (case k4 => exact D.q08 (by kernel_rfl))
  (case a5 => exact D.ns_m (D.q0j (by k_is) (by kernel_rfl)))
  (case l5 => exact D.q00 (D.q0l (by k_is) (by kernel_rfl)))
  (case c5 => exact D.q07 (D.q0p (by k_is) (by kernel_rfl)))
  (case k5 => exact D.q08 (by kernel_rfl))
  (case a6 => exact D.ns_m (D.q0j (by k_is) (by kernel_rfl)))
  (case l6 => exact D.q00 (D.q0l (by k_is) (by kernel_rfl)))
  (case c6 => exact D.q07 (D.q0p (by k_is) (by kernel_rfl)))
  (case k6 => exact D.q08 (by kernel_rfl))
  (case a7 => exact D.ns_m (D.q0j (by k_is) (by kernel_rfl)))
  (case l7 => exact D.q00 (D.q0l (by k_is) (by kernel_rfl)))
  (case c7 => exact D.q07 (D.q0p (by k_is) (by kernel_rfl)))
  (case k7 => exact D.q08 (by kernel_rfl))
  (case a8 => exact D.ns_m (D.q0j (by k_is) (by kernel_rfl)))
  (case l8 => exact D.q00 (D.q0l (by k_is) (by kernel_rfl)))
  (case c8 => exact D.q07 (D.q0p (by k_is) (by kernel_rfl)))
  (case k8 => exact D.q08 (by kernel_rfl))
  (case a9 => exact D.ns_m (D.q0j (by k_is) (by kernel_rfl)))
  (case l9 => exact D.q00 (D.q0l (by k_is) (by kernel_rfl)))
  (case c9 => exact D.q07 (D.q0p (by k_is) (by kernel_rfl)))
  (case k9 => exact D.q08 (by kernel_rfl))
  (case a10 => exact D.ns_m (D.q0j (by k_is) (by kernel_rfl)))
  (case l10 => exact D.q00 (D.q0l (by k_is) (by kernel_rfl)))
  (case c10 => exact D.q07 (D.q0p (by k_is) (by kernel_rfl)))
  (case k10 => exact D.q08 (by kernel_rfl))
  (case a11 => exact D.ns_m (D.q0j (by k_is) (by kernel_rfl)))
  (case l11 => exact D.q00 (D.q0l (by k_is) (by kernel_rfl)))
  (case c11 => exact D.q07 (D.q0p (by k_is) (by kernel_rfl)))
  (case k11 => exact D.q08 (by kernel_rfl))
  (case a12 => exact D.ns_m (D.q0j (by k_is) (by kernel_rfl)))
  (case l12 => exact D.q00 (D.q0l (by k_is) (by kernel_rfl)))
  (case c12 => exact D.q07 (D.q0p (by k_is) (by kernel_rfl)))
  (case k12 => exact D.q08 (by kernel_rfl))
  (case a13 => exact D.ns_m (D.q0j (by k_is) (by kernel_rfl)))
  (case l13 => exact D.q00 (D.q0l (by k_is) (by kernel_rfl)))
  (case c13 => exact D.q07 (D.q0p (by k_is) (by kernel_rfl)))
  (case k13 => exact D.q08 (by kernel_rfl))
  (case a14 => exact D.ns_m (D.q0j (by k_is) (by kernel_rfl)))
  (case l14 => exact D.q00 (D.q0l (by k_is) (by kernel_rfl)))
  (case c14 => exact D.q07 (D.q0p (by k_is) (by kernel_rfl)))
  (case k14 => exact D.q08 (by kernel_rfl))
  (case a15 => exact D.ns_m (D.q0j (by k_is) (by kernel_rfl)))
  (case l15 => exact D.q00 (D.q0l (by k_is) (by kernel_rfl)))
  (case c15 => exact D.q07 (D.q0p (by k_is) (by kernel_rfl)))
  (case k15 => exact D.q08 (by kernel_rfl))
  (case a16 => exact D.ns_m (D.q0j (by k_is) (by kernel_rfl)))
  (case l16 => exact D.q00 (D.q0l (by k_is) (by kernel_rfl)))
  (case c16 => exact D.q07 (D.q0p (by k_is) (by kernel_rfl)))
  (case k16 => exact D.q08 (by kernel_rfl))
  (case a17 => exact D.ns_m (D.q0j (by k_is) (by kernel_rfl)))
  (case l17 => exact D.q00 (D.q0l (by k_is) (by kernel_rfl)))
  (case c17 => exact D.q07 (D.q0p (by k_is) (by kernel_rfl)))
  (case k17 => exact D.q08 (by kernel_rfl))
  (case a18 => exact D.ns_m (D.q0j (by k_is) (by kernel_rfl)))
  (case l18 => exact D.q00 (D.q0l (by k_is) (by kernel_rfl)))
  (case c18 => exact D.q07 (D.q0p (by k_is) (by kernel_rfl)))
  (case k18 => exact D.q08 (by kernel_rfl))
  (case a19 => exact D.ns_m (D.q0j (by k_is) (by kernel_rfl)))
  (case l19 => exact D.q00 (D.q0l (by k_is) (by kernel_rfl)))
  (case c19 => exact D.q07 (D.q0p (by k_is) (by kernel_rfl)))
  (case k19 => exact D.q08 (by kernel_rfl))
  (case v6 => exact rfl)
  (case h6 => exact (show codeHdIn _ _ 81 = true by kernel_rfl))
  (case m6 => exact w0l _ (by simp))
  (case n_CircuitError => exact D.ns_m (D.q0j (by k_is) (by kernel_rfl)))
  (case n_NoMachine => exact D.ns_m (D.q0j (by k_is) (by kernel_rfl)))
  (case z_all => exact D.ns_m (D.q0j (by k_is) (by kernel_rfl)))
  (case z_int => exact D.ns_m (D.q0j (by k_is) (by kernel_rfl)))
  (case z_len => exact D.ns_m (D.q0j (by k_is) (by kernel_rfl)))
  (case z_list => exact D.ns_m (D.q0j (by k_is) (by kernel_rfl)))
  (case z_max => exact D.ns_m (D.q0j (by k_is) (by kernel_rfl)))
  (case z_min => exact D.ns_m (D.q0j (by k_is) (by kernel_rfl)))
  (case z_range => exact D.ns_m (D.q0j (by k_is) (by kernel_rfl)))
  (case z_repr => exact D.ns_m (D.q0j (by k_is) (by kernel_rfl)))
  (case z_tuple => exact D.ns_m (D.q0j (by k_is) (by kernel_rfl)))
  (case z_zip => exact D.ns_m (D.q0j (by k_is) (by kernel_rfl)))
  (case nt => exact D.no_m (by kernel_rfl) D.y1q)
  (case hL => exact fun a M ns hl => Q.y3o M ns hl)
