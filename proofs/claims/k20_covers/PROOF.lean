import PyProof.Rows.All
import Wide.All
import OpenK.AllK
import Wide.FinOn
import PyProof.TupleKey
import PyProof.EqAt
import PyProof.EqKinds
import Wide.Seal
import Lean
import PyProof.TupleCall
import KE.KTryMore
import KE.KRevIter
import PyProof.CollectIter
import PyProof.ConsumeWalk
import PyProof.TupleOfStr
import KE.KIsAll
import PyProof.ExcArgs
import PyProof.ExcAttrAll.ValueError
import PyProof.CompUse
import PyProof.NeKinds
import PyProof.EnumIter
import PyProof.EnumFor
import PyProof.EnumMake
import PyProof.EnumStmt
import PyProof.ListMulRoad
import PyProof.ZipIter
import PyProof.TupleIter
import PyProof.Rows.SortWalk
import PyProof.SetKind
import PyProof.Rows.SetFrom
import PyProof.FactsAll.set_1
import KE.KDictSum
import PyProof.FactsAll.set_2
import PyProof.FactsAll.tuple_2
import PyProof.ReprRoads
import PyProof.Rows.SeqMore
import PyProof.ReprLen
import PyProof.WalkInts
import PyProof.SeqI3
import PyProof.Rows.TupIter
import PyProof.ListRange
import PyProof.SumWalk
import KE.RegMulBits
import PyProof.DictIter
import PyProof.DictWalks
import PySem.Challenge.RW_circuits_k20_covers
set_option Elab.async false
set_option linter.all false
set_option maxRecDepth 100000
set_option maxHeartbeats 1000000
local macro_rules | `(tactic| omega) => `(tactic| first | with_reducible assumption | decide | with_reducible exact Nat.le_refl _ | with_reducible exact Nat.zero_le _ | lia)
set_option genSizeOf false
set_option genInjectivity false
local macro_rules | `(tactic| walk_at "1") => `(tactic| (first | exact Or.inl rfl | exact Or.inr (Or.inl rfl) | exact Or.inr (Or.inr rfl)))
local macro_rules | `(tactic| walk_at "2") => `(tactic| (first | exact .inl rfl | exact .inr rfl | assumption))
local macro_rules | `(tactic| walk_at "3") => `(tactic| (first | exact Or.inl rfl | exact Or.inr rfl))
open PySem.W (exmOne findIn hideAll_get keepIn kia_one kitOne methodObj mg_none_of mg_of pyHash_slot specialIn takesIn)
def w0a:=@List.length_map
def w0b:=@List.getElem?_eq_some_iff
def w0c:=@List.size_toArray
def w0d:=@Nat.le_refl
def w0e:=@List.getElem?_cons_succ
def w0f:=@List.getElem?_eq_getElem
def w0g:=@List.getElem?_set_ne
def w0h:=@List.mem_append_right
def w0i:=@List.getElem?_set_self
def w0j:=@Nat.le_trans
def w0k:=@List.length_append
def w0l:=@Nat.lt_of_lt_of_le
def w0m:=@Option.map_eq_some_iff
def w0n:=@List.map_cons
def w0o:=@List.length_cons
def w0p:=@Nat.ne_of_lt
def w0q:=@List.getElem?_cons_zero
def w0r:=@Bool.and_eq_true
def w0s:=@List.mem_cons
def w0t:=@List.mem_cons_of_mem
def w0u:=@List.mem_of_getElem?
def w0v:=@Nat.pow_le_pow_right
def w0w:=@List.mem_range
def w0x:=@List.lookup_cons
def w0y:=@Bool.false_ne_true
def w0z:=@List.all_eq_true
def w1a:=@List.getElem?_map
def w1b:=@Int.toNat_natCast
def w1c:=@List.mem_cons_self
def w1d:=@List.length_take
def w1e:=@List.length_singleton
def w1f:=@List.mem_map
def w1g:=@List.length_range
def w1h:=@Nat.zero_le
def w1i:=@Bool.eq_iff_iff
def w1j:=@List.mem_singleton
def w1k:=@List.not_mem_nil
def w1l:=@List.length_drop
def w1m:=@List.getElem?_replicate
def w1n:=@List.all_cons
def w1o:=@List.reverse_cons
def w1p:=@List.length_nil
def w1q:=@List.getElem?_eq_none
def w1r:=@Int.emod_lt_of_pos
def w1s:=@Bool.eq_false_iff
def w1t:=@List.nodup_cons
def w1u:=@List.map_nil
def w1v:=@Nat.lt_irrefl
def w1w:=@Bool.false_eq_true
def w1x:=@List.set_cons_succ
def w1y:=@List.set_cons_zero
def w1z:=@List.mem_filter
def w2a:=@List.mem_append
def w2b:=@List.map_append
def w2c:=@Int.emod_nonneg
def w2d:=@List.getElem?_append_right
def w2e:=@List.mem_append_left
def w2f:=@List.getElem?_append_left
def w2g:=@List.forIn_cons
def w2h:=@List.pairwise_cons
def w2i:=@List.ext_getElem?
def w2j:=@Bool.not_eq_true'
def w2k:=@Nat.lt_succ_of_lt
def w2l:=@List.length_replicate
def w2m:=@List.length_filter_le
def w2n:=@List.eq_nil_iff_forall_not_mem
def w2o:=@Int.mul_le_mul_of_nonneg_left
def w2p:=@List.filter_cons
def w2q:=@List.any_cons
def w2r:=@List.filterMap_cons
def w2s:=@Array.length_toList
def w2t:=@List.append_nil
def w2u:=@List.length_reverse
def w2v:=@Array.getElem?_append_left
def w2w:=@Array.getElem?_eq_some_iff
def w2x:=@Nat.ne_of_gt
def w2y:=@List.mem_filterMap
def w2z:=@List.drop_eq_getElem_cons
def w3a:=@Option.isSome_iff_exists
def w3b:=@Nat.le_mul_of_pos_right
def w3c:=@Nat.min_le_right
def w3d:=@List.getElem_mem
def w3e:=@List.drop_length
def w3f:=@Bool.not_eq_true
def w3g:=@List.find?_cons_of_pos
def w3h:=@List.drop_of_length_le
def w3i:=@List.of_mem_zip
def w3j:=@Nat.le_of_ble_eq_true
def w3k:=@Int.pow_succ
def w3l:=@Nat.pow_succ
def w3m:=@List.mem_of_mem_take
def w3n:=@List.mem_of_mem_drop
def w3o:=@Nat.le_succ
def w3p:=@Nat.pow_pos
def w3q:=@List.length_pos_iff
def w3r:=@Nat.mul_le_mul_left
def w3s:=@Int.toNat_of_nonneg
def w3t:=@Array.forIn_toList
def w3u:=@Bool.and_true
def w3v:=@List.zip_cons_cons
def w3w:=@List.contains_cons
def w3x:=@Bool.true_and
def w3y:=@List.map_take
def w3z:=@List.map_drop
def w4a:=@Nat.le_of_lt
def w4b:=@Int.sub_zero
def w4c:=@List.all_map
def w4d:=@Nat.zero_add
namespace PySem.W.Fast
theorem tw7708276045818764143:True:=trivial
theorem tw11981480293623465184:True:=trivial
theorem tw2061093068117672713:True:=trivial
theorem tw2652001639591516587:True:=trivial
theorem tw3877431987824893477:True:=trivial
theorem tw13206449071435468537:True:=trivial
theorem tw2942322992460270511:True:=trivial
theorem tw17993320593670134591:True:=trivial
theorem tw2474520705570577085:True:=trivial
theorem tw9560987857421237909:True:=trivial
theorem tw9052106927859747291:True:=trivial
theorem tw5121809388323945497:True:=trivial
theorem tw15907408711457060423:True:=trivial
theorem tw18369415491048096019:True:=trivial
theorem tw17071372735299499394:True:=trivial
theorem tw3456687142011522215:True:=trivial
theorem tw5709136034701017118:True:=trivial
theorem tw15524656547792909705:True:=trivial
theorem tw5705175325548283978:True:=trivial
theorem tw1986309409132207619:True:=trivial
theorem tw13541861789900702397:True:=trivial
theorem tw13412902600210840531:True:=trivial
theorem tw3629875752614231343:True:=trivial
theorem tw16272851027345637719:True:=trivial
theorem tw10947992042434730986:True:=trivial
theorem tw14867859120947404905:True:=trivial
theorem tw2661341189006421076:True:=trivial
theorem tw7662535553206234637:True:=trivial
theorem tw17534563727385390909:True:=trivial
theorem tw8833439684421523843:True:=trivial
theorem tw3640549982800503957:True:=trivial
theorem tw9178603121042610988:True:=trivial
theorem tw504490726451889551:True:=trivial
theorem tw13397659634003946000:True:=trivial
theorem tw5956032525710998587:True:=trivial
theorem tw10221589995539124553:True:=trivial
theorem tw3682925528888275815:True:=trivial
theorem tw2744454706015777775:True:=trivial
theorem tw10679190621654454556:True:=trivial
theorem tw3374136202934344531:True:=trivial
theorem tw16925272739885056166:True:=trivial
theorem tw16142350679887200064:True:=trivial
theorem tw43018217658129374:True:=trivial
theorem tw14405875491058985886:True:=trivial
theorem tw5502743404729292591:True:=trivial
theorem tw5554257476742342367:True:=trivial
theorem tw4456608560897976027:True:=trivial
theorem tw17912667326105959940:True:=trivial
theorem tw10732056722707874310:True:=trivial
theorem tw11748891128728747046:True:=trivial
theorem tw10432446046751483116:True:=trivial
theorem tw5981262752126751069:True:=trivial
theorem tw2899893202595362606:True:=trivial
theorem tw18108989000541917922:True:=trivial
theorem tw4482740975024135172:True:=trivial
theorem tw4916095661615634280:True:=trivial
theorem tw16069600093552990406:True:=trivial
theorem tw1785960388961629077:True:=trivial
theorem tw8394105450356949341:True:=trivial
theorem tw6318892452063037737:True:=trivial
end PySem.W.Fast
namespace L2
open PySem PySem.Spec PyProof.Rows
variable{C a b:Addr}{A:Around}{op:CmpOp}{c e tg:Expr}{fd:FuncData}{base h h':Heap}{pins:List (Addr×Obj)}{ch fp:List Addr}{es:List Expr}{N ps:List Str}{us:List Value}{M:Model}{i k t':Nat}{p pos:Pos}{P prog:Program}{K:PySem.W.Frag}{s:Shared}{x:Str}{mg:Str->Option Value}{u:Value}{E:Value->Shared->Prop}{f:Value->Value->Sem Value}{w:World}
set_option genInjectivity true in
inductive Kx where
 |non|bl (b:Bool)|int (i:Int)|str (x:Str)|tup (ks:List Kx)
inductive Sh where
 |ob|bl|int|str|tup (ss:List Sh)|many (s:Sh)
noncomputable instance:DecidableEq Kx:=fun _ _=>Classical.propDecidable _
mutual
noncomputable def Kx.depth:Kx->Nat
 |.tup ks=>Kx.depths ks+1
 |_=>0
noncomputable def Kx.depths:List Kx->Nat
 |[]=>0
 |k::ks=>max k.depth (Kx.depths ks)
end
mutual
def Conf:Kx->Sh->Prop
 |.non,.ob=>True
 |.bl _,.ob=>True
 |.bl _,.bl=>True
 |.int _,.int=>True
 |.str _,.str=>True
 |.tup ks,.tup ss=>Confs ks ss
 |.tup ks,.many s=>ConfM ks s
 |_,_=>False
def Confs:List Kx->List Sh->Prop
 |[],[]=>True
 |k::ks,s::ss=>Conf k s/\Confs ks ss
 |_,_=>False
def ConfM:List Kx->Sh->Prop
 |[],_=>True
 |k::ks,s=>Conf k s/\ConfM ks s
end
mutual
def KIs(h:Heap):Kx->Value->Prop
 |.non,v=>v=.none
 |.bl b,v=>v=.bool b
 |.int i,v=>∃t,v=.int i t
 |.str x,v=>∃t,v=.str x t
 |.tup ks,v=>∃a o items n,v=.ref a/\h.get? a=some o/\o.cls=.type "tuple" /\ o.data=.seq items n/\KAre h ks items.toList
def KAre(h:Heap):List Kx->List Value->Prop
 |[],vs=>vs=[]
 |k::ks,vs=>∃v r,vs=v::r/\KIs h k v/\KAre h ks r
end
mutual
theorem x2a{h:Heap}:∀(k k':Kx){v:Value},KIs h k v->KIs h k' v->k=k'
 |.non,k',v,x,y=>by
  cases(show v=.none from x);cases k' with
  |non=>rfl
  |bl c=>cases(show Value.none=.bool c from y)
  |int i=>obtain⟨t,e⟩:=y;cases e
  |str i=>obtain⟨t,e⟩:=y;cases e
  |tup ks=>obtain⟨_,_,_,_,e,_⟩:=y;cases e
 |.bl b,k',v,x,y=>by
  cases(show v=.bool b from x);cases k' with
  |non=>cases(show Value.bool b=.none from y)
  |bl c=>cases(show Value.bool b=.bool c from y);rfl
  |int i=>obtain⟨t,e⟩:=y;cases e
  |str i=>obtain⟨t,e⟩:=y;cases e
  |tup ks=>obtain⟨_,_,_,_,e,_⟩:=y;cases e
 |.int b,k',v,x,y=>by
  obtain⟨t,rfl⟩:=x;cases k' with
  |non=>cases y
  |bl c=>cases y
  |int i=>obtain⟨t,e⟩:=y;cases e;rfl
  |str i=>obtain⟨t,e⟩:=y;cases e
  |tup ks=>obtain⟨_,_,_,_,e,_⟩:=y;cases e
 |.str b,k',v,x,y=>by
  obtain⟨t,rfl⟩:=x;cases k' with
  |non=>cases y
  |bl c=>cases y
  |int i=>obtain⟨t,e⟩:=y;cases e
  |str i=>obtain⟨t,e⟩:=y;cases e;rfl
  |tup ks=>obtain⟨_,_,_,_,e,_⟩:=y;cases e
 |.tup ks,k',v,x,y=>by
  obtain⟨a,o,it,n,rfl,h1,h2,h3,h4⟩:=x;cases k' with
  |non=>cases y
  |bl c=>cases y
  |int i=>obtain⟨t,e⟩:=y;cases e
  |str i=>obtain⟨t,e⟩:=y;cases e
  |tup ks'=>
   obtain⟨a',o',it',n',e,g1,g2,g3,g4⟩:=y;cases e;rw[h1]at g1;cases g1;rw[h3]at g3;injection g3 with e1 _
   subst e1;rw[q6t ks ks' h4 g4]
theorem q6t{h:Heap}:∀(ks ks':List Kx){vs:List Value},KAre h ks vs->KAre h ks' vs->ks=ks'
 |[],ks',vs,x,y=>by
  cases(show vs=[]from x);cases ks' with
  |nil=>rfl
  |cons k ks'=>obtain⟨v,r,e,_⟩:=y;cases e
 |k::ks,ks',vs,x,y=>by
  obtain⟨v,r,rfl,h1,h2⟩:=x;cases ks' with
  |nil=>cases(show v::r=[]from y)
  |cons k' ks'=>
   obtain⟨v',r',e,g1,g2⟩:=y;cases e;rw[x2a k k' h1 g1,q6t ks ks' h2 g2]
end
mutual
theorem q8w{h h':Heap}(hk:∀a o,h.get? a=some o->o.cls=.type "tuple"->(∃it n,o.data=.seq it n)->h'.get? a=some o):∀(k:Kx){v:Value},KIs h k v->KIs h' k v
 |.non,v,x=>x
 |.bl b,v,x=>x
 |.int b,v,x=>x
 |.str b,v,x=>x
 |.tup ks,v,x=>by
  obtain⟨a,o,it,n,rfl,h1,h2,h3,h4⟩:=x;exact⟨a,o,it,n,rfl,hk a o h1 h2 ⟨it,n,h3⟩,h2,h3,q7c hk ks h4⟩
theorem q7c{h h':Heap}(hk:∀a o,h.get? a=some o->o.cls=.type "tuple"->(∃it n,o.data=.seq it n)->h'.get? a=some o):∀(ks:List Kx){vs:List Value},KAre h ks vs->KAre h' ks vs
 |[],vs,x=>x
 |k::ks,vs,x=>by
  obtain⟨v,r,rfl,h1,h2⟩:=x;exact⟨v,r,rfl,q8w hk k h1,q7c hk ks h2⟩
end
theorem KAre.length:∀(ks:List Kx){vs:List Value},KAre h ks vs->vs.length=ks.length
 |[],vs,x=>by cases(show vs=[]from x);rfl
 |k::ks,vs,x=>by
  obtain⟨v,r,rfl,h1,h2⟩:=x;rw[w0o,w0o,KAre.length ks h2]
mutual
noncomputable def kHash(w:World):Kx->Int
 |.non=>PySem.W.hashW w.params .none
 |.bl b=>reduceHash (if b=true then 1 else 0)
 |.int i=>hashInt i
 |.str x=>hashStr w x
 |.tup ks=>reduceHash (Builtin.Tuple.tupleHashOf (kHashes w ks))
noncomputable def kHashes(w:World):List Kx->List Int
 |[]=>[]
 |k::ks=>kHash w k::kHashes w ks
end
mutual
noncomputable def kDraws:Kx->Nat
 |.tup ks=>kDrawss ks+1
 |_=>1
noncomputable def kDrawss:List Kx->Nat
 |[]=>0
 |k::ks=>kDraws k+kDrawss ks
end
mutual
theorem x2b:∀(k:Kx)(v:Value)(A:Around)(s:Shared)(Q:Int->Shared->Prop),KIs s.heap k v->A.units+k.depth<cLine->Q (kHash w k) {s with toks:=s.toks+kDraws k}->wpAny (model prog w) A (pyHash v) Q E s
 |.non,v,A,s,Q,x,hu,h=>by
  cases(show v=.none from x);exact pyHash_slot (T:="NoneType") rfl F.slot_NoneType_hash F.entry_NoneType_hash (F.args_NoneType_hash_1 _) (beq_builtin_none _) (.inr (by omega)) (wpAny_bind (wpAny_pure (wpAny_bind (wpAny_mkInt (wpAny_pure ⟨_,_,rfl,h⟩)))))
 |.bl b,v,A,s,Q,x,hu,h=>by
  cases(show v=.bool b from x);refine pyHash_slot (T:="bool") rfl F.slot_bool_hash entry_int_hash (args_int_hash _) (beq_builtin_none _) (.inr (by omega)) ?_;cases b
  ·exact(show wpAny _ _ (do ret (<- mkInt 0)) _ _ s from wpAny_bind (wpAny_mkInt (wpAny_pure ⟨_,_,rfl,h⟩)))
  ·exact(show wpAny _ _ (do ret (<- mkInt 1)) _ _ s from wpAny_bind (wpAny_mkInt (wpAny_pure ⟨_,_,rfl,h⟩)))
 |.int i,v,A,s,Q,x,hu,h=>by
  obtain⟨t,rfl⟩:=x;exact wpAny_pyHash_int h
 |.str i,v,A,s,Q,x,hu,h=>by
  obtain⟨t,rfl⟩:=x;exact wpAny_pyHash_str h
 |.tup ks,v,A,s,Q,x,hu,h=>by
  obtain⟨a,o,it,n,rfl,h1,h2,h3,h4⟩:=x;refine pyHash_slot (T:="tuple") ⟨_,h1,h2⟩ F.slot_tuple_hash F.entry_tuple_hash (F.args_tuple_hash_1 _) (beq_builtin_none _) (.inr (by omega)) ?_;show wpAny _ _ (Builtin.Tuple.tupleItemsOf (.ref a) >>= _) _ _ s;refine wpAny_bind (wpAny_tupleItemsOf h1 h3 ?_);refine wpAny_bind ?_;rw[<- w3t];refine q8x ks it.toList A.in1 s #[] _ h4 (by simp only[Kx.depth,Around.in1_units]at hu |-;omega) fun b hb=>?_
  show wpAny _ _ (retInt (Builtin.Tuple.tupleHashOf b.toList)) _ _ _;rw[hb];exact wpAny_bind (wpAny_mkInt (wpAny_pure ⟨_,_,rfl,by simpa [kHash,kDraws,Nat.add_assoc]using h⟩))
theorem q8x:∀(ks:List Kx)(vs:List Value)(A:Around)(s:Shared)(b:Array Int)(Q:Array Int->Shared->Prop),KAre s.heap ks vs->A.units+Kx.depths ks<cLine ->
  (∀b',b'.toList=b.toList++kHashes w ks->Q b' {s with toks:=s.toks+kDrawss ks}) ->
  wpAny (model prog w) A (forIn vs b fun x r=>do let h <- pyHash x;pure PUnit.unit;pure (ForInStep.yield (r.push h))) Q E s
 |[],vs,A,s,b,Q,x,hu,h=>by
  cases(show vs=[]from x);exact wpAny_pure (h b (by simp[kHashes]))
 |k::ks,vs,A,s,b,Q,x,hu,h=>by
  obtain⟨v,r,rfl,h1,h2⟩:=x;simp only[Kx.depths]at hu;rw[w2g];refine wpAny_bind (wpAny_bind (x2b k v A s _ h1 (by omega) ?_));refine wpAny_bind (wpAny_pure (wpAny_pure ?_))
  exact q8x ks r A _ _ Q h2 (by omega) fun b' hb=>by
   have:=h b' (by simp[hb,kHashes])
   simpa [kDrawss,Nat.add_assoc]using this
end
theorem x2c(a b:Bool):decide (Kx.bl a=Kx.bl b)=(a==b):=by
 by_cases e:a=b
 ·subst e;simp
 ·rw[decide_eq_false (fun z=>e (by injection z))];exact(beq_eq_false_iff_ne.mpr e).symm
theorem x56(a b:Int):decide (Kx.int a=Kx.int b)=(a==b):=by
 by_cases e:a=b
 ·subst e;simp
 ·rw[decide_eq_false (fun z=>e (by injection z))];exact(beq_eq_false_iff_ne.mpr e).symm
theorem x57(a b:Str):decide (Kx.str a=Kx.str b)=(a==b):=by
 by_cases e:a=b
 ·subst e;simp
 ·rw[decide_eq_false (fun z=>e (by injection z))];exact(beq_eq_false_iff_ne.mpr e).symm
noncomputable def sameAt(ks ks':List Kx)(j:Nat):Bool:=decide (ks[j]?=ks'[j]?)
theorem x58:∀ks ks':List Kx,((List.range (min ks.length ks'.length)).all (sameAt ks ks')&&ks.length==ks'.length)=decide (Kx.tup ks=Kx.tup ks'):=by
 intro ks ks'
 by_cases e:ks=ks'
 ·subst e;rw[decide_eq_true rfl];simp[sameAt]
 ·rw[decide_eq_false (fun z=>e (by injection z))]
  rw[Bool.and_eq_false_iff]
  by_cases hl:ks.length=ks'.length
  ·left
   rw[w1s];intro ha;refine e (w2i fun j=>?_)
   by_cases hj:j<ks.length
   ·have:=w0z.mp ha j (w0w.mpr (by omega));exact of_decide_eq_true this
   ·rw[w1q (by omega),w1q (by omega)]
  ·right
   simpa using hl
theorem q4t:∀(ks:List Kx){vs:List Value},KAre h ks vs->∀(j:Nat)(v:Value),vs[j]?=some v->∃k,ks[j]?=some k/\KIs h k v
 |[],vs,x,j,v,e=>by cases(show vs=[]from x);simp at e
 |k::ks,vs,x,j,v,e=>by
  obtain⟨u,r,rfl,h1,h2⟩:=x;cases j with
  |zero=>cases e;exact⟨k,rfl,h1⟩
  |succ j=>exact q4t ks h2 j v (by simpa using e)
theorem q5f:∀(ks:List Kx)(j:Nat)(k:Kx),ks[j]?=some k->k.depth<=Kx.depths ks
 |[],j,k,e=>by simp at e
 |x::ks,j,k,e=>by
  simp only[Kx.depths];cases j with
  |zero=>cases e;omega
  |succ j=>have:=q5f ks j k (by simpa using e);omega
theorem q5g:∀(ks:List Kx)(ss:List Sh),Confs ks ss->∀(j:Nat)(k:Kx),ks[j]?=some k->∃s,ss[j]?=some s/\Conf k s
 |[],ss,_,j,k,e=>by simp at e
 |x::ks,[],c,j,k,e=>c.elim
 |x::ks,s::ss,c,j,k,e=>by
  cases j with
  |zero=>cases e;exact⟨s,rfl,c.1⟩
  |succ j=>exact q5g ks ss c.2 j k (by simpa using e)
theorem q5h:∀(ks:List Kx)(s:Sh),ConfM ks s->∀(j:Nat)(k:Kx),ks[j]?=some k->Conf k s
 |[],s,_,j,k,e=>by simp at e
 |x::ks,s,c,j,k,e=>by
  cases j with
  |zero=>cases e;exact c.1
  |succ j=>exact q5h ks s c.2 j k (by simpa using e)
theorem y3x(s:Shared):∀(n:Nat)(k k':Kx)(sh:Sh)(v v':Value)(A:Around),k.depth<=n->Conf k sh->Conf k' sh->KIs s.heap k v->KIs s.heap k' v'->A.units+n<cLine->SeqAt.EqAt A s v v' (decide (k=k')):=by
 intro n
 induction n with
 |zero=>
  intro k k' sh v v' A hd c c' x y hu;cases k with
  |non=>
   cases sh with
   |ob=>
    cases k' with
    |non=>cases(show v=.none from x);cases(show v'=.none from y);rw[decide_eq_true rfl];exact .same _
    |bl b=>cases(show v=.none from x);cases(show v'=.bool b from y);rw[decide_eq_false (fun z=>nomatch z)];exact .none_bool b
    |_=>exact c'.elim
   |_=>exact c.elim
  |bl a=>
   cases sh with
   |ob=>
    cases k' with
    |non=>cases(show v=.bool a from x);cases(show v'=.none from y);rw[decide_eq_false (fun z=>nomatch z)];exact .bool_none a
    |bl b=>cases(show v=.bool a from x);cases(show v'=.bool b from y);rw[x2c];exact .bool_bool a b
    |_=>exact c'.elim
   |bl=>
    cases k' with
    |bl b=>cases(show v=.bool a from x);cases(show v'=.bool b from y);rw[x2c];exact .bool_bool a b
    |_=>exact c'.elim
   |_=>exact c.elim
  |int a=>
   cases sh with
   |int=>
    cases k' with
    |int b=>obtain⟨t,rfl⟩:=x;obtain⟨u,rfl⟩:=y;rw[x56];exact .int_int a t b u
    |_=>exact c'.elim
   |_=>exact c.elim
  |str a=>
   cases sh with
   |str=>
    cases k' with
    |str b=>obtain⟨t,rfl⟩:=x;obtain⟨u,rfl⟩:=y;rw[x57];exact .str_str a t b u
    |_=>exact c'.elim
   |_=>exact c.elim
  |tup ks=>simp only[Kx.depth]at hd;omega
 |succ n ih=>
  intro k k' sh v v' A hd c c' x y hu;cases k with
  |non=>exact ih .non k' sh v v' A (w1h _) c c' x y (by omega)
  |bl a=>exact ih (.bl a) k' sh v v' A (w1h _) c c' x y (by omega)
  |int a=>exact ih (.int a) k' sh v v' A (w1h _) c c' x y (by omega)
  |str a=>exact ih (.str a) k' sh v v' A (w1h _) c c' x y (by omega)
  |tup ks=>
   obtain⟨a,o,it,m,rfl,h1,h2,h3,h4⟩:=x
   have tail:∀ks',k'=.tup ks'->(∀(j:Nat)(u u':Kx),ks[j]?=some u->ks'[j]?=some u'->∃s,Conf u s/\Conf u' s)->SeqAt.EqAt A s (.ref a) v' (decide (Kx.tup ks=k')):=by
    rintro ks' rfl hc;obtain⟨b,o',it',m',rfl,g1,g2,g3,g4⟩:=y
    by_cases hab:a=b
    ·subst hab;rw[h1]at g1;cases g1;rw[h3]at g3;injection g3 with e1 _
     subst e1;rw[q6t ks ks' h4 g4,decide_eq_true rfl];exact .same _
    ·have l1:=KAre.length ks h4;have l2:=KAre.length ks' g4;rw[<- x58]
     have:=SeqAt.RcAt.tuples (A:=A) (s:=s) (e:=sameAt ks ks') (show s.heap.IsTuple a it from⟨o,h1,h2,m,h3⟩) (show s.heap.IsTuple b it' from⟨o',g1,g2,m',g3⟩) (by omega) (fun j j1 j2=>by
      obtain⟨u,u1,u2⟩:=q4t ks h4 j it[j] (by simp[j1]);obtain⟨u',u1',u2'⟩:=q4t ks' g4 j it'[j] (by simp[j2]);obtain⟨sh',c1,c2⟩:=hc j u u' u1 u1';have hdj:=q5f ks j u u1;simp only[Kx.depth]at hd;have z:=ih u u' sh' _ _ A.in1 (by omega) c1 c2 u2 u2' (by rw[Around.in1_units];omega)
      have e:sameAt ks ks' j=decide (u=u'):=by
       unfold sameAt;rw[u1,u1']
       by_cases q:u=u'
       ·rw[q];simp
       ·rw[decide_eq_false q,decide_eq_false (fun z=>q (Option.some.inj z))]
      rw[e];exact z)
     rw[show it.size=ks.length by simpa using l1,show it'.size=ks'.length by simpa using l2]at this;exact .of_refs hab this
   cases sh with
   |tup ss=>
    cases k' with
    |tup ks'=>
     refine tail ks' rfl fun j u u' e1 e2=>?_
     obtain⟨s1,q1,q2⟩:=q5g ks ss c j u e1;obtain⟨s2,q3,q4⟩:=q5g ks' ss c' j u' e2;rw[q1]at q3;cases q3;exact⟨s1,q2,q4⟩
    |_=>exact c'.elim
   |many s1=>
    cases k' with
    |tup ks'=>exact tail ks' rfl fun j u u' e1 e2=>⟨s1,q5h ks s1 c j u e1,q5h ks' s1 c' j u' e2⟩
    |_=>exact c'.elim
   |_=>exact c.elim
theorem x59:∀(n:Nat)(k:Kx)(v:Value)(s:Shared)(Q:Bool->Shared->Prop),k.depth<=n->KIs s.heap k v->Q true s->wpAny (model prog w) A (eqIsQuiet n v) Q E s:=by
 intro n
 induction n with
 |zero=>
  intro k v s Q hd x h;cases k with
  |non=>cases(show v=.none from x);rw[eqIsQuiet_byValue _ rfl];exact wpAny_pure h
  |bl b=>cases(show v=.bool b from x);rw[eqIsQuiet_byValue _ rfl];exact wpAny_pure h
  |int i=>obtain⟨t,rfl⟩:=x;rw[eqIsQuiet_byValue _ rfl];exact wpAny_pure h
  |str i=>obtain⟨t,rfl⟩:=x;rw[eqIsQuiet_byValue _ rfl];exact wpAny_pure h
  |tup ks=>simp only[Kx.depth]at hd;omega
 |succ n ih=>
  intro k v s Q hd x h;cases k with
  |non=>cases(show v=.none from x);rw[eqIsQuiet_byValue _ rfl];exact wpAny_pure h
  |bl b=>cases(show v=.bool b from x);rw[eqIsQuiet_byValue _ rfl];exact wpAny_pure h
  |int i=>obtain⟨t,rfl⟩:=x;rw[eqIsQuiet_byValue _ rfl];exact wpAny_pure h
  |str i=>obtain⟨t,rfl⟩:=x;rw[eqIsQuiet_byValue _ rfl];exact wpAny_pure h
  |tup ks=>
   obtain⟨a,o,it,m,rfl,h1,h2,h3,h4⟩:=x;have hT:s.TypeIs (.ref a) "tuple":=⟨o,h1,h2⟩;unfold eqIsQuiet;refine wpAny_bind (wpAny_specialOf hT F.slot_tuple_eq.lookup ?_);show wpAny _ _ (isInstance (.ref a) (.type "tuple") >>= _) _ _ s;refine wpAny_bind (wpAny_isInstance hT isSubtype_tuple_tuple ?_);simp only[Bool.not_true,w1w,if_false];refine wpAny_bind (wpAny_seqItems h1 h3 ?_);refine wpAny_bind ?_;show wpAny _ _ (forIn it _ _) _ _ s;rw[<- w3t];refine wpAny_forIn_list _ (fun rest r s'=>r.1=none/\s'=s/\∀v∈rest,∃k:Kx,k.depth<=n/\KIs s.heap k v) _ ?_ ?_ _ _ ⟨rfl,rfl,fun v hv=>?_⟩
   ·rintro v rest r s' ⟨hr,rfl,hall⟩;obtain⟨k,k1,k2⟩:=hall v w1c;refine wpAny_bind (ih k v _ _ k1 k2 ?_);simp only[Bool.not_true,w1w,if_false];exact wpAny_pure ⟨rfl,rfl,fun u hu'=>hall u (w0t _ hu')⟩
   ·rintro⟨r1,r2⟩ s' ⟨hr,rfl,_⟩;simp only at hr;subst hr;exact wpAny_pure h
   ·obtain⟨j,hj,e⟩:=List.mem_iff_getElem.mp hv;obtain⟨k,k1,k2⟩:=q4t ks h4 j v (by rw[w0f hj,e]);have:=q5f ks j k k1;simp only[Kx.depth]at hd;exact⟨k,by omega,k2⟩
noncomputable def treeKind(prog:Program)(w:World)(sh:Sh):HeapKind prog w Kx where
 is:=fun h k a=>KIs h k (.ref a)/\Conf k sh/\k.depth<=7
 hash:=kHash w
 draws:=kDraws
 room:=fun A=>A.units+8<cLine
 inj:=fun hx hy=>x2a _ _ hx.1 hy.1
 keeps:=fun {h h' k a d o es ep} x ho hd hs=>⟨q8w (fun b ob e1 e2 e3=>by
  have hne:b≠d:=by
   rintro rfl;rw[ho]at e1;cases e1;obtain⟨it,n,e⟩:=e3;rw[hd]at e;cases e
  exact(hs.2 b hne).trans e1) _ x.1,x.2⟩
 pyHash:=fun {A E s k a Q} hu hk h=>x2b k _ A s Q hk.1 (by have:=hk.2.2;omega) h
 eqBool:=fun {A E s x y a b Q} hu hx hy h=>y3x s 7 x y sh _ _ A hx.2.2 hx.2.1 hy.2.1 hx.1 hy.1 (by omega) prog w E Q h
 quiet:=fun {A E s k a Q} hk h=>x59 8 k _ s Q (by have:=hk.2.2;omega) hk.1 h
set_option Elab.async false
set_option linter.all false
set_option maxRecDepth 100000
noncomputable abbrev Key:=Sum Int Str
noncomputable def keyIs:Key->Value->Bool
 |.inl k,v=>Value.isInt k v
 |.inr x,v=>Value.isStrOf x v
noncomputable def keyH(w:World):Key->Int
 |.inl k=>hashInt k
 |.inr x=>hashStr w x
theorem q1n:∀{k:Key}{v:Value},keyIs k v=true->(∃i t,k=Sum.inl i/\v=Value.int i t)\/(∃x t,k=Sum.inr x/\v=Value.str x t)
 |.inl i,v,h=>by
  obtain⟨t,e⟩:=Value.isInt_shape (k:=i) (v:=v) h;exact .inl ⟨i,t,rfl,e⟩
 |.inr x,v,h=>by
  obtain⟨t,e⟩:=Value.isStrOf_shape (x:=x) (v:=v) h;exact .inr ⟨x,t,rfl,e⟩
theorem y0p(a b:Int):decide ((Sum.inl a:Key)=Sum.inl b)=(a==b):=by
 by_cases e:a=b
 ·subst e;simp
 ·have h:¬(Sum.inl a:Key)=Sum.inl b:=fun q=>e (Sum.inl.inj q)
  rw[decide_eq_false h];exact(beq_eq_false_iff_ne.mpr e).symm
theorem y0q(a b:Str):decide ((Sum.inr a:Key)=Sum.inr b)=decide (a=b):=by
 by_cases e:a=b
 ·subst e;simp
 ·have h:¬(Sum.inr a:Key)=Sum.inr b:=fun q=>e (Sum.inr.inj q)
  rw[decide_eq_false h,decide_eq_false e]
theorem y0r(a:Int)(b:Str):decide ((Sum.inl a:Key)=Sum.inr b)=false:=decide_eq_false (fun q=>nomatch q)
theorem y0s(a:Str)(b:Int):decide ((Sum.inr a:Key)=Sum.inl b)=false:=decide_eq_false (fun q=>nomatch q)
noncomputable def mixKind(prog:Program)(w:World):PySem.KeyKind prog w Key where
 is:=keyIs
 hash:=keyH w
 inj:=fun v a b ha hb=>by
  rcases q1n ha with⟨i,t,rfl,rfl⟩|⟨x,t,rfl,rfl⟩
  ·rcases q1n hb with⟨j,u,rfl,e⟩|⟨y,u,rfl,e⟩
   ·injection e with e1 _;rw[e1]
   ·exact nomatch e
  ·rcases q1n hb with⟨j,u,rfl,e⟩|⟨y,u,rfl,e⟩
   ·exact nomatch e
   ·injection e with e1 _;rw[e1]
 byValue:=fun k v h=>by
  rcases q1n h with⟨i,t,rfl,rfl⟩|⟨x,t,rfl,rfl⟩<;>rfl
 pyHash:=fun hv h=>by
  rcases q1n hv with⟨i,t,rfl,rfl⟩|⟨x,t,rfl,rfl⟩
  ·exact wpAny_pyHash_int h
  ·exact wpAny_pyHash_str h
 eqBool:=fun hu hv h=>by
  rcases q1n hu with⟨i,t,rfl,rfl⟩|⟨x,t,rfl,rfl⟩
  ·rcases q1n hv with⟨j,u,rfl,rfl⟩|⟨y,u,rfl,rfl⟩
   ·rw[y0p]at h;exact wpAny_eqBool_int h
   ·rw[y0r]at h;exact SeqAt.EqAt.int_str i t y u _ _ _ _ h
  ·rcases q1n hv with⟨j,u,rfl,rfl⟩|⟨y,u,rfl,rfl⟩
   ·rw[y0s]at h;exact SeqAt.EqAt.str_int x t j u _ _ _ _ h
   ·rw[y0q]at h;exact wpAny_eqBool_str h
 «strs»:=fun k x t v h=>by
  rcases q1n h with⟨i,u,rfl,e⟩|⟨y,u,rfl,e⟩
  ·exact nomatch e
  ·injection e with e1 _
   subst e1;cases v<;>rfl
set_option genInjectivity true in
inductive V where
 |non|bl (b:Bool)|int (i:Int)|str (x:Str)|byt (b:Array UInt8)|flt (b:UInt64)|ref (a:Addr)|ty (n:String)
 deriving DecidableEq
variable{xs:List V}{v:V}
def RelV:V->Value->Prop
 |.non,u=>u=Value.none
 |.bl b,u=>u=Value.bool b
 |.int i,u=>∃t,u=Value.int i t
 |.str x,u=>∃t,u=Value.str x t
 |.byt b,u=>∃t,u=Value.bytes b t
 |.flt b,u=>∃t,u=Value.float b t
 |.ref a,u=>u=Value.ref a
 |.ty n,u=>u=Value.type n
abbrev Vals:List V->List Value->Prop:=Paired RelV
theorem Vals.length(r:Vals xs us):xs.length=us.length:=Paired.length r
theorem Vals.get:∀{xs:List V}{us:List Value}{i:Nat}{x:V},Vals xs us->xs[i]?=some x->∃u,us[i]?=some u/\RelV x u
 |_,_,_,_,.nil,e=>by simp at e
 |_,_,0,_,.cons r _,e=>by simp at e;subst e;exact⟨_,rfl,r⟩
 |_,_,i+1,x,.cons _ t,e=>by
  obtain⟨u,h1,h2⟩:=Vals.get (i:=i) (x:=x) t (by simpa using e);exact⟨u,by simpa using h1,h2⟩
theorem Vals.append:∀{xs ys:List V}{us ws:List Value},Vals xs us->Vals ys ws->Vals (xs++ys) (us++ws)
 |_,_,_,_,.nil,s=>s
 |_,_,_,_,.cons r t,s=>.cons r (Vals.append t s)
theorem Vals.take:∀{xs:List V}{us:List Value}(n:Nat),Vals xs us->Vals (xs.take n) (us.take n)
 |_,_,0,_=>.nil
 |_,_,_+1,.nil=>.nil
 |_,_,n+1,.cons r t=>.cons r (Vals.take n t)
theorem Vals.drop:∀{xs:List V}{us:List Value}(n:Nat),Vals xs us->Vals (xs.drop n) (us.drop n)
 |_,_,0,r=>r
 |_,_,_+1,.nil=>.nil
 |_,_,n+1,.cons _ t=>Vals.drop n t
def RelO:Option V->Option Value->Prop
 |some v,some u=>RelV v u
 |none,none=>True
 |_,_=>False
def KV{κ:Type}:List (κ×V)->List (κ×Value)->Prop:=Paired fun(p:κ×V) (q:κ×Value)=>p.1=q.1/\RelV p.2 q.2
noncomputable def kV:Key->V
 |.inl i=>.int i
 |.inr x=>.str x
inductive HO where
 /-- a list -/
 |lst (xs:List V)
 /-- a tuple (never changes) -/
 |tup (xs:List V)
 /-- a dict whose keys are ints and texts;one whose keys are tuples of ints and texts (the empty one is both) -/
 |dK (kvs:List (Key×V))|dT (sh:Sh) (kvs:List (Kx×V)) (kas:List Addr)
 /-- a set of ints: its members,its size -/
 |set (S:Int->Bool) (n:Nat)
 /-- an instance of the class at C,its dict at dx,its attributes -/
 |ins (C dx:Addr) (fs:List (Str×V))
 /-- the dict of the instance at x -/
 |own (x:Addr)
 /-- the dict of an exception -/
 |xd (fs:List (Str×V))
 /-- a bound method,f of x -/
 |met (f x:Addr)
 /-- a range object lo,lo+1,.. below hi -/
 |rng (lo hi:Int)
 /-- a thing that is known to the object (the script;a dict while a loop walks it): read,never written while it is so -/
 |frz (o:Obj) (u:HO)
 /-- a code object's table -/
 |tbl (ps:Array Value)
 /-- any other thing,by what is true of its one object (a def of one's own: SetO a S n:=HO.ext fun h=>..) -/
 |ext (φ:Heap->Prop)
noncomputable abbrev Hp:=Addr->Option HO
variable{H H':Hp}
def TupLike:HO->Prop
 |.tup _=>True
 |.frz _ (.tup _)=>True
 |.frz _ (.own _)=>True
 |_=>False
mutual
def KRep(H:Hp):Kx->V->Prop
 |.non,v=>v=.non
 |.bl b,v=>v=.bl b
 |.int i,v=>v=.int i
 |.str x,v=>v=.str x
 |.tup ks,v=>∃a xs,v=.ref a/\(H a=some (.tup xs)\/∃o,H a=some (.frz o (.tup xs)))/\KReps H ks xs
def KReps(H:Hp):List Kx->List V->Prop
 |[],vs=>vs=[]
 |k::ks,vs=>∃v r,vs=v::r/\KRep H k v/\KReps H ks r
end
mutual
theorem KRep.keeps{H H':Hp}(ht:∀b u,TupLike u->H b=some u->H' b=some u):∀(k:Kx){v:V},KRep H k v->KRep H' k v
 |.non,_,x=>x
 |.bl _,_,x=>x
 |.int _,_,x=>x
 |.str _,_,x=>x
 |.tup ks,_,x=>by
  obtain⟨a,xs,e,q,r⟩:=x;refine⟨a,xs,e,?_,KReps.keeps ht ks r⟩;rcases q with q|⟨o,q⟩
  ·exact .inl (ht _ _ True.intro q)
  ·exact .inr ⟨o,ht _ _ True.intro q⟩
theorem KReps.keeps{H H':Hp}(ht:∀b u,TupLike u->H b=some u->H' b=some u):∀(ks:List Kx){vs:List V},KReps H ks vs->KReps H' ks vs
 |[],_,x=>x
 |k::ks,_,x=>by
  obtain⟨v,r,e,h1,h2⟩:=x;exact⟨v,r,e,KRep.keeps ht k h1,KReps.keeps ht ks h2⟩
end
noncomputable def upd(H:Hp)(a:Addr)(o:HO):Hp:=fun b=>if b=a then some o else H b
theorem q0g{o:HO}:upd H a o a=some o:=by unfold upd;rw[if_pos rfl]
theorem q0b{o:HO}(h:b≠a):upd H a o b=H b:=by unfold upd;rw[if_neg h]
theorem q0p{o u:HO}(h:H a=some o)(h':H b=some u)(d:o≠u):a≠b:=by
 intro e;subst e;rw[h]at h';exact d (Option.some.inj h')
theorem q0j{o:HO}(h:H a=some o)(h':H b=none):a≠b:=by
 intro e;subst e;rw[h]at h';cases h'
section
variable(P:Program)(w:World)
def BareT(h:Heap)(a:Addr):Prop:=∃o,h.get? a=some o/\o.dict=none
def ObjOk(H:Hp)(h:Heap)(a:Addr):HO->Prop
 |.lst xs=>xs.length<=sizeLine/\∃(its:List Value)(n:Nat),Vals xs its/\h.get? a=some {cls:=.type "list", data:=.seq its.toArray n}
 |.tup xs=>xs.length<=sizeLine/\∃its:List Value,Vals xs its/\IsTup h a its.toArray/\BareT h a
 |.dK kvs=>kvs.length<=sizeLine/\(a==sysModules)=false/\∃vs,KV kvs vs/\h.DictOf (mixKind P w) a vs
 |.dT sh kvs kas=>kvs.length<=sizeLine/\(a==sysModules)=false/\∃xs:List (Kx×Addr×Value),
   Paired (fun(p:Kx×V) (q:Kx×Addr×Value)=>p.1=q.1/\(KRep H p.1 (.ref q.2.1)/\Conf p.1 sh/\p.1.depth<=7)/\RelV p.2 q.2.2) kvs xs/\xs.map (·.2.1)=kas /\
   ∃o es ep,h.get? a=some o/\o.ExactDict/\o.data=.dict es ep/\es.toList=xs.map (entryOfKey (treeKind P w sh))/\(xs.map (·.1)).Nodup
 |.set S n=>h.SetOf (intKind P w) a S n
 |.ins C dx fs=>H dx=some (.own a)/\fs.length<=1000/\dx≠a/\h.get? a=some (PySem.W.instObj C dx) /\
   ∃mA,h.Ns1 dx mA/\(∀f,RelO (fs.lookup f) (mA f))/\PySem.Within mA (fs.map (·.1))
 |.own _=>∃o,h.get? a=some o
 |.xd fs=>∃mA,h.Ns1 a mA/\∀f,RelO (fs.lookup f) (mA f)
 |.rng lo hi=>∃t u v,h.get? a=some {cls:=.type "range", data:=.fields #[.int lo t,.int hi u,.int 1 v]}
 |.frz o u=>h.get? a=some o/\ObjOk H h a u
 |.tbl ps=>(∃(q:Str)(qs:Array Value),ps[0]?=some (.bool true)/\ps[1]?=some (.str q 0)/\h.get? a=some {cls:=.none,data:=.fields qs}/\TriplesOk qs.toList/\∀(pos:Pos)(cv:Value),codeAmong pos qs.toList=some cv ->
   ∃(c:Addr)(oc:Obj)(vs:Array Value)(t:Tok),cv=.ref c/\H c=some (.frz oc (.own 0))/\oc.data=.fields vs/\vs[1]?=some (.str q t)) \/
   ∃(q:Str)(c:Addr)(oc ob:Obj)(vs:Array Value)(t:Tok),ps[0]?=some (.bool false)/\ps[1]?=some (.str q 0)/\ps[2]?=some (.ref c)/\H c=some (.frz oc (.own 0))/\oc.data=.fields vs/\vs[1]?=some (.str q t)/\h.get? a=some ob
 |.met f x=>h.get? a=some (methodObj (.ref f) (.ref x))
 |.ext φ=>φ h/\(∃o,h.get? a=some o)/\∀h1 h2:Heap,φ h1->(∀o,h1.get? a=some o->h2.get? a=some o)->φ h2
def HOk(H:Hp)(h:Heap):Prop:=∀a o,H a=some o->ObjOk P w H h a o
end
section
variable{o:HO}
theorem ObjOk.lt(x:ObjOk P w H h a o):a<h.objs.size:=by
 cases o with
 |lst xs=>obtain⟨_,_,_,_,e⟩:=x;exact Heap.lt_size e
 |tup xs=>obtain⟨_,_,_,p,_⟩:=x;exact p.lt
 |dK kvs=>obtain⟨_,_,_,_,o,_,_,e,_⟩:=x;exact Heap.lt_size e
 |dT sh kvs kas=>obtain⟨_,_,_,_,_,o,_,_,e,_⟩:=x;exact Heap.lt_size e
 |set S n=>obtain⟨o,_,_,_,e,_⟩:=x;exact Heap.lt_size e
 |ins C dx fs=>obtain⟨_,_,_,e,_⟩:=x;exact Heap.lt_size e
 |own y=>obtain⟨_,e⟩:=x;exact Heap.lt_size e
 |xd fs=>obtain⟨_,⟨_,_,_,e,_⟩,_⟩:=x;exact Heap.lt_size e
 |rng lo hi=>obtain⟨_,_,_,e⟩:=x;exact Heap.lt_size e
 |frz ob u=>obtain⟨e,_⟩:=x;exact Heap.lt_size e
 |tbl ps=>rcases x with⟨_,_,_,_,e,_⟩|⟨_,_,_,_,_,_,_,_,_,_,_,_,e⟩<;>exact Heap.lt_size e
 |met f y=>exact Heap.lt_size (show h.get? a=some _ from x)
 |ext φ=>obtain⟨_,⟨_,e⟩,_⟩:=x;exact Heap.lt_size e
theorem Paired.mapP{α β:Type}{F G:α->β->Prop}:∀{l₁:List α}{l₂:List β},Paired F l₁ l₂->(∀a b,F a b->G a b)->Paired G l₁ l₂
 |_,_,.nil,_=>.nil
 |_,_,.cons r t,f=>.cons (f _ _ r) (Paired.mapP t f)
theorem ObjOk.stay(x:ObjOk P w H h a o)(k:∀b u,(b=a\/H b=some (.own a))->h.get? b=some u->h'.get? b=some u)
  (ho:∀b,H b=some (.own a)->H' b=some (.own a))(ht:∀b u,TupLike u->H b=some u->H' b=some u):ObjOk P w H' h' a o:=by
 induction o with
 |lst xs=>obtain⟨z,its,n,r,e⟩:=x;exact⟨z,its,n,r,k _ _ (.inl rfl) e⟩
 |tup xs=>obtain⟨z,its,r,⟨ob,e,c⟩,⟨o2,e2,c2⟩⟩:=x;exact⟨z,its,r,⟨ob,k _ _ (.inl rfl) e,c⟩,⟨o2,k _ _ (.inl rfl) e2,c2⟩⟩
 |dK kvs=>obtain⟨z,y,vs,r,ob,es,ep,e,c⟩:=x;exact⟨z,y,vs,r,ob,es,ep,k _ _ (.inl rfl) e,c⟩
 |dT sh kvs kas=>
  obtain⟨z,y,xs,r,ka,ob,es,ep,e,c⟩:=x;exact⟨z,y,xs,Paired.mapP r fun p q z=>⟨z.1,⟨KRep.keeps ht _ z.2.1.1,z.2.1.2⟩,z.2.2⟩,ka,ob,es,ep,k _ _ (.inl rfl) e,c⟩
 |set S n=>obtain⟨ob,es,ep,t,e,c⟩:=x;exact⟨ob,es,ep,t,k _ _ (.inl rfl) e,c⟩
 |ins C dx fs=>
  obtain⟨d,z,ne,e,mA,⟨od,es,ep,e2,c⟩,r⟩:=x;exact⟨ho _ d,z,ne,k _ _ (.inl rfl) e,mA,⟨od,es,ep,k _ _ (.inr d) e2,c⟩,r⟩
 |own y=>obtain⟨ob,e⟩:=x;exact⟨ob,k _ _ (.inl rfl) e⟩
 |xd fs=>obtain⟨mA,⟨od,es,ep,e,c⟩,r⟩:=x;exact⟨mA,⟨od,es,ep,k _ _ (.inl rfl) e,c⟩,r⟩
 |rng lo hi=>obtain⟨t,u,v,e⟩:=x;exact⟨t,u,v,k _ _ (.inl rfl) e⟩
 |frz ob u ih=>obtain⟨e,q⟩:=x;exact⟨k _ _ (.inl rfl) e,ih q⟩
 |tbl ps=>
  rcases x with⟨q,qs,p0,p1,e,tr,cd⟩|⟨q,c,oc,ob,vs,t,p0,p1,p2,h3,h4,h5,e⟩
  ·refine .inl ⟨q,qs,p0,p1,k _ _ (.inl rfl) e,tr,fun pos cv z=>?_⟩
   obtain⟨c,oc,vs,t,h1,h3,h4,h5⟩:=cd pos cv z;exact⟨c,oc,vs,t,h1,ht _ _ True.intro h3,h4,h5⟩
  ·exact .inr ⟨q,c,oc,ob,vs,t,p0,p1,p2,ht _ _ True.intro h3,h4,h5,k _ _ (.inl rfl) e⟩
 |met f y=>
  have e:h.get? a=some (methodObj (.ref f) (.ref y)):=x;show h'.get? a=some (methodObj (.ref f) (.ref y));exact k a _ (.inl rfl) e
 |ext φ=>obtain⟨p,⟨o,e⟩,st⟩:=x;exact⟨st _ _ p fun o q=>k _ _ (.inl rfl) q,⟨o,k _ _ (.inl rfl) e⟩,st⟩
theorem HOk.lt(x:HOk P w H h)(e:H a=some o):a<h.objs.size:=(x a o e).lt
theorem HOk.fresh(x:HOk P w H h)(e:h.objs.size<=a):H a=none:=by
 cases q:H a with
 |none=>rfl
 |some u=>exact absurd (w0l (x.lt q) e) (w1v _)
theorem HOk.kept(x:HOk P w H h)(k:∀b u,h.get? b=some u->h'.get? b=some u):HOk P w H h':=fun a o e=>
 (x a o e).stay (fun b u _ q=>k b u q) (fun _ q=>q) fun _ _ _ q=>q
theorem HOk.laid(x:HOk P w H h)(k:∀b u,h.get? b=some u->h'.get? b=some u)(hp:h.objs.size<=a)(new:ObjOk P w (upd H a o) h' a o):HOk P w (upd H a o) h':=fun b u e=>by
 have hn:=x.fresh hp
 by_cases hb:b=a
 ·subst hb;rw[q0g]at e;cases e;exact new
 ·rw[q0b hb]at e;exact(x b u e).stay (fun c v _ q=>k c v q) (fun c q=>by rw[q0b (q0j q hn)];exact q) fun c xs _ q=>by rw[q0b (q0j q hn)];exact q
end
def Rd(H:Hp)(a:Addr)(u:HO):Prop:=H a=some u\/∃o,H a=some (.frz o u)
theorem Rd.ok{u:HO}(r:Rd H a u)(x:HOk P w H h):ObjOk P w H h a u:=by
 rcases r with r|⟨o,r⟩
 ·exact x a u r
 ·obtain⟨_,q⟩:=x a _ r;exact q
def Mut:Option HO->Prop
 |some (.lst _)=>True
 |some (.dK _)=>True
 |some (.dT _ _ _)=>True
 |some (.set _ _)=>True
 |some (.ins _ _ _)=>True
 |some (.ext _)=>True
 |_=>False
section
variable{x e:Addr}{o':HO}
theorem HOk.write(ok:HOk P w H h)(mu:Mut (H x))(he:e=x\/H e=some (.own x))(k:∀b u,b≠e->h.get? b=some u->h'.get? b=some u)(heo:∃u,h'.get? e=some u)
  (new:ObjOk P w (upd H x o') h' x o'):HOk P w (upd H x o') h':=fun b u q=>by
 have nown:∀c y,H c=some (.own y)->c≠x:=fun c y r z=>by subst z;rw[r]at mu;exact mu
 have ntup:∀c u,TupLike u->H c=some u->c≠x:=fun c u t r z=>by
  subst z;rw[r]at mu;cases u<;>first|exact mu|exact t
 by_cases hb:b=x
 ·subst hb;rw[q0g]at q;cases q;exact new
 ·rw[q0b hb]at q
  by_cases hbe:b=e
  ·have q':H b=some (.own x):=by
    rcases he with z|z
    ·exact absurd (hbe.trans z) hb
    ·rw[hbe];exact z
   rw[q]at q';cases q';obtain⟨v,hv⟩:=heo;exact⟨v,by rw[hbe];exact hv⟩
  ·refine(ok b u q).stay (fun c v hc r=>k c v ?_ r) (fun c r=>by rw[q0b (nown c b r)];exact r) fun c xs t r=>by rw[q0b (ntup c xs t r)];exact r
   rcases hc with rfl|hc
   ·exact hbe
   ·rintro rfl;rcases he with z|z
    ·exact nown c b hc z
    ·rw[hc]at z;cases z;exact hb rfl
end
structure Un(fs ex:List Addr)(H H':Hp)(h h':Heap):Prop where
 keep:∀b o,h.get? b=some o->H b=none->b∉fs->b∉ex->h'.get? b=some o
 slot:∀b o,h.get? b=some o->H b=none->b∈fs->b∉ex->∃sl,h'.get? b=some {o with slots:=sl}
 free:∀b o,h.get? b=some o->H b=none->b∉ex->H' b=none
 there:∀b o,h.get? b=some o->b∉ex->∃o',h'.get? b=some o'
 tups:∀b xs,H b=some (.tup xs)->H' b=some (.tup xs)
 frzs:∀b o u,H b=some (.frz o u)->H' b=some (.frz o u)
 tbls:∀b ps,H b=some (.tbl ps)->∃more,H' b=some (.tbl (ps++more))
section
variable{fs fs' ex ex':List Addr}{H1 H2:Hp}{h1 h2:Heap}{x e:Addr}{o:HO}
theorem Un.any(u:Un fs ex H H1 h h1){ob:Obj}(q:h.get? b=some ob)(n:H b=none)(hx:b∉ex):∃sl,h1.get? b=some {ob with slots:=sl}:=by
 by_cases hb:b∈fs
 ·exact u.slot b ob q n hb hx
 ·exact⟨ob.slots,u.keep b ob q n hb hx⟩
theorem Un.kept(k:∀b u,h.get? b=some u->h'.get? b=some u):Un fs ex H H h h':=
 ⟨fun b ob q _ _ _=>k b ob q,fun b ob q _ _ _=>⟨ob.slots,k b ob q⟩,fun _ _ _ n _=>n,fun b ob q _=>⟨ob,k b ob q⟩,fun _ _ q=>q,fun _ _ _ q=>q,fun _ ps q=>⟨#[],by rw[q];simp⟩⟩
theorem Un.refl:Un fs ex H H h h:=Un.kept fun _ _ q=>q
theorem Un.laid(k:∀b u,h.get? b=some u->h'.get? b=some u)(hp:h.objs.size<=a)(hn:H a=none):Un fs ex H (upd H a o) h h' where
 keep:=fun b u q _ _ _=>k b u q
 slot:=fun b u q _ _ _=>⟨u.slots,k b u q⟩
 free:=fun b u q n _=>by rw[q0b (w0p (w0l (Heap.lt_size q) hp))];exact n
 there:=fun b u q _=>⟨u,k b u q⟩
 tups:=fun b xs q=>by rw[q0b (q0j q hn)];exact q
 frzs:=fun b u xs q=>by rw[q0b (q0j q hn)];exact q
 tbls:=fun b ps q=>⟨#[],by rw[q0b (q0j q hn),q];simp⟩
theorem Un.write(mu:Mut (H x))(he:e=x\/H e=some (.own x))(k:∀b u,b≠e->h.get? b=some u->h'.get? b=some u)(heo:∃u,h'.get? e=some u):Un fs ex H (upd H x o) h h':=by
 have hx:∀b,H b=none->b≠x:=fun b n z=>by subst z;rw[n]at mu;exact mu
 have hb:∀b,H b=none->b≠e:=fun b n z=>by
  subst z;rcases he with r|r
  ·exact hx b n r
  ·rw[n]at r;cases r
 have hm:∀b u,H b=some u->¬Mut (some u)->b≠x:=fun b u q nm z=>by subst z;rw[q]at mu;exact nm mu
 refine⟨fun b u q n _ _=>k b u (hb b n) q,fun b u q n _ _=>⟨u.slots,k b u (hb b n) q⟩,fun b u q n _=>by rw[q0b (hx b n)];exact n,fun b u q _=>?_,
  fun b xs q=>by rw[q0b (hm b _ q fun z=>z)];exact q,fun b u xs q=>by rw[q0b (hm b _ q fun z=>z)];exact q,fun b ps q=>⟨#[],by rw[q0b (hm b _ q fun z=>z),q];simp⟩⟩
 by_cases hbe:b=e
 ·subst hbe;exact heo
 ·exact⟨u,k b u hbe q⟩
end
noncomputable def trk(h:Heap)(H:Hp):List Addr:=(List.range h.objs.size).filter fun a=>(H a).isSome
noncomputable def hidT(h:Heap)(H:Hp):Heap:=PySem.W.hideAll h (trk h H)
theorem x3y(h:Heap)(H:Hp):(hidT h H).objs.size=h.objs.size:=PySem.W.hideAll_size _ _
theorem x6a{o:Obj}(e:h.get? b=some o)(n:H b=none):(hidT h H).get? b=some o:=
 hideAll_get _ e fun hm=>by
  have q:(H b).isSome=true:=(w1z.mp hm).2;rw[n]at q;simp at q
theorem x78{o:Obj}(e:(hidT h H).get? b=some o):h.get? b=some o/\H b=none:=by
 have e':h.get? b=some o:=PySem.W.of_hideAll (trk h H) e;refine⟨e',?_⟩;cases q:H b with
 |none=>rfl
 |some x=>
  have hm:b∈trk h H:=w1z.mpr ⟨w0w.mpr (Heap.lt_size e'),by simp[q]⟩;have z:(hidT h H).get? b=none:=PySem.W.hideAll_none (trk h H) hm;rw[z]at e;cases e
noncomputable def allNews(g h:Heap)(L:Addr):List (Addr×Obj):=(List.range h.objs.size).filterMap fun a=>if a=L\/(g.get? a).isSome=true then none else(h.get? a).map fun o=>(a,o)
noncomputable def rest(g h:Heap)(L d:Addr):List (Addr×Obj):=(allNews g h L).filter fun p=>decide (p.1≠d)
structure Mod(K:PySem.W.Frag)(mg:Str->Option Value)(base:Heap):Prop where
 kin:K.In base
 glob:base.Ns mainGlobals mg
 blt:∃mb,base.Ns builtinsNs mb/\∀x:Str,x≠"__name__"->mb x=bootBuiltins x
 nolimit:base.NoLimit
structure Cx where
 prog:Program
 w:World
 K:PySem.W.Frag
 mg:Str->Option Value
 base:Heap
 A:Around
 N:List Str
 s₀:Shared
 H₀:Hp
 env:Env
 outer:List Env
 stack:List Env
 ex:List Addr
 fn:Str->Bool
 calm:Bool
 pn:List (Addr×Obj)
 xe:Value->Shared->Prop
variable{X:Cx}
noncomputable def frs(l:List Env):List Addr:=l.filterMap (·.frame)
noncomputable abbrev Cx.fs(X:Cx):List Addr:=frs X.outer
def Vis(sc:Scope)(x:Str):Prop:=sc.names.lookup x=some .local\/sc.names.lookup x=some .cell\/sc.names.lookup x=some .free
def Loc(sc:Scope)(x:Str):Prop:=sc.names.lookup x=some .local\/sc.names.lookup x=some .cell
def Look(env:Env)(h:Heap)(m:Str->Option Value)(x:Str)(u:Value):Prop:=
 (env.kindOf x=some .local/\m x=some u)\/((env.kindOf x=some .cell\/env.kindOf x=some .free)/\∃c,env.cells.lookup x=some c/\h.IsCell c (some u))
noncomputable abbrev markO(P:Addr)(q:Str):Obj:={cls:=.str q 0,data:=.fields #[.ref P]}
def TabOk(K:PySem.W.Frag)(H:Hp):Prop:=∀(a:Addr)(q:Str)(P:Addr),(a,markO P q)∈K->∃ps:Array Value,H P=some (.tbl ps)/\ps[0]?=some (.bool true)/\ps[1]?=some (.str q 0)
noncomputable def noMark(K:PySem.W.Frag):Bool:=K.all fun p=>match p.2.cls with
 |.str _ _=>false
 |_=>true
theorem TabOk.vac(h:noMark K=true):TabOk K H:=fun a q P m=>by
 have:=w0z.mp h _ m;cases this
theorem TabOk.un{fs ex:List Addr}{h':Heap}(t:TabOk K H)(u:Un fs ex H H' h h'):TabOk K H':=fun a q P m=>by
 obtain⟨ps,e,p0,p1⟩:=t a q P m;obtain⟨more,e'⟩:=u.tbls P ps e;refine⟨_,e',?_,?_⟩
 ·rw[w2v (by obtain⟨z,_⟩:=w2w.mp p0;exact z)];exact p0
 ·rw[w2v (by obtain⟨z,_⟩:=w2w.mp p1;exact z)];exact p1
theorem TabOk.laid{D:Addr}{o:HO}(t:TabOk K H)(hn:H D=none):TabOk K (upd H D o):=fun a q P m=>by
 obtain⟨ps,e,p⟩:=t a q P m;exact⟨ps,by rw[q0b (q0j e hn)];exact e,p⟩
structure Cx.Ok(X:Cx):Prop where
 mod:Mod X.K X.mg X.base
 kind:X.env.scope.kind=.function
 glob:X.env.globals=mainGlobals
 blt:X.env.builtins=builtinsNs
 above:X.s₀.heap.objs.size<=X.env.locals
 inj:∀x y c,X.env.cells.lookup x=some c->X.env.cells.lookup y=some c->x=y
 has:∀x,(X.env.kindOf x=some .cell\/X.env.kindOf x=some .free)->∃c,X.env.cells.lookup x=some c
 cab:∀x c,X.fn x=true->X.env.cells.lookup x=some c->X.s₀.heap.objs.size<=c
 hd:X.calm=true->X.A.handled=none
 frames:X.A.frames=some X.stack
 stk:X.stack=X.outer\/(X.stack=X.env::X.outer/\X.env.frame=some X.env.locals)
 exf:∀b∈X.ex,b≠X.env.locals/\∀x c,X.env.cells.lookup x=some c->c≠b
 bs:∀b o,X.base.get? b=some o->X.s₀.heap.get? b=some o/\X.H₀ b=none
 bsz:X.base.objs.size<=X.s₀.heap.objs.size
 noex:∀b o,X.base.get? b=some o->b∉X.ex
 exfs:∀b∈X.ex,b∉X.fs
 funs:X.s₀.heap.FunFrames X.base X.outer
 frf:∀b∈X.fs,X.H₀ b=none
 tab:TabOk X.K X.H₀
structure Inv(X:Cx)(pins:List (Addr×Obj))(σ:List (Option V))(H:Hp)(s:Shared):Prop where
 ok:X.Ok
 os:s.os=X.s₀.os
 bare:AllBare s.gens
 base:Un X.fs X.ex X.H₀ H X.s₀.heap s.heap
 loc:∃m,s.heap.Ns X.env.locals m/\∀(i:Nat)(x:Str)(v:V),X.N[i]?=some x->σ[i]?=some (some v)->Vis X.env.scope x->∃u,RelV v u/\Look X.env s.heap m x u
 cell:∀x c,X.env.cells.lookup x=some c->∃v,s.heap.IsCell c v
 free:H X.env.locals=none
 freeC:∀x c,X.env.cells.lookup x=some c->H c=none
 pin:∀p∈X.pn++pins,s.heap.get? p.1=some p.2/\H p.1=none/\p.1≠X.env.locals/\p.1∉X.fs/\∀v,p.2.data≠.cell v
 hok:HOk X.prog X.w H s.heap
 len:σ.length=X.N.length
section
variable{σ:List (Option V)}
theorem Cx.Ok.nofr(ok:X.Ok){o:Obj}(e:X.base.get? b=some o):b∉X.fs:=fun hb=>by
 have:=(ok.funs.mem hb).1
 rw[e]at this;cases this
theorem Inv.bs(I:Inv X pins σ H s):∀b o,X.base.get? b=some o->s.heap.get? b=some o/\H b=none:=fun b o e=>
 ⟨I.base.keep b o (I.ok.bs b o e).1 (I.ok.bs b o e).2 (I.ok.nofr e) (I.ok.noex b o e),I.base.free b o (I.ok.bs b o e).1 (I.ok.bs b o e).2 (I.ok.noex b o e)⟩
theorem Inv.bk(I:Inv X pins σ H s):∀b o,X.base.get? b=some o->s.heap.get? b=some o:=fun b o e=>(I.bs b o e).1
theorem Inv.mod(I:Inv X pins σ H s):Mod X.K X.mg X.base:=I.ok.mod
theorem Inv.kIn(I:Inv X pins σ H s):X.K.In s.heap:=I.ok.mod.kin.keeps I.bk
theorem Inv.fr(I:Inv X pins σ H s):∃m,Fr X.base X.env.locals s.heap m:=
 let ⟨m,hn,_⟩:=I.loc
 ⟨m,hn,I.bk,w0j I.ok.bsz I.ok.above⟩
theorem Inv.lt(I:Inv X pins σ H s):X.env.locals<s.heap.objs.size:=let ⟨_,hn,_⟩:=I.loc;hn.lt
theorem Inv.sz(I:Inv X pins σ H s):X.s₀.heap.objs.size<=s.heap.objs.size:=w0j I.ok.above (w4a I.lt)
theorem Inv.nofs(I:Inv X pins σ H s)(h:s.heap.objs.size<=a):a∉X.fs:=fun hb=>by
 obtain⟨_,o,ho,_⟩:=I.ok.funs.mem hb
 exact absurd (w0l (Heap.lt_size ho) (w0j I.sz h)) (w1v _)
theorem Inv.cne(I:Inv X pins σ H s):∀x c,X.env.cells.lookup x=some c->c≠X.env.locals:=fun x c e z=>by
 obtain⟨v,o,ho,hd⟩:=I.cell x c e;obtain⟨m,⟨o',es,ep,ho',hd',_⟩,_⟩:=I.loc;rw[z,ho']at ho;cases ho;rw[hd']at hd;cases hd
theorem Inv.funs(I:Inv X pins σ H s):s.heap.FunFrames X.base X.outer:=by
 have all:∀(l:List Env),(∀b∈frs l,b∈X.fs)->X.s₀.heap.FunFrames X.base l->s.heap.FunFrames X.base l:=by
  intro l
  induction l with
  |nil=>intro _ _;trivial
  |cons env r ih=>
   intro hs hl;obtain⟨hk,⟨L,o,hf,hn,ho,hd⟩,hr⟩:=hl;have hL:L∈X.fs:=hs L (by unfold frs;rw[w2r,hf];exact w1c);obtain⟨sl,e⟩:=I.base.slot L o ho (I.ok.frf L hL) hL fun z=>I.ok.exfs L z hL
   exact⟨hk,⟨L,_,hf,hn,e,hd⟩,ih (fun b hb=>hs b (by unfold frs;rw[w2r,hf];exact w0t _ hb)) hr⟩
 exact all X.outer (fun _ hb=>hb) I.ok.funs
theorem Inv.stack(I:Inv X pins σ H s):s.heap.FunFrames X.base X.stack:=by
 rcases I.ok.stk with e|⟨e,hf⟩
 ·rw[e];exact I.funs
 ·rw[e];obtain⟨m,hn,_⟩:=I.loc;refine .cons (by rw[I.ok.kind];decide) hf hn ?_ I.funs
  exact Heap.get?_none_of_le (w0j I.ok.bsz I.ok.above)
theorem Inv.stkSub(I:Inv X pins σ H s):∀b∈frs X.stack,b∈X.env.locals::X.fs:=fun b hb=>by
 rcases I.ok.stk with e|⟨e,hf⟩
 ·rw[e]at hb;exact w0t _ hb
 ·rw[e]at hb;unfold frs at hb;rw[w2r,hf]at hb;exact hb
theorem Inv.stkFree(I:Inv X pins σ H s):∀b∈frs X.stack,H b=none:=fun b hb=>by
 rcases w0s.mp (I.stkSub b hb)with e|hb
 ·rw[e];exact I.free
 ·obtain⟨_,o,ho,_⟩:=I.ok.funs.mem hb
  exact I.base.free b o ho (I.ok.frf b hb) fun z=>I.ok.exfs b z hb
theorem Inv.step{g':Array GenState}{d':Drawn}{ch:List Addr}(I:Inv X pins σ H s)
  (hch:∀b∈ch,(b∈X.ex\/X.s₀.heap.objs.size<=b)/\b≠X.env.locals/\(∀x c,X.env.cells.lookup x=some c->c≠b)/\∀p∈X.pn++pins,p.1≠b)
  (keep:∀b o,b≠X.env.locals->b∉X.fs->b∉ch->s.heap.get? b=some o->H b=none->h'.get? b=some o)
  (slot:∀b o,b≠X.env.locals->b∈X.fs->b∉ch->s.heap.get? b=some o->H b=none->∃sl,h'.get? b=some {o with slots:=sl})(free:∀b o,b∉ch->s.heap.get? b=some o->H b=none->H' b=none)
  (there:∀b o,b∉ch->s.heap.get? b=some o->∃o',h'.get? b=some o')
  (tups:∀b xs,H b=some (.tup xs)->H' b=some (.tup xs))(frzs:∀b o u,H b=some (.frz o u)->H' b=some (.frz o u))(tbls:∀b ps,H b=some (.tbl ps)->∃more,H' b=some (.tbl (ps++more)))
  (ns:∀m,s.heap.Ns X.env.locals m->h'.Ns X.env.locals m)(hok:HOk X.prog X.w H' h')(hg:AllBare g'):
  Inv X pins σ H' {s with heap:=h',gens:=g',drawn:=d',toks:=t'}:=by
 have neL:∀b o,X.s₀.heap.get? b=some o->b≠X.env.locals:=fun b o e=>w0p (w0l (Heap.lt_size e) I.ok.above)
 have neC:∀b o,X.s₀.heap.get? b=some o->b∉X.ex->b∉ch:=fun b o e hx hb=>by
  rcases(hch b hb).1 with z|z
  ·exact hx z
  ·exact absurd (w0l (Heap.lt_size e) z) (w1v _)
 have cellK:∀x c,X.env.cells.lookup x=some c->∀v,s.heap.IsCell c v->h'.IsCell c v:=fun x c e v ⟨o,ho,hd⟩=>by
  have nch:c∉ch:=fun z=>(hch c z).2.2.1 x c e rfl
  by_cases hc:c∈X.fs
  ·obtain⟨sl,q⟩:=slot c o (I.cne x c e) hc nch ho (I.freeC x c e);exact⟨_,q,hd⟩
  ·exact⟨o,keep c o (I.cne x c e) hc nch ho (I.freeC x c e),hd⟩
 refine⟨I.ok,I.os,hg,⟨fun b o e n hb hx=>?_,fun b o e n hb hx=>?_,fun b o e n hx=>?_,fun b o e hx=>?_,fun b xs e=>tups b xs (I.base.tups b xs e),fun b o xs e=>frzs b o xs (I.base.frzs b o xs e),fun b ps e=>?_⟩,?_,fun x c e=>?_,?_,fun x c e=>?_,fun p hp=>?_,hok,I.len⟩
 ·exact keep b o (neL b o e) hb (neC b o e hx) (I.base.keep b o e n hb hx) (I.base.free b o e n hx)
 ·obtain⟨sl,e1⟩:=I.base.slot b o e n hb hx;obtain⟨sl',e2⟩:=slot b _ (neL b o e) hb (neC b o e hx) e1 (I.base.free b o e n hx);exact⟨sl',e2⟩
 ·obtain⟨o',e1⟩:=I.base.there b o e hx;exact free b o' (neC b o e hx) e1 (I.base.free b o e n hx)
 ·obtain⟨o',e1⟩:=I.base.there b o e hx;exact there b o' (neC b o e hx) e1
 ·obtain⟨m1,e1⟩:=I.base.tbls b ps e;obtain⟨m2,e2⟩:=tbls b _ e1;exact⟨m1++m2,by rw[e2,Array.append_assoc]⟩
 ·obtain⟨m,hn,hl⟩:=I.loc;refine⟨m,ns m hn,fun i x v e1 e2 e3=>?_⟩
  obtain⟨u,r,l⟩:=hl i x v e1 e2 e3;refine⟨u,r,?_⟩;rcases l with l|⟨k,c,e,z⟩
  ·exact .inl l
  ·exact .inr ⟨k,c,e,cellK x c e _ z⟩
 ·obtain⟨v,z⟩:=I.cell x c e;exact⟨v,cellK x c e v z⟩
 ·obtain⟨m,⟨o,_,_,ho,_⟩,_⟩:=I.loc;exact free _ o (fun z=>(hch _ z).2.1 rfl) ho I.free
 ·obtain⟨v,o,ho,hd⟩:=I.cell x c e;exact free c o (fun z=>(hch c z).2.2.1 x c e rfl) ho (I.freeC x c e)
 ·obtain⟨e,n,ne,nf,d⟩:=I.pin p hp;have nch:p.1∉ch:=fun z=>(hch p.1 z).2.2.2 p hp rfl
  exact⟨keep p.1 p.2 ne nf nch e n,free p.1 p.2 nch e n,ne,nf,d⟩
theorem Inv.un(I:Inv X pins σ H s)(u:Un X.fs [] H H' s.heap h')(hok:HOk X.prog X.w H' h'):Inv X pins σ H' {s with heap:=h',toks:=t'}:=by
 obtain⟨m,⟨o,es,ep,ho,r⟩,_⟩:=id I.loc;obtain⟨sl,hL⟩:=u.any ho I.free (by simp)
 exact I.step (g':=s.gens) (d':=s.drawn) (ch:=[]) (fun _ z=>nomatch z) (fun b o _ hb _ e n=>u.keep b o e n hb (by simp)) (fun b o _ hb _ e n=>u.slot b o e n hb (by simp)) (fun b o _ e n=>u.free b o e n (by simp)) (fun b o _ e=>u.there b o e (by simp)) u.tups u.frzs u.tbls (fun m' hm=>by
  obtain⟨o',es',ep',ho',r'⟩:=hm;rw[ho]at ho';cases ho';exact⟨_,es',ep',hL,r'⟩) hok I.bare
theorem Inv.call{g':Array GenState}{d':Drawn}(I:Inv X pins σ H s)(u:Un (frs X.stack) ch H H' s.heap h')(hok:HOk X.prog X.w H' h')(hg:AllBare g')
  (hch:∀b∈ch,(b∈X.ex\/X.s₀.heap.objs.size<=b)/\b≠X.env.locals/\(∀x c,X.env.cells.lookup x=some c->c≠b)/\∀p∈X.pn++pins,p.1≠b):
  Inv X pins σ H' {s with heap:=h',gens:=g',drawn:=d',toks:=t'}:=by
 obtain⟨m,⟨o,es,ep,ho,r⟩,_⟩:=id I.loc;obtain⟨sl,hL⟩:=u.any ho I.free fun z=>(hch _ z).2.1 rfl
 exact I.step (ch:=ch) hch (fun b o hL hb hc e n=>u.keep b o e n (fun z=>(w0s.mp (I.stkSub b z)).elim hL hb) hc) (fun b o _ _ hc e n=>u.any e n hc) (fun b o hc e n=>u.free b o e n hc) (fun b o hc e=>u.there b o e hc) u.tups u.frzs u.tbls (fun m' hm=>by
  obtain⟨o',es',ep',ho',r'⟩:=hm;rw[ho]at ho';cases ho';exact⟨_,es',ep',hL,r'⟩) hok hg
theorem Inv.turned{t':Nat}{it:Addr}(I:Inv X pins σ H s)(k:∀b o,b≠it->s.heap.get? b=some o->h'.get? b=some o)(hn:H it=none)(hL:it≠X.env.locals)
  (h1:it∈X.ex\/X.s₀.heap.objs.size<=it)(h2:∀x c,X.env.cells.lookup x=some c->c≠it)(h3:∀p∈X.pn++pins,p.1≠it):Inv X pins σ H {s with heap:=h',toks:=t'}:=by
 have nit:∀b u,H b=some u->b≠it:=fun b u e z=>by rw[z,hn]at e;cases e
 refine I.step (g':=s.gens) (d':=s.drawn) (ch:=[it]) (fun b hb=>?_) (fun b o _ _ hc e _=>k b o (fun z=>hc (by simp[z])) e) (fun b o _ _ hc e _=>⟨o.slots,k b o (fun z=>hc (by simp[z])) e⟩) (fun _ _ _ _ n=>n)
  (fun b o hc e=>⟨o,k b o (fun z=>hc (by simp[z])) e⟩) (fun _ _ e=>e) (fun _ _ _ e=>e) (fun b ps e=>⟨#[],by rw[e];simp⟩) (fun m hm=>?_) (fun b u e=>?_) I.bare
 ·have e:b=it:=by simpa using hb
  subst e;exact⟨h1,hL,h2,h3⟩
 ·obtain⟨o,es,ep,ho,r⟩:=hm;exact⟨o,es,ep,k _ o (Ne.symm hL) ho,r⟩
 ·refine(I.hok b u e).stay (fun c v hc q=>k c v ?_ q) (fun _ q=>q) fun _ _ _ q=>q
  rcases hc with z|z
  ·rw[z];exact nit b u e
  ·exact nit c _ z
theorem Inv.tok(I:Inv X pins σ H s)(t:Nat):Inv X pins σ H {s with toks:=t}:=I.un (h':=s.heap) (t':=t) Un.refl I.hok
theorem Inv.kept{t':Nat}(I:Inv X pins σ H s)(k:∀b u,s.heap.get? b=some u->h'.get? b=some u):Inv X pins σ H {s with heap:=h',toks:=t'}:=I.un (Un.kept k) (I.hok.kept k)
theorem Inv.laid{o:HO}{t':Nat}(I:Inv X pins σ H s)(k:∀b u,s.heap.get? b=some u->h'.get? b=some u)(hp:s.heap.objs.size<=a)(new:ObjOk X.prog X.w (upd H a o) h' a o):
  Inv X pins σ (upd H a o) {s with heap:=h',toks:=t'}:=I.un (Un.laid k hp (I.hok.fresh hp)) (I.hok.laid k hp new)
theorem Inv.write{x e:Addr}{o:HO}(I:Inv X pins σ H s)(mu:Mut (H x))(he:e=x\/H e=some (.own x))(k:∀b u,b≠e->s.heap.get? b=some u->h'.get? b=some u)(heo:∃u,h'.get? e=some u)
  (new:ObjOk X.prog X.w (upd H x o) h' x o):Inv X pins σ (upd H x o) {s with heap:=h',toks:=t'}:=I.un (Un.write mu he k heo) (I.hok.write mu he k heo new)
theorem Inv.weak{σ':List (Option V)}(I:Inv X pins σ H s)(hl:σ'.length=σ.length)(w:∀(i:Nat) v,σ'[i]?=some (some v)->σ[i]?=some (some v)):Inv X pins σ' H s:=
 ⟨I.ok,I.os,I.bare,I.base,let ⟨m,hn,hl'⟩:=I.loc;⟨m,hn,fun i x v e1 e2 e3=>hl' i x v e1 (w i v e2) e3⟩,I.cell,I.free,I.freeC,I.pin,I.hok,hl.trans I.len⟩
theorem Inv.pins_of{pins':List (Addr×Obj)}(I:Inv X pins σ H s)(h:∀p∈pins',s.heap.get? p.1=some p.2/\H p.1=none/\p.1≠X.env.locals/\p.1∉X.fs/\∀v,p.2.data≠.cell v):Inv X pins' σ H s:=
 ⟨I.ok,I.os,I.bare,I.base,I.loc,I.cell,I.free,I.freeC,fun p hp=>(w2a.mp hp).elim (fun z=>I.pin p (w2e _ z)) (h p),I.hok,I.len⟩
theorem q93(hN:N.Nodup){j:Nat}(a:N[i]?=some x)(b:N[j]?=some x):i=j:=by
 obtain⟨h1,e1⟩:=w0b.mp a;obtain⟨h2,e2⟩:=w0b.mp b;exact(List.getElem_inj hN).mp (e1.trans e2.symm)
theorem x3z{Q:Unit->Shared->Prop}(I:Inv X pins σ H s)(hN:X.N.Nodup)(hi:X.N[i]?=some x)(hx:Loc X.env.scope x)(r:RelV v u)
  (h:∀s',Inv X pins (σ.set i (some v)) H s'->(∃a,Heap.SameBut a s.heap s'.heap/\(a=X.env.locals\/X.env.cells.lookup x=some a))->Q () s')(hf:X.fn x=true\/X.env.scope.names.lookup x=some .local:=by walk_at "2"):wpAny M A (storeName X.env x u) Q E s:=by
 obtain⟨m,hn,hl⟩:=id I.loc;have hcls:(X.env.scope.kind==.class||(X.env.scope.kind==.module&&X.env.locals != X.env.globals))=false:=by rw[I.ok.kind];rfl
 have hiσ:i<σ.length:=by rw[I.len];exact(w0b.mp hi).1
 have cne:=I.cne
 have tracked:∀{a:Addr}{h':Heap},(∃o,s.heap.get? a=some o/\H a=none)->Heap.SameBut a s.heap h'->HOk X.prog X.w H h':=fun {a h'} ha hs b ob e=>by
  obtain⟨_,_,hfree⟩:=ha;refine(I.hok b ob e).stay (fun c w' hc q=>(hs.2 c ?_).trans q) (fun _ q=>q) fun _ _ _ q=>q
  rintro rfl;rcases hc with rfl|hc
  ·rw[hfree]at e;cases e
  ·rw[hfree]at hc;cases hc
 rcases hx with hk|hk
 ·refine wpAny_storeName_local hk hn (fun h' hn' hs=>?_) hcls
  obtain⟨oL,_,_,hoL,_⟩:=id hn;refine h _ ⟨I.ok,I.os,I.bare,⟨fun b o e n hb hx=>?_,fun b o e n hb hx=>?_,I.base.free,fun b o e hx=>?_,I.base.tups,I.base.frzs,I.base.tbls⟩,⟨_,hn',fun j y v' e1 e2 e3=>?_⟩,fun y c e=>?_,I.free,I.freeC,fun p hp=>?_,tracked ⟨oL,hoL,I.free⟩ hs,by simpa using I.len⟩ ⟨_,hs,.inl rfl⟩
  ·exact(hs.2 b (w0p (w0l (Heap.lt_size e) I.ok.above))).trans (I.base.keep b o e n hb hx)
  ·obtain⟨sl,e1⟩:=I.base.slot b o e n hb hx;exact⟨sl,(hs.2 b (w0p (w0l (Heap.lt_size e) I.ok.above))).trans e1⟩
  ·obtain⟨o',e1⟩:=I.base.there b o e hx;exact⟨o',(hs.2 b (w0p (w0l (Heap.lt_size e) I.ok.above))).trans e1⟩
  ·by_cases hj:j=i
   ·subst hj;rw[hi]at e1;cases e1;rw[w0i hiσ]at e2;cases e2;exact⟨u,r,.inl ⟨hk,by simp⟩⟩
   ·rw[w0g (Ne.symm hj)]at e2;obtain⟨u',r',q⟩:=hl j y v' e1 e2 e3;refine⟨u',r',?_⟩;rcases q with⟨k,e⟩|⟨k,c,e,z⟩
    ·refine .inl ⟨k,?_⟩;have:y≠x:=fun e=>hj (q93 hN e1 (e ▸ hi))
     simp[this,e]
    ·exact .inr ⟨k,c,e,z.sameBut hs (cne y c e)⟩
  ·obtain⟨w',z⟩:=I.cell y c e;exact⟨w',z.sameBut hs (cne y c e)⟩
  ·obtain⟨e,n,ne,nf,d⟩:=I.pin p hp;exact⟨(hs.2 p.1 ne).trans e,n,ne,nf,d⟩
 ·have hfn:X.fn x=true:=by
   rcases hf with z|z
   ·exact z
   ·rw[z]at hk;cases hk
  obtain⟨c,hc⟩:=I.ok.has x (.inl hk);obtain⟨w',z⟩:=I.cell x c hc;refine wpAny_storeName_cell I.ok.kind hk hc z (fun h' hc' hs=>?_)
  obtain⟨oc,hoc,hocd⟩:=id z;refine h {s with heap:=h'} ⟨I.ok,I.os,I.bare,⟨fun b o e n hb hx=>?_,fun b o e n hb hx=>?_,I.base.free,fun b o e hx=>?_,I.base.tups,I.base.frzs,I.base.tbls⟩,⟨m,hn.sameBut hs (Ne.symm (cne x c hc)),fun j y v' e1 e2 e3=>?_⟩,fun y c' e=>?_,I.free,I.freeC,fun p hp=>?_,tracked ⟨oc,hoc,I.freeC x c hc⟩ hs,by simpa using I.len⟩ ⟨c,hs,.inr hc⟩
  ·exact(hs.2 b (w0p (w0l (Heap.lt_size e) (I.ok.cab x c hfn hc)))).trans (I.base.keep b o e n hb hx)
  ·obtain⟨sl,e1⟩:=I.base.slot b o e n hb hx;exact⟨sl,(hs.2 b (w0p (w0l (Heap.lt_size e) (I.ok.cab x c hfn hc)))).trans e1⟩
  ·obtain⟨o',e1⟩:=I.base.there b o e hx;exact⟨o',(hs.2 b (w0p (w0l (Heap.lt_size e) (I.ok.cab x c hfn hc)))).trans e1⟩
  ·by_cases hj:j=i
   ·subst hj;rw[hi]at e1;cases e1;rw[w0i hiσ]at e2;cases e2;exact⟨u,r,.inr ⟨.inl hk,c,hc,hc'⟩⟩
   ·rw[w0g (Ne.symm hj)]at e2;obtain⟨u',r',q⟩:=hl j y v' e1 e2 e3;refine⟨u',r',?_⟩;rcases q with q|⟨k,c',e,z'⟩
    ·exact .inl q
    ·refine .inr ⟨k,c',e,z'.sameBut hs ?_⟩;rintro rfl;exact hj (q93 hN e1 (I.ok.inj _ _ _ e hc ▸ hi))
  ·by_cases hcc:c'=c
   ·subst hcc;exact⟨_,hc'⟩
   ·obtain⟨w2,z2⟩:=I.cell y c' e;exact⟨w2,z2.sameBut hs hcc⟩
  ·obtain⟨e,n,ne,nf,d⟩:=I.pin p hp;refine⟨(hs.2 p.1 ?_).trans e,n,ne,nf,d⟩;intro q;rw[q,hoc]at e;have q':oc=p.2:=Option.some.inj e;exact d w' (by rw[<- q'];exact hocd)
theorem q6u{Q:Unit->Shared->Prop}(I:Inv X pins σ H s)(hN:X.N.Nodup)(hi:X.N[i]?=some x)(hx:Loc X.env.scope x)(r:RelV v u)
  (h:∀s',Inv X pins (σ.set i (some v)) H s'->Q () s')(hf:X.fn x=true\/X.env.scope.names.lookup x=some .local:=by walk_at "2"):wpAny M A (storeName X.env x u) Q E s:=
 x3z I hN hi hx r (fun s' I' _=>h s' I') hf
theorem Inv.call'{s':Shared}{ch:List Addr}(I:Inv X pins σ H s)(ho:s'.os=s.os)(u:Un (frs X.stack) ch H H' s.heap s'.heap)(hok:HOk X.prog X.w H' s'.heap)(hg:AllBare s'.gens)
  (hch:∀b∈ch,(b∈X.ex\/X.s₀.heap.objs.size<=b)/\b≠X.env.locals/\(∀x c,X.env.cells.lookup x=some c->c≠b)/\∀p∈X.pn++pins,p.1≠b):Inv X pins σ H' s':=by
 obtain⟨h',g',d',t',o'⟩:=s';have e:o'=s.os:=ho;subst e;exact I.call (g':=g') (t':=t') (d':=d') u hok hg hch
end
abbrev XK:=Value->Option Addr->Hp->Prop
noncomputable abbrev St:=List (Option V)
variable{σ:St}
abbrev VK:=V->Hp->Prop
abbrev TE:=St->Hp->VK->Prop
variable{ta te:TE}
abbrev TT:=St->Hp->(Bool->Hp->Prop)->Prop
abbrev TA:=St->Hp->(List V->Hp->Prop)->Prop
variable{t:TA}
structure Ends where
 nx:St->Hp->Prop
 rt:VK
 bk:St->Hp->Prop:=fun _ _=>False
 ct:St->Hp->Prop:=fun _ _=>False
abbrev TS:=Ends->St->Hp->Prop
variable{tb:TS}
def EP(X:Cx)(pins:List (Addr×Obj))(σ:St)(Q:VK)(u:Value)(s':Shared):Prop:=∃v H',Inv X pins σ H' s'/\RelV v u/\Q v H'
def TP(X:Cx)(pins:List (Addr×Obj))(σ:St)(Q:Bool->Hp->Prop)(b:Bool)(s':Shared):Prop:=∃H',Inv X pins σ H' s'/\Q b H'
def AP(X:Cx)(pins:List (Addr×Obj))(σ:St)(Q:List V->Hp->Prop)(us:List Value)(s':Shared):Prop:=∃vs H',Inv X pins σ H' s'/\Vals vs us/\Q vs H'
def SP(X:Cx)(pins:List (Addr×Obj))(D:Ends)(f:Flow)(s':Shared):Prop:=
 match f with
 |.next=>∃σ' H',Inv X pins σ' H' s'/\D.nx σ' H'
 |.brk=>∃σ' H',Inv X pins σ' H' s'/\D.bk σ' H'
 |.cont=>∃σ' H',Inv X pins σ' H' s'/\D.ct σ' H'
 |.ret u=>∃v σ' H',Inv X pins σ' H' s'/\RelV v u/\D.rt v H'
def PE(X:Cx)(e:Expr)(t:TE):Prop:=
 ∀(pins:List (Addr×Obj))(s:Shared)(σ:St)(H:Hp)(Q:VK),Inv X pins σ H s->t σ H Q->wpAny (model X.prog X.w) X.A (eval e X.env) (EP X pins σ Q) X.xe s
def PT(X:Cx)(e:Expr)(t:TT):Prop:=
 ∀(pins:List (Addr×Obj))(s:Shared)(σ:St)(H:Hp)(Q:Bool->Hp->Prop),Inv X pins σ H s->t σ H Q->wpAny (model X.prog X.w) X.A (isTrue e X.env (eval e X.env)) (TP X pins σ Q) X.xe s
def PW(X:Cx)(e:Expr)(t:TT):Prop:=
 ∀(whole:Sem Value)(pins:List (Addr×Obj))(s:Shared)(σ:St)(H:Hp)(Q:Bool->Hp->Prop),Inv X pins σ H s->t σ H Q->wpAny (model X.prog X.w) X.A (isTrue e X.env whole) (TP X pins σ Q) X.xe s
theorem PW.pt{t:TT}(h:PW X e t):PT X e t:=h _
def PA(X:Cx)(es:List Expr)(t:TA):Prop:=
 ∀(pos:Pos)(pins:List (Addr×Obj))(s:Shared)(σ:St)(H:Hp)(Q:List V->Hp->Prop),Inv X pins σ H s->t σ H Q->wpAny (model X.prog X.w) X.A (spliced (backTo pos (starEach es X.env))) (AP X pins σ Q) X.xe s
def PS(X:Cx)(st:Stmt)(t:TS):Prop:=
 ∀(pins:List (Addr×Obj))(s:Shared)(σ:St)(H:Hp)(D:Ends),Inv X pins σ H s->t D σ H->wpAny (model X.prog X.w) X.A (exec st X.env) (SP X pins D) X.xe s
def PSs(X:Cx)(st:List Stmt)(t:TS):Prop:=
 ∀(pins:List (Addr×Obj))(s:Shared)(σ:St)(H:Hp)(D:Ends),Inv X pins σ H s->t D σ H->wpAny (model X.prog X.w) X.A (execs st X.env) (SP X pins D) X.xe s
theorem thn{α:Type}{t:Sem α}{Q Q':α->Shared->Prop}(h:wpAny M A t Q E s)(hQ:∀a s,Q a s->Q' a s):wpAny M A t Q' E s:=wpAny_mono h hQ fun _ _ x=>x
section
def tVar(i:Nat):TE:=fun σ H Q=>∃v,σ[i]?=some (some v)/\Q v H
def tC(v:V):TE:=fun _ H Q=>Q v H
theorem y0t(hN:X.N[i]?=some x)(hv:Vis X.env.scope x)(hd:(x==("__debug__":Str))=false:=by decide)(hcd:(x==("__classdict__":Str))=false:=by decide):PE X (.Name x pos) (tVar i):=by
 intro pins s σ H Q I h;obtain⟨v,e,h⟩:=h;obtain⟨m,hn,hl⟩:=I.loc;obtain⟨u,r,l⟩:=hl i x v hN e hv;have fin:EP X pins σ Q u s:=⟨v,H,I,r,h⟩;rcases l with⟨hk,hm⟩|⟨hk,c,hc,hcell⟩
 ·exact wpAny_Name (wpAny_loadName_local I.ok.kind hk hn hm fin) hd
 ·rcases hk with hk|hk
  ·exact wpAny_Name (wpAny_loadName_cell I.ok.kind hk hc hcell fin) hd
  ·exact wpAny_Name (wpAny_loadName_free I.ok.kind hk hc hcell fin hcd) hd
theorem x30{i j pos}:PE X (.Constant (.int i) j pos) (tC (.int i)):=fun _ _ _ H _ I h=>wpAny_Constant_int ⟨.int i,H,I.tok _,⟨_,rfl⟩,h⟩
theorem y3y{b j pos}:PE X (.Constant (.bool b) j pos) (tC (.bl b)):=fun _ _ _ H _ I h=>Constant_bool ⟨.bl b,H,I,rfl,h⟩
theorem y0u{j pos}:PE X (.Constant .none j pos) (tC .non):=fun _ _ _ H _ I h=>Constant_none ⟨.non,H,I,rfl,h⟩
theorem y0v{x j pos}:PE X (.Constant (.str x) j pos) (tC (.str x)):=fun _ _ _ H _ I h=>Calls.Constant_str ⟨.str x,H,I.tok _,⟨_,rfl⟩,h⟩
def Gl(X:Cx)(x:Str):Prop:=X.env.kindOf x=some .globalImplicit
theorem q51{Q:Value->Shared->Prop}(I:Inv X pins σ H s)(hg:Gl X x)(hm:X.mg x=some u)(h:Q u s)
  (hd:(x==("__debug__":Str))=false:=by decide):wpAny (model X.prog X.w) X.A (eval (.Name x pos) X.env) Q E s:=
 Calls.Name_function_global I.ok.kind hg (Calls.loadGlobal_global (by rw[I.ok.glob];exact I.mod.glob.keeps I.bk) hm h) hd
theorem q3o{Q:Value->Shared->Prop}(I:Inv X pins σ H s)(hg:Gl X x)(hm:X.mg x=none)(hv:bootBuiltins x=some u)(h:Q u s)
  (hn:x≠"__name__":=by decide)(hd:(x==("__debug__":Str))=false:=by decide):wpAny (model X.prog X.w) X.A (eval (.Name x pos) X.env) Q E s:=by
 obtain⟨mb,h1,h2⟩:=I.mod.blt;exact Calls.Name_function_global I.ok.kind hg (Calls.loadGlobal_builtin (by rw[I.ok.glob];exact I.mod.glob.keeps I.bk) hm (by rw[I.ok.blt];exact h1.keeps I.bk) ((h2 x hn).trans hv) h) hd
theorem x2d{v:V}(hg:Gl X x)(hm:X.mg x=some u)(r:RelV v u)(hd:(x==("__debug__":Str))=false:=by decide):PE X (.Name x pos) (tC v):=
 fun _ _ _ H _ I h=>q51 I hg hm ⟨v,H,I,r,h⟩ hd
theorem x79{v:V}(hg:Gl X x)(hm:X.mg x=none)(hv:bootBuiltins x=some u)(r:RelV v u)(hn:x≠"__name__":=by decide)(hd:(x==("__debug__":Str))=false:=by decide):PE X (.Name x pos) (tC v):=
 fun _ _ _ H _ I h=>q3o I hg hm hv ⟨v,H,I,r,h⟩ hn hd
variable{a b:Expr}{tb:TE}
def PC(X:Cx)(op:CmpOp)(a b:Expr)(t:TE):Prop:=
 ∀(pins:List (Addr×Obj))(s:Shared)(σ:St)(H:Hp)(Q:VK),Inv X pins σ H s->t σ H Q ->
  wpAny (model X.prog X.w) X.A (eval a X.env) (fun v s₁=>wpAny (model X.prog X.w) X.A (eval b X.env) (fun u s₂=>wpAny (model X.prog X.w) X.A (compareOp op v u) (EP X pins σ Q) X.xe s₂) X.xe s₁) X.xe s
variable{tA tB':TT}{rest:List Expr}
def tAnd(t u:TT):TT:=fun σ H Q=>t σ H fun c H1=>if c=true then u σ H1 Q else Q false H1
def tOr(t u:TT):TT:=fun σ H Q=>t σ H fun c H1=>if c=true then Q true H1 else u σ H1 Q
def tNot(t:TT):TT:=fun σ H Q=>t σ H fun c H1=>Q (!c) H1
theorem x8a(ha:PT X a tA):PW X (.BoolOp .And [a] pos) tA:=by
 intro wh pins s σ H Q I h;refine isTrue_and (thn (ha pins s σ H Q I h) fun c s1 e=>?_)
 cases c with
 |true=>exact isTrue_and_nil e
 |false=>exact e
theorem y0w(ha:PT X a tA):PW X (.BoolOp .Or [a] pos) tA:=by
 intro wh pins s σ H Q I h;refine isTrue_or (thn (ha pins s σ H Q I h) fun c s1 e=>?_)
 cases c with
 |false=>exact isTrue_or_nil e
 |true=>exact e
theorem y0x(ha:PT X a tA)(hb:PW X (.BoolOp .And (b::rest) pos) tB'):PW X (.BoolOp .And (a::b::rest) pos) (tAnd tA tB'):=by
 intro wh pins s σ H Q I h;refine isTrue_and (thn (ha pins s σ H _ I h) fun c s1 ⟨H1,I1,q1⟩=>?_)
 cases c with
 |true=>exact hb wh pins s1 σ H1 Q I1 q1
 |false=>exact⟨H1,I1,q1⟩
theorem y3z(ha:PT X a tA)(hb:PW X (.BoolOp .Or (b::rest) pos) tB'):PW X (.BoolOp .Or (a::b::rest) pos) (tOr tA tB'):=by
 intro wh pins s σ H Q I h;refine isTrue_or (thn (ha pins s σ H _ I h) fun c s1 ⟨H1,I1,q1⟩=>?_)
 cases c with
 |true=>exact⟨H1,I1,q1⟩
 |false=>exact hb wh pins s1 σ H1 Q I1 q1
theorem y0y(ha:PT X a tA):PT X (.UnaryOp .Not a pos) (tNot tA):=by
 intro pins s σ H Q I h;exact isTrue_not (ha pins s σ H (fun c H1=>Q (!c) H1) I h)
def tOrV(ta tb:TE):TE:=fun σ H Q=>ta σ H fun x H1=>∃c,x=.bl c/\if c=true then Q (.bl true) H1 else tb σ H1 Q
def tNotV(ta:TE):TE:=fun σ H Q=>ta σ H fun x H1=>∃c,x=.bl c/\Q (.bl (!c)) H1
theorem y0z{op}{t:TE}(h:PE X a t):PE X (.BoolOp op [a] pos) t:=fun pins s σ H Q I hw=>BoolOp_one (h pins s σ H Q I hw)
theorem y30(ha:PE X a ta)(hb:PE X (.BoolOp .Or (b::rest) pos) tb):PE X (.BoolOp .Or (a::b::rest) pos) (tOrV ta tb):=by
 intro pins s σ H Q I h;refine BoolOp_or (thn (ha pins s σ H _ I h) fun v s1 ⟨x,H1,I1,r1,q1⟩=>?_)
 obtain⟨c,rfl,q1⟩:=q1;cases r1;refine wpAny_truthy_bool ?_;cases c with
 |false=>exact hb pins s1 σ H1 Q I1 q1
 |true=>exact⟨.bl true,H1,I1,rfl,q1⟩
theorem y00(ha:PE X a ta):PE X (.UnaryOp .Not a pos) (tNotV ta):=by
 intro pins s σ H Q I h;refine UnaryOp_ (thn (ha pins s σ H _ I h) fun v s1 ⟨x,H1,I1,r1,q1⟩=>?_)
 obtain⟨c,rfl,q1⟩:=q1;cases r1;exact not_of (wpAny_truthy_bool ⟨.bl (!c),H1,I1,rfl,q1⟩)
def tIf(t:TT)(ta tb:TE):TE:=fun σ H Q=>t σ H fun c H1=>if c=true then ta σ H1 Q else tb σ H1 Q
theorem x6b(hc:PT X c tA)(ha:PE X a ta)(hb:PE X b tb):PE X (.IfExp c a b pos) (tIf tA ta tb):=by
 intro pins s σ H Q I h;refine wpAny_IfExp (thn (hc pins s σ H _ I h) fun d s1 ⟨H1,I1,q1⟩=>?_)
 cases d with
 |true=>exact ha pins s1 σ H1 Q I1 q1
 |false=>exact hb pins s1 σ H1 Q I1 q1
end
def SqL(K:PySem.W.Frag)(H:Hp)(a:Addr)(xs:List V):Prop:=
 Rd H a (.lst xs) \/
  ∃(o:Obj)(its:Array Value)(n:Nat),K.lookup a=some o/\o.cls=.type "list" /\ o.dict=none/\o.data=.seq its n/\its.size<=sizeLine/\Vals xs its.toList
def SqT(K:PySem.W.Frag)(H:Hp)(a:Addr)(xs:List V):Prop:=
 Rd H a (.tup xs) \/
  ∃(o:Obj)(its:Array Value)(n:Nat),K.lookup a=some o/\o.cls=.type "tuple" /\ o.dict=none/\o.data=.seq its n/\its.size<=sizeLine/\Vals xs its.toList
noncomputable def absV:Value->Option V
 |.none=>some .non
 |.bool b=>some (.bl b)
 |.int i _=>some (.int i)
 |.str x _=>some (.str x)
 |.bytes b _=>some (.byt b)
 |.float b _=>some (.flt b)
 |.ref a=>some (.ref a)
 |.type n=>some (.ty n)
 |_=>none
theorem RelV.abs{x:V}(r:RelV x u):absV u=some x:=by
 cases x with
 |non=>cases r;rfl
 |bl _=>cases r;rfl
 |int _=>obtain⟨t,rfl⟩:=r;rfl
 |str _=>obtain⟨t,rfl⟩:=r;rfl
 |byt _=>obtain⟨t,rfl⟩:=r;rfl
 |flt _=>obtain⟨t,rfl⟩:=r;rfl
 |ref _=>cases r;rfl
 |ty _=>cases r;rfl
theorem RelV.inj{x y:V}(r:RelV x u)(q:RelV y u):x=y:=Option.some.inj (r.abs.symm.trans q.abs)
theorem Vals.inj:∀{xs ys:List V}{us:List Value},Vals xs us->Vals ys us->xs=ys
 |_,_,_,.nil,.nil=>rfl
 |_,_,_,.cons r t,.cons r' t'=>by rw[r.inj r',Vals.inj t t']
section
variable{ys:List V}
theorem SqL.of(h:H a=some (.lst xs)):SqL K H a xs:=.inl (.inl h)
theorem SqT.of(h:H a=some (.tup xs)):SqT K H a xs:=.inl (.inl h)
theorem Inv.list(I:Inv X pins σ H s)(h:SqL X.K H a xs):∃its:List Value,Vals xs its/\PlainL s.heap a its.toArray/\xs.length<=sizeLine:=by
 rcases h with h|⟨o,its,n,hk,hc,hd,hs,hz,r⟩
 ·obtain⟨z,its,n,r,e⟩:=h.ok I.hok;exact⟨its,r,⟨_,n,e,rfl,rfl,rfl⟩,z⟩
 ·refine⟨its.toList,r,⟨o,n,I.kIn a o hk,hc,hd,by simpa using hs⟩,?_⟩;have e:=r.length;simp only[w2s]at e;omega
theorem Inv.tuple(I:Inv X pins σ H s)(h:SqT X.K H a xs):∃its:List Value,Vals xs its/\IsTup s.heap a its.toArray/\xs.length<=sizeLine:=by
 rcases h with h|⟨o,its,n,hk,hc,_,hs,hz,r⟩
 ·obtain⟨z,its,r,p,_⟩:=h.ok I.hok;exact⟨its,r,p,z⟩
 ·refine⟨its.toList,r,⟨o,I.kIn a o hk,hc,n,by simpa using hs⟩,?_⟩;have e:=r.length;simp only[w2s]at e;omega
theorem Inv.list_inj(I:Inv X pins σ H s)(h:SqL X.K H a xs)(h':SqL X.K H a ys):xs=ys:=by
 obtain⟨its,r,⟨o,n,e,_,_,d⟩,_⟩:=I.list h;obtain⟨its',r',⟨o',n',e',_,_,d'⟩,_⟩:=I.list h';rw[e]at e';cases e';rw[d]at d';injection d' with d1 _
 have:its=its':=by simpa using congrArg Array.toList d1
 subst this;exact r.inj r'
theorem Inv.tuple_inj(I:Inv X pins σ H s)(h:SqT X.K H a xs)(h':SqT X.K H a ys):xs=ys:=by
 obtain⟨its,r,⟨o,e,_,n,d⟩,_⟩:=I.tuple h;obtain⟨its',r',⟨o',e',_,n',d'⟩,_⟩:=I.tuple h';rw[e]at e';cases e';rw[d]at d';injection d' with d1 _
 have:its=its':=by simpa using congrArg Array.toList d1
 subst this;exact r.inj r'
end
section
variable{st:Stmt}{rest:List Stmt}{t u:TS}
def tNext:TS:=fun D σ H=>D.nx σ H
def tSeq(t u:TS):TS:=fun D σ H=>t {D with nx:=u D} σ H
theorem x8b:PSs X [] tNext:=fun _ _ σ H _ I h=>wpAny_execs_nil ⟨σ,H,I,h⟩
theorem x6c(h1:PS X st t)(h2:PSs X rest u):PSs X (st::rest) (tSeq t u):=by
 intro pins s σ H D I h;refine wpAny_execs_cons (thn (h1 pins s σ H {D with nx:=u D} I h) fun f s1 q=>?_)
 cases f with
 |next=>
  obtain⟨σ',H',I',q⟩:=q;exact h2 pins s1 σ' H' D I' q
 |ret v=>exact q
 |brk=>exact q
 |cont=>exact q
theorem x8c(h1:PS X st t):PSs X [st] t:=by
 intro pins s σ H D I h;refine wpAny_execs_cons (thn (h1 pins s σ H D I h) fun f s1 q=>?_)
 cases f with
 |next=>exact wpAny_execs_nil q
 |ret v=>exact q
 |brk=>exact q
 |cont=>exact q
theorem Inv.quiet(I:Inv X pins σ H s):interactive X.env=false:=by simp[interactive,I.ok.kind]
def tDrop(te:TE):TS:=fun D σ H=>te σ H fun _ H1=>D.nx σ H1
theorem q8b(he:PE X e te)(hs:swapsWith e none pos.line X.env=pure false:=by rfl):PS X (.Expr e pos) (tDrop te):=by
 intro pins s σ H D I h;exact wpAny_Expr_any (thn (he pins s σ H _ I h) fun v s1 ⟨x,H1,I1,r1,q1⟩=>⟨σ,H1,I1,q1⟩) I.quiet hs
def tRet(te:TE):TS:=fun D σ H=>te σ H D.rt
theorem q94(he:PE X e te):PS X (.Return (some e) pos) (tRet te):=by
 intro pins s σ H D I h;exact wpAny_Return_some (thn (he pins s σ H _ I h) fun v s1 ⟨x,H1,I1,r1,q1⟩=>⟨x,σ,H1,I1,r1,q1⟩)
def tIfS(c:TT)(t u:TS):TS:=fun D σ H=>c σ H fun b H1=>if b=true then t D σ H1 else u D σ H1
theorem y31{a b:List Stmt}{tc:TT}(hc:PT X c tc)(ha:PSs X a t)(hb:PSs X b u):PS X (.If c a b pos) (tIfS tc t u):=by
 intro pins s σ H D I h;refine wpAny_If (thn (hc pins s σ H _ I h) fun d s1 ⟨H1,I1,q1⟩=>?_)
 cases d with
 |true=>exact ha pins s1 σ H1 D I1 q1
 |false=>exact hb pins s1 σ H1 D I1 q1
end
abbrev TG:=V->St->Hp->(St->Hp->Prop)->Prop
abbrev TGs:=List V->St->Hp->(St->Hp->Prop)->Prop
def PG(X:Cx)(target:Expr)(t:TG):Prop:=
 ∀(pins:List (Addr×Obj))(s:Shared)(σ:St)(H:Hp)(v:V)(u:Value)(Q:St->Hp->Prop),Inv X pins σ H s->RelV v u->t v σ H Q ->
  wpAny (model X.prog X.w) X.A (assign target X.env u) (fun _ s'=>∃σ' H',Inv X pins σ' H' s'/\Q σ' H') X.xe s
def PGs(X:Cx)(ts:List Expr)(t:TGs):Prop:=
 ∀(pins:List (Addr×Obj))(s:Shared)(σ:St)(H:Hp)(vs:List V)(us:List Value)(Q:St->Hp->Prop),Inv X pins σ H s->Vals vs us->t vs σ H Q ->
  wpAny (model X.prog X.w) X.A (assignInOrder ((assignEach ts X.env).map (·.2)) us) (fun _ s'=>∃σ' H',Inv X pins σ' H' s'/\Q σ' H') X.xe s
def gName(i:Nat):TG:=fun v σ H Q=>Q (σ.set i (some v)) H
theorem x8d(hN:X.N.Nodup)(hi:X.N[i]?=some x)(hx:Loc X.env.scope x)(hf:X.fn x=true\/X.env.scope.names.lookup x=some .local:=by walk_at "2"):PG X (.Name x pos) (gName i):=by
 intro pins s σ H v u Q I r h;exact wpAny_assign_Name (q6u I hN hi hx r (fun s' I'=>⟨_,H,I',h⟩) hf)
noncomputable def gNil:TGs:=fun vs σ H Q=>vs=[]/\Q σ H
noncomputable def gCons(t:TG)(u:TGs):TGs:=fun vs σ H Q=>∃v r,vs=v::r/\t v σ H fun σ' H'=>u r σ' H' Q
theorem x8e:PGs X [] gNil:=by
 intro pins s σ H vs us Q I r h;obtain⟨e,h⟩:=h;subst e;cases r;exact assignInOrder_nil ⟨σ,H,I,h⟩
theorem q95{t:TG}{u:TGs}(h1:PG X e t)(h2:PGs X es u)
  (hs:(assignEach (e::es) X.env).map (·.2)=assign e X.env::(assignEach es X.env).map (·.2):=by rfl):PGs X (e::es) (gCons t u):=by
 intro pins s σ H vs us Q I r h;obtain⟨v,vr,e1,h⟩:=h;subst e1;cases r with
 |cons r rr=>
  rw[hs];refine assignInOrder_cons (thn (h1 pins s σ H _ _ _ I r h) fun _ s1 ⟨σ1,H1,I1,q1⟩=>?_)
  exact h2 pins s1 σ1 H1 _ _ Q I1 rr q1
def gTup(K:PySem.W.Frag)(n:Nat)(t:TGs):TG:=fun v σ H Q=>∃a xs,v=.ref a/\SqT K H a xs/\xs.length=n/\t xs σ H Q
theorem y01{t:TGs}{n:Nat}(hc:X.calm=true)(h:PGs X es t)
  (hn:(assignEach es X.env).length=n:=by rfl)(hst:(assignEach es X.env).findIdx? (·.1)=none:=by rfl):PG X (.Tuple es k pos) (gTup X.K n t):=by
 intro pins s σ H v u Q I r hw;obtain⟨a,xs,e1,hq,hl,hw⟩:=hw;subst e1;cases r;obtain⟨its,rv,ht,hz⟩:=I.tuple hq;refine assign_Tuple_tuple (I.ok.hd hc) ht (by simp[hn,<- hl,rv.length]) hst fun h' hx=>?_
 have I1:Inv X pins σ H {s with heap:=h'}:=I.kept (t':=s.toks) fun b o e=>hx b o (w0p (Heap.lt_size e)) e
 exact h pins _ σ H xs _ Q I1 (by simpa using rv) hw
def tAsg(te:TE)(g:TG):TS:=fun D σ H=>te σ H fun x H1=>g x σ H1 D.nx
theorem y02{pos':Pos}(hN:X.N.Nodup)(hi:X.N[i]?=some x)(hx:Loc X.env.scope x)(he:PE X e te)(hs:swapsWith e (some (.Name x pos')) pos.line X.env=pure false:=by rfl)(hf:X.fn x=true\/X.env.scope.names.lookup x=some .local:=by walk_at "2"):
  PS X (.Assign [.Name x pos'] e pos) (tAsg te (gName i)):=by
 intro pins s σ H D I h;refine wpAny_Assign_Name (thn (he pins s σ H _ I h) fun v s1 ⟨y,H1,I1,r1,q1⟩=>?_) hs
 exact q6u I1 hN hi hx r1 (fun s2 I2=>⟨_,H1,I2,q1⟩) hf
structure It where
 go:Nat->Hp->Prop
 yld:Nat->Hp->V->Hp->Prop
 stop:Nat->Hp->Prop
def FpOk(X:Cx)(pins:List (Addr×Obj))(H:Hp)(b:Addr):Prop:=
 H b=none/\b≠X.env.locals/\b∉X.fs/\(b∈X.ex\/X.s₀.heap.objs.size<=b)/\(∀x c,X.env.cells.lookup x=some c->c≠b)/\∀p∈X.pn++pins,p.1≠b
theorem Inv.fpOk(I:Inv X pins σ H s)(hb:s.heap.objs.size<=b)(hn:H' b=none):FpOk X pins H' b:=by
 refine⟨hn,w2x (w0l I.lt hb),I.nofs hb,.inr (w0j I.sz hb),fun x c e z=>?_,fun p hp z=>?_⟩
 ·obtain⟨v,q⟩:=I.cell x c e;exact absurd (w0l q.lt (by rw[z];exact hb)) (w1v _)
 ·exact absurd (w0l (Heap.lt_size (I.pin p hp).1) (by rw[z];exact hb)) (w1v _)
structure Turn(P:Program)(w:World)(K:PySem.W.Frag)(tg:Expr)(J:It)(fp:List Addr)(it:Addr)(tn:Nat->Heap->Prop):Prop where
 mem:it∈fp
 obj:∀i h,tn i h->∀b∈fp,∃o,h.get? b=some o/\∀v,o.data≠.cell v
 keep:∀i h h',tn i h->(∀b∈fp,∀o,h.get? b=some o->h'.get? b=some o)->tn i h'
 item:∀(X:Cx),X.prog=P->X.w=w->X.K=K->X.calm=true->∀(i:Nat)(pins:List (Addr×Obj))(s:Shared)(σ:St)(H:Hp)(E:Value->Shared->Prop),Inv X pins σ H s->(∀b∈fp,FpOk X pins H b)->tn i s.heap->J.go i H ->
  wpAny (model P w) X.A (pyNext (.ref it)) (fun r s1=>∃u,r=some u /\
   wpAny (model P w) X.A (letOwnedTupleGo tg (.ref it) u) (fun _ s2=>∃x H',Inv X pins σ H' s2/\RelV x u/\J.yld i H x H'/\tn (i+1) s2.heap/\∀b∈fp,H' b=none) E s1) E s
 done:∀(X:Cx),X.prog=P->X.w=w->X.K=K->X.calm=true->∀(i:Nat)(pins:List (Addr×Obj))(s:Shared)(σ:St)(H:Hp)(E:Value->Shared->Prop),Inv X pins σ H s->(∀b∈fp,FpOk X pins H b)->tn i s.heap->J.stop i H ->
  wpAny (model P w) X.A (pyNext (.ref it)) (fun r s1=>r=none/\Inv X pins σ H s1) E s
 self:∀(A:Around)(i:Nat)(s:Shared)(Q:Value->Shared->Prop)(E:Value->Shared->Prop),tn i s.heap->Q (.ref it) s->wpAny (model P w) A (pyIter (.ref it)) Q E s
abbrev TI:=St->Hp->(It->Hp->Prop)->Prop
def PIE(X:Cx)(pins:List (Addr×Obj))(σ:St)(tg:Expr)(R:It->Hp->Prop)(itv:Value)(s2:Shared):Prop:=
 ∃(it:Addr)(fp:List Addr)(tn:Nat->Heap->Prop)(J:It)(H':Hp),itv=.ref it/\Inv X pins σ H' s2/\Turn X.prog X.w X.K tg J fp it tn/\tn 0 s2.heap/\(∀b∈fp,FpOk X pins H' b)/\R J H'
def PI(X:Cx)(tg iter:Expr)(wi:TI):Prop:=
 ∀(pins:List (Addr×Obj))(s:Shared)(σ:St)(H:Hp)(R:It->Hp->Prop),Inv X pins σ H s->wi σ H R ->
  wpAny (model X.prog X.w) X.A (eval iter X.env) (fun v s1=>wpAny (model X.prog X.w) X.A (pyIter v) (PIE X pins σ tg R) X.xe s1) X.xe s
theorem x22{E : Value -> Shared -> Prop}{s : Shared}{it : Addr}{o : Obj}{n : String}{vs : Array Value}{Q : Unit -> Shared -> Prop}(ho : s.heap.get? it = some o)(hc : o.cls = .type n)(hd : o.data = .fields vs)
    (hn : ["enumerate", "zip", "dict_itemiterator", "dict_reverseitemiterator", "odict_iterator", "itertools.zip_longest", "itertools.pairwise"].contains n = false)(hQ : Q () s) : wpAny M A (letOwnedTupleGo tg (.ref it) u) Q E s := by
  unfold letOwnedTupleGo
  cases tg <;> first
    | exact wpAny_pure hQ
    | (cases u <;> first
        | exact wpAny_pure hQ
        | (refine wpAny_bind (wpAny_load ho ?_)
           rw [hc, hd];show wpAny M A (if (["enumerate", "zip", "dict_itemiterator", "dict_reverseitemiterator", "odict_iterator", "itertools.zip_longest", "itertools.pairwise"].contains n && vs[0]? == some (rawInt _)) = true then _ else _) Q E s;rw [if_neg (by intro h; rw [hn, Bool.false_and] at h; cases h)];exact wpAny_pure hQ))
noncomputable def Itl(K:PySem.W.Frag)(a:Addr):It:=
 ⟨fun i H=>∃xs x,SqL K H a xs/\xs[i]?=some x,fun i H x H'=>H'=H/\∀xs,SqL K H a xs->xs[i]?=some x,fun i H=>∃xs,SqL K H a xs/\xs.length<=i⟩
noncomputable def Itt(K:PySem.W.Frag)(a:Addr):It:=
 ⟨fun i H=>∃xs x,SqT K H a xs/\xs[i]?=some x,fun i H x H'=>H'=H/\∀xs,SqT K H a xs->xs[i]?=some x,fun i H=>∃xs,SqT K H a xs/\xs.length<=i⟩
noncomputable def Itr(lo:Int)(n:Nat):It:=⟨fun i _=>i<n,fun i H x H'=>H'=H/\x=.int (lo+i),fun i _=>n<=i⟩
theorem x31(a it:Addr):Turn P w K tg (Itl K a) [it] it (fun i h=>h.IsListIter it a i) where
 mem:=by simp
 obj:=fun i h st b hb=>by
  have e:b=it:=by simpa using hb
  subst e;obtain⟨o,e,c,d⟩:=st;exact⟨o,e,fun v z=>by rw[d]at z;cases z⟩
 keep:=fun i h h' st k=>st.at fun o e=>k it (by simp) o e
 item:=by
  intro X hP hw hK hc i pins s σ H E I hf st hg;subst hP hw hK;obtain⟨xs,x,hq,hx⟩:=hg;obtain⟨its,rv,p,hz⟩:=I.list hq;obtain⟨u,hu,ru⟩:=rv.get hx;obtain⟨f0,f1,f2,f3,f4,f5⟩:=hf it (by simp);refine wpAny_pyNext_list_item st p.isList (x:=u) (by simpa using hu) fun h' st' sb=>?_
  have I1:Inv X pins σ H {s with heap:=h'}:=I.turned (t':=s.toks) (fun b o hb e=>(sb.2 b hb).trans e) f0 f1 f3 f4 f5
  obtain⟨o,e,c,d⟩:=id st';exact⟨u,rfl,x22 (s:={s with heap:=h'}) e c d (by decide) ⟨x,H,I1,ru,⟨rfl,fun ys hy=>by rw[I.list_inj hy hq];exact hx⟩,st',fun b hb=>(hf b hb).1⟩⟩
 done:=by
  intro X hP hw hK hc i pins s σ H E I hf st hg;subst hP hw hK;obtain⟨xs,hq,hx⟩:=hg;obtain⟨its,rv,p,hz⟩:=I.list hq;obtain⟨f0,f1,f2,f3,f4,f5⟩:=hf it (by simp);have hl:=rv.length;exact wpAny_pyNext_list_end (I.ok.hd hc) st p.isList (by simp;omega) fun h' eb=>⟨rfl,I.turned (t':=s.toks) (fun b o hb e=>eb b o hb e) f0 f1 f3 f4 f5⟩
 self:=fun _ _ _ _ _ st h=>wpAny_pyIter_listiter st h
theorem x23(a it:Addr):Turn P w K tg (Itt K a) [it] it (fun i h=>h.IsTupleIter it a i) where
 mem:=by simp
 obj:=fun i h st b hb=>by
  have e:b=it:=by simpa using hb
  subst e;obtain⟨o,e,c,d⟩:=st;exact⟨o,e,fun v z=>by rw[d]at z;cases z⟩
 keep:=fun i h h' st k=>st.at fun o e=>k it (by simp) o e
 item:=by
  intro X hP hw hK hc i pins s σ H E I hf st hg;subst hP hw hK;obtain⟨xs,x,hq,hx⟩:=hg;obtain⟨its,rv,p,hz⟩:=I.tuple hq;obtain⟨u,hu,ru⟩:=rv.get hx;obtain⟨f0,f1,f2,f3,f4,f5⟩:=hf it (by simp);refine wpAny_pyNext_tuple_item st (show s.heap.IsTuple a its.toArray from p) (x:=u) (by simpa using hu) fun h' st' sb=>?_
  have I1:Inv X pins σ H {s with heap:=h'}:=I.turned (t':=s.toks) (fun b o hb e=>(sb.2 b hb).trans e) f0 f1 f3 f4 f5
  obtain⟨o,e,c,d⟩:=id st';exact⟨u,rfl,x22 (s:={s with heap:=h'}) e c d (by decide) ⟨x,H,I1,ru,⟨rfl,fun ys hy=>by rw[I.tuple_inj hy hq];exact hx⟩,st',fun b hb=>(hf b hb).1⟩⟩
 done:=by
  intro X hP hw hK hc i pins s σ H E I hf st hg;subst hP hw hK;obtain⟨xs,hq,hx⟩:=hg;obtain⟨its,rv,p,hz⟩:=I.tuple hq;obtain⟨f0,f1,f2,f3,f4,f5⟩:=hf it (by simp);have hl:=rv.length;exact wpAny_pyNext_tuple_end (I.ok.hd hc) st (show s.heap.IsTuple a its.toArray from p) (by simp;omega) fun h' eb=>⟨rfl,I.turned (t':=s.toks) (fun b o hb e=>eb b o hb e) f0 f1 f3 f4 f5⟩
 self:=fun _ _ _ _ _ st h=>wpAny_pyIter_tupleiter st h
theorem x24(it:Addr)(lo:Int)(n:Nat):Turn P w K tg (Itr lo n) [it] it (fun i h=>IsRangeIter h it (lo+(i:Nat)*1) ((n:Int)-(i:Nat)) 1) where
 mem:=by simp
 obj:=fun i h st b hb=>by
  have e:b=it:=by simpa using hb
  subst e
  exact⟨_,st,fun v z=>by
   have z':Data.fields _=Data.cell v:=z;cases z'⟩
 keep:=fun i h h' st k=>k it (by simp) _ st
 item:=by
  intro X hP hw hK hc i pins s σ H E I hf st hg;subst hP hw hK;obtain⟨f0,f1,f2,f3,f4,f5⟩:=hf it (by simp);have W:=Walks.range (prog:=X.prog) (w:=X.w) (I.ok.hd hc) it lo 1 n;refine W.item i s _ _ hg st fun v h' tk hv st' kk=>?_
  obtain⟨t,rfl⟩:=hv;have I1:Inv X pins σ H {s with heap:=h',toks:=tk}:=I.turned (fun b o hb e=>kk b o (by simpa using hb) e) f0 f1 f3 f4 f5
  refine⟨_,rfl,x22 (s:={s with heap:=h',toks:=tk}) (n:="range_iterator") st' rfl rfl (by decide) ⟨.int (lo+i),H,I1,⟨t,?_⟩,⟨rfl,rfl⟩,st',fun b hb=>(hf b hb).1⟩⟩
  rw[Int.mul_one]
 done:=by
  intro X hP hw hK hc i pins s σ H E I hf st hg;subst hP hw hK;obtain⟨f0,f1,f2,f3,f4,f5⟩:=hf it (by simp);exact wpAny_pyNext_range_end (I.ok.hd hc) st (by have:n<=i:=hg;omega) fun h' eb=>⟨rfl,I.turned (t':=s.toks) (fun b o hb e=>eb b o hb e) f0 f1 f3 f4 f5⟩
 self:=fun _ _ _ _ _ st h=>wpAny_pyIter_rangeiter st h
theorem x6d{R:It->Hp->Prop}{lo hi:Int}{t u v:Tok}{tk:Nat}(I:Inv X pins σ H s)(h1:-(2^62)<=lo)(h2:lo<2^62)(h3:-(2^62)<=hi)(h4:hi<2^62)
  (q:R (Itr lo (hi-lo).toNat) H):wpAny (model X.prog X.w) X.A (pyIter (.ref s.heap.objs.size)) (PIE X pins σ tg R) E {s with heap:=s.heap.push {cls:=.type "range", data:=.fields #[.int lo t,.int hi u,.int 1 v]},toks:=tk}:=by
 refine wpAny_pyIter_range (IsRange.new ..) (small_one h1 h2 h3 h4) ?_;have I1:Inv X pins σ H {s with heap:=s.heap.push {cls:=.type "range", data:=.fields #[.int lo t,.int hi u,.int 1 v]},toks:=tk}:=I.kept fun b o e=>Heap.get?_push_of_some _ e
 refine⟨(s.heap.push {cls:=.type "range", data:=.fields #[.int lo t,.int hi u,.int 1 v]}).objs.size,[(s.heap.push {cls:=.type "range", data:=.fields #[.int lo t,.int hi u,.int 1 v]}).objs.size],_,_,H,rfl,
  I1.kept (t':=tk) fun b o e=>Heap.get?_push_of_some _ e,x24 _ lo (hi-lo).toNat,?_,fun b hb=>?_,q⟩
 ·have e1:lo+((0:Nat):Int)*1=lo:=by simp
  have e2:(((hi-lo).toNat:Nat):Int)-((0:Nat):Int)=Builtin.Range.rangeSize lo hi 1:=by rw[rangeSize_one];split<;>omega
  show IsRangeIter _ _ (lo+((0:Nat):Int)*1) ((((hi-lo).toNat:Nat):Int)-((0:Nat):Int)) 1;rw[e1,e2];exact Heap.get?_push_size _ rfl
 ·have e:b=(s.heap.push {cls:=.type "range", data:=.fields #[.int lo t,.int hi u,.int 1 v]}).objs.size:=by simpa using hb
  subst e;exact I1.fpOk (w0d _) (I1.hok.fresh (w0d _))
def iRng1(ta:TA):TI:=fun σ H R=>ta σ H fun vs H1=>∃j:Int,vs=[.int j]/\-(2^62)<=j/\j<2^62/\R (Itr 0 j.toNat) H1
theorem q5i{a:Expr}{ta:TA}(hg:Gl X "range")(hm:X.mg "range"=none)(ha:PA X [a] ta)(hs:starEach [a] X.env=[(false,eval a X.env)]:=by rfl):PI X tg (.Call (.Name "range" p) [a] [] pos) (iRng1 ta):=by
 intro pins s σ H R I h;refine Call_ (q3o I hg hm boot_range (PyProof.Rows.callWith_type1 (thn (ha pos pins s σ H _ I h) fun us s1 ⟨vs,H1,I1,r1,q1⟩=>?_) hs rfl))
 obtain⟨j,e,q1,q2,q⟩:=q1;subst e;cases r1 with
 |cons r rr=>
  cases rr;obtain⟨t,rfl⟩:=r;exact call_range_1 (x6d I1 (by omega) (by omega) q1 q2 (by simpa using q))
def tFor(wi:TI)(g:TG)(tb:TS):TS:=fun D σ H=>wi σ H fun J H1=>∃W:Nat->Nat->St->Hp->Prop,(∃m,W 0 m σ H1)/\∀i m σ H,W i m σ H ->
 (J.stop i H/\D.nx σ H)\/(J.go i H/\∃N:St->Hp->Prop,(∀σ' H',N σ' H'->∃m',m'<m/\W (i+1) m' σ' H')/\∀x H',J.yld i H x H'->g x σ H' fun σ2 H2=>tb {D with nx:=N,ct:=N,bk:=D.nx} σ2 H2)
noncomputable def pinsAt(fp:List Addr)(h:Heap):List (Addr×Obj):=fp.filterMap fun b=>(h.get? b).map fun o=>(b,o)
theorem q2h{o:Obj}(hb:b∈fp)(e:h.get? b=some o):(b,o)∈pinsAt fp h:=w2y.mpr ⟨b,hb,by rw[e];rfl⟩
theorem x32{p:Addr×Obj}(hp:p∈pinsAt fp h):p.1∈fp/\h.get? p.1=some p.2:=by
 obtain⟨b,hb,e⟩:=w2y.mp hp;cases q:h.get? b with
 |none=>rw[q]at e;cases e
 |some o=>
  rw[q]at e;have e':(b,o)=p:=Option.some.inj e;subst e';exact⟨hb,q⟩
theorem Inv.pinned(I:Inv X pins σ H s)(hf:∀b∈fp,FpOk X pins H b)(ho:∀b∈fp,∃o,s.heap.get? b=some o/\∀v,o.data≠.cell v):Inv X (pins++pinsAt fp s.heap) σ H s:=
 I.pins_of fun p hp=>(w2a.mp hp).elim (fun z=>I.pin p (w0h _ z)) fun z=>by
  obtain⟨hb,e⟩:=x32 z;obtain⟨f0,f1,f2,_⟩:=hf p.1 hb;obtain⟨o,e',d⟩:=ho p.1 hb;rw[e]at e';cases e';exact⟨e,f0,f1,f2,d⟩
theorem Inv.unpinned{pl:List (Addr×Obj)}(I:Inv X (pins++pl) σ H s):Inv X pins σ H s:=I.pins_of fun p hp=>I.pin p (w0h _ (w2e _ hp))
theorem x33{iter:Expr}{body:List Stmt}{wi:TI}{g:TG}(hp:PassesOwn (model X.prog X.w) X.A X.env X.xe)(hc:X.calm=true)(hi:PI X tg iter wi)(hg:PG X tg g)(hb:PSs X body tb)
  (hs:∀x,foldedSetIterable iter X.env x=pure x:=by intro _;rfl):PS X (.For tg iter body [] pos) (tFor wi g tb):=by
 intro pins s σ H D I h;refine wpAny_For (thn (hi pins s σ H _ I h) fun v s1 h1=>thn h1 fun itv s2 h2=>?_) hs
 obtain⟨it,fp,tn,J,H2,e,I2,T,st2,f2,W,⟨m0,w0⟩,turn⟩:=h2;subst e;have stat:∀{H':Hp},(∀b∈fp,H' b=none)->∀b∈fp,FpOk X pins H' b:=fun hn b hb=>⟨hn b hb,(f2 b hb).2⟩
 refine codeAny_forLoop_any (fun n s'=>∃i σ' H',Inv X pins σ' H' s'/\tn i s'.heap/\(∀b∈fp,H' b=none)/\W i n σ' H') ?_ m0 ⟨0,σ,H2,I2,st2,fun b hb=>(f2 b hb).1,w0⟩
 rintro n s3 ⟨i,σ3,H3,I3,st3,fr3,w3⟩;rcases turn i n σ3 H3 w3 with⟨stop,qn⟩|⟨go,N,hN,step⟩
 ·refine wpAny_passesOwn hp (thn (T.done X rfl rfl rfl hc i pins s3 σ3 H3 X.xe I3 (stat fr3) st3 stop) fun r s4 ⟨hr,I4⟩=>?_)
  subst hr;exact wpAny_execs_nil ⟨σ3,H3,I4,qn⟩
 ·refine wpAny_passesOwn hp (thn (T.item X rfl rfl rfl hc i pins s3 σ3 H3 X.xe I3 (stat fr3) st3 go) fun r s4 ⟨u,hr,h4⟩=>?_)
  subst hr;refine wpAny_passesOwn hp (thn h4 fun _ s5 ⟨x,H5,I5,r5,y5,st5,fr5⟩=>?_)
  have I5':=I5.pinned (stat fr5) (T.obj _ _ st5);refine wpAny_passesOwn hp (thn (hg _ s5 σ3 H5 x u _ I5' r5 (step x H5 y5)) fun _ s6 ⟨σ6,H6,I6,q6⟩=>?_)
  refine wpAny_passesOwn hp (thn (hb _ s6 σ6 H6 _ I6 q6) fun f s7 q7=>?_)
  have again:∀{σ7:St}{H7:Hp},Inv X (pins++pinsAt fp s5.heap) σ7 H7 s7->N σ7 H7->∃m,m<n/\∃i σ' H',Inv X pins σ' H' s7/\tn i s7.heap/\(∀b∈fp,H' b=none)/\W i m σ' H':=fun {σ7 H7} I7 n7=>by
   obtain⟨m',hm,w7⟩:=hN σ7 H7 n7;refine⟨m',hm,i+1,σ7,H7,I7.unpinned,T.keep _ _ _ st5 fun b hb o e=>(I7.pin (b,o) (w0h _ (w0h _ (q2h hb e)))).1,fun b hb=>?_,w7⟩
   obtain⟨o,e,d⟩:=T.obj _ _ st5 b hb;exact(I7.pin (b,o) (w0h _ (w0h _ (q2h hb e)))).2.1
  cases f with
  |next=>obtain⟨σ7,H7,I7,n7⟩:=q7;exact again I7 n7
  |cont=>obtain⟨σ7,H7,I7,n7⟩:=q7;exact again I7 n7
  |brk=>obtain⟨σ7,H7,I7,q7⟩:=q7;exact⟨σ7,H7,I7.unpinned,q7⟩
  |ret v=>obtain⟨x7,σ7,H7,I7,r7,q7⟩:=q7;exact⟨x7,σ7,H7,I7.unpinned,r7,q7⟩
theorem x6e{g:TG}{D:Ends}(Pv:Nat->St->Hp->Prop)(h0:Pv 0 σ H)(hl:∀i σ H,i<=xs.length->Pv i σ H->SqL K H a xs)
  (hs:∀i x σ H,xs[i]?=some x->Pv i σ H->g x σ H fun σ2 H2=>tb {D with nx:=Pv (i+1),ct:=Pv (i+1),bk:=D.nx} σ2 H2)(hd:∀σ H,Pv xs.length σ H->D.nx σ H):
  ∃W:Nat->Nat->St->Hp->Prop,(∃m,W 0 m σ H)/\∀i m σ H,W i m σ H ->
   ((Itl K a).stop i H/\D.nx σ H)\/((Itl K a).go i H/\∃N:St->Hp->Prop,(∀σ' H',N σ' H'->∃m',m'<m/\W (i+1) m' σ' H')/\∀x H',(Itl K a).yld i H x H'->g x σ H' fun σ2 H2=>tb {D with nx:=N,ct:=N,bk:=D.nx} σ2 H2):=by
 refine⟨fun i m σ H=>m=xs.length-i/\i<=xs.length/\Pv i σ H,⟨xs.length,by simp,w1h _,h0⟩,?_⟩
 rintro i m σ H ⟨rfl,hi,p⟩;have q:=hl i σ H hi p
 by_cases hlt:i<xs.length
 ·refine .inr ⟨⟨xs,xs[i],q,by simp[hlt]⟩,Pv (i+1),fun σ' H' p'=>⟨xs.length-(i+1),by omega,rfl,hlt,p'⟩,fun x H' y=>?_⟩
  obtain⟨e,y⟩:=y;subst e;exact hs i x σ _ (y xs q) p
 ·have e:i=xs.length:=by omega
  subst e;exact .inl ⟨⟨xs,q,w0d _⟩,hd σ H p⟩
theorem x8f{g:TG}{D:Ends}(Pv:Nat->St->Hp->Prop)(h0:Pv 0 σ H)(hl:∀i σ H,i<=xs.length->Pv i σ H->SqT K H a xs)
  (hs:∀i x σ H,xs[i]?=some x->Pv i σ H->g x σ H fun σ2 H2=>tb {D with nx:=Pv (i+1),ct:=Pv (i+1),bk:=D.nx} σ2 H2)(hd:∀σ H,Pv xs.length σ H->D.nx σ H):
  ∃W:Nat->Nat->St->Hp->Prop,(∃m,W 0 m σ H)/\∀i m σ H,W i m σ H ->
   ((Itt K a).stop i H/\D.nx σ H)\/((Itt K a).go i H/\∃N:St->Hp->Prop,(∀σ' H',N σ' H'->∃m',m'<m/\W (i+1) m' σ' H')/\∀x H',(Itt K a).yld i H x H'->g x σ H' fun σ2 H2=>tb {D with nx:=N,ct:=N,bk:=D.nx} σ2 H2):=by
 refine⟨fun i m σ H=>m=xs.length-i/\i<=xs.length/\Pv i σ H,⟨xs.length,by simp,w1h _,h0⟩,?_⟩
 rintro i m σ H ⟨rfl,hi,p⟩;have q:=hl i σ H hi p
 by_cases hlt:i<xs.length
 ·refine .inr ⟨⟨xs,xs[i],q,by simp[hlt]⟩,Pv (i+1),fun σ' H' p'=>⟨xs.length-(i+1),by omega,rfl,hlt,p'⟩,fun x H' y=>?_⟩
  obtain⟨e,y⟩:=y;subst e;exact hs i x σ _ (y xs q) p
 ·have e:i=xs.length:=by omega
  subst e;exact .inl ⟨⟨xs,q,w0d _⟩,hd σ H p⟩
theorem x34{lo:Int}{n:Nat}{g:TG}{D:Ends}(Pv:Nat->St->Hp->Prop)(h0:Pv 0 σ H)
  (hs:∀i σ H,i<n->Pv i σ H->g (.int (lo+i)) σ H fun σ2 H2=>tb {D with nx:=Pv (i+1),ct:=Pv (i+1),bk:=D.nx} σ2 H2)(hd:∀σ H,Pv n σ H->D.nx σ H):
  ∃W:Nat->Nat->St->Hp->Prop,(∃m,W 0 m σ H)/\∀i m σ H,W i m σ H ->
   ((Itr lo n).stop i H/\D.nx σ H)\/((Itr lo n).go i H/\∃N:St->Hp->Prop,(∀σ' H',N σ' H'->∃m',m'<m/\W (i+1) m' σ' H')/\∀x H',(Itr lo n).yld i H x H'->g x σ H' fun σ2 H2=>tb {D with nx:=N,ct:=N,bk:=D.nx} σ2 H2):=by
 refine⟨fun i m σ H=>m=n-i/\i<=n/\Pv i σ H,⟨n,by simp,w1h _,h0⟩,?_⟩
 rintro i m σ H ⟨rfl,hi,p⟩
 by_cases hlt:i<n
 ·refine .inr ⟨hlt,Pv (i+1),fun σ' H' p'=>⟨n-(i+1),by omega,rfl,hlt,p'⟩,fun x H' y=>?_⟩
  obtain⟨e,y⟩:=y;subst e y;exact hs i σ _ hlt p
 ·have e:i=n:=by omega
  subst e;exact .inl ⟨w0d _,hd σ H p⟩
abbrev R2:=V->V->Hp->VK->Prop
variable{r:R2}
def OpR(X:Cx)(f:Value->Value->Sem Value)(r:R2):Prop:=
 ∀(pins:List (Addr×Obj))(s:Shared)(σ:St)(H:Hp)(x y:V)(v u:Value)(Q:VK),Inv X pins σ H s->RelV x v->RelV y u->r x y H Q ->
  wpAny (model X.prog X.w) X.A (f v u) (EP X pins σ Q) X.xe s
def UnR(X:Cx)(f:Value->Sem Value)(r:V->Hp->VK->Prop):Prop:=
 ∀(pins:List (Addr×Obj))(s:Shared)(σ:St)(H:Hp)(x:V)(v:Value)(Q:VK),Inv X pins σ H s->RelV x v->r x H Q ->
  wpAny (model X.prog X.w) X.A (f v) (EP X pins σ Q) X.xe s
def CallR(X:Cx)(f:Value)(r:List V->Hp->VK->Prop):Prop:=
 ∀(pins:List (Addr×Obj))(s:Shared)(σ:St)(H:Hp)(xs:List V)(us:List Value)(Q:VK),Inv X pins σ H s->Vals xs us->r xs H Q ->
  wpAny (model X.prog X.w) X.A (call f us) (EP X pins σ Q) X.xe s
def TruR(X:Cx)(r:V->Hp->(Bool->Hp->Prop)->Prop):Prop:=
 ∀(pins:List (Addr×Obj))(s:Shared)(σ:St)(H:Hp)(x:V)(v:Value)(Q:Bool->Hp->Prop),Inv X pins σ H s->RelV x v->r x H Q ->
  wpAny (model X.prog X.w) X.A (truthy v) (TP X pins σ Q) X.xe s
def tOp(r:R2)(ta tb:TE):TE:=fun σ H Q=>ta σ H fun x H1=>tb σ H1 fun y H2=>r x y H2 Q
def tUn(r:V->Hp->VK->Prop)(ta:TE):TE:=fun σ H Q=>ta σ H fun x H1=>r x H1 Q
def rI(C:Int->Int->Prop)(g:Int->Int->V):R2:=fun x y H Q=>∃i j,x=.int i/\y=.int j/\C i j/\Q (g i j) H
def rI0(g:Int->Int->V):R2:=fun x y H Q=>∃i j,x=.int i/\y=.int j/\Q (g i j) H
def rU(g:Int->V):V->Hp->VK->Prop:=fun x H Q=>∃i,x=.int i/\Q (g i) H
section
variable{a b:Expr}{tb tc:TE}
theorem binT(ha:PE X a ta)(hb:PE X b tb){R:V->V->Hp->Prop}(I:Inv X pins σ H s)
  (h:ta σ H fun x H1=>tb σ H1 fun y H2=>R x y H2){Q:Value->Shared->Prop}
  (hf:∀v u s2 x y H2,Inv X pins σ H2 s2->RelV x v->RelV y u->R x y H2->wpAny (model X.prog X.w) X.A (f v u) Q X.xe s2):
  wpAny (model X.prog X.w) X.A (eval a X.env) (fun v s₁=>wpAny (model X.prog X.w) X.A (eval b X.env) (fun u s₂=>wpAny (model X.prog X.w) X.A (f v u) Q X.xe s₂) X.xe s₁) X.xe s:=by
 refine thn (ha pins s σ H _ I h) fun v s1 ⟨x,H1,I1,r1,q1⟩=>?_
 refine thn (hb pins s1 σ H1 _ I1 q1) fun u s2 ⟨y,H2,I2,r2,q2⟩=>?_
 exact hf v u s2 x y H2 I2 r1 r2 q2
theorem y32{op:Operator}(ho:OpR X (binaryOp op) r)(ha:PE X a ta)(hb:PE X b tb):PE X (.BinOp a op b pos) (tOp r ta tb):=by
 intro pins s σ H Q I h;exact wpAny_BinOp (binT ha hb I h fun v u s2 x y H2 I2 rx ry q=>ho pins s2 σ H2 x y v u Q I2 rx ry q)
theorem y33{op:UnaryOp}{r:V->Hp->VK->Prop}(ho:UnR X (unaryOp op) r)(ha:PE X a ta):PE X (.UnaryOp op a pos) (tUn r ta):=by
 intro pins s σ H Q I h;exact UnaryOp_ (thn (ha pins s σ H _ I h) fun v s1 ⟨x,H1,I1,r1,q1⟩=>ho pins s1 σ H1 x v Q I1 r1 q1)
theorem opI{C:Int->Int->Prop}{g:Int->Int->Int}
  (rule:∀(i j:Int)(t u:Tok)(s:Shared)(Q:Value->Shared->Prop)(E:Value->Shared->Prop),C i j->Q (.int (g i j) s.toks) {s with toks:=s.toks+1}->wpAny (model X.prog X.w) X.A (f (.int i t) (.int j u)) Q E s):
  OpR X f (rI C fun i j=>.int (g i j)):=by
 intro pins s σ H x y v u Q I rx ry h;obtain⟨i,j,rfl,rfl,hc,q⟩:=h;obtain⟨t,rfl⟩:=rx;obtain⟨t',rfl⟩:=ry;exact rule i j t t' s _ _ hc ⟨.int (g i j),H,I.tok _,⟨_,rfl⟩,q⟩
theorem opI0{g:Int->Int->Int}
  (rule:∀(i j:Int)(t u:Tok)(s:Shared)(Q:Value->Shared->Prop)(E:Value->Shared->Prop),Q (.int (g i j) s.toks) {s with toks:=s.toks+1}->wpAny (model X.prog X.w) X.A (f (.int i t) (.int j u)) Q E s):
  OpR X f (rI0 fun i j=>.int (g i j)):=by
 intro pins s σ H x y v u Q I rx ry h;obtain⟨i,j,rfl,rfl,q⟩:=h;obtain⟨t,rfl⟩:=rx;obtain⟨t',rfl⟩:=ry;exact rule i j t t' s _ _ ⟨.int (g i j),H,I.tok _,⟨_,rfl⟩,q⟩
theorem opB0{g:Int->Int->Bool}
  (rule:∀(i j:Int)(t u:Tok)(s:Shared)(Q:Value->Shared->Prop)(E:Value->Shared->Prop),Q (.bool (g i j)) s->wpAny (model X.prog X.w) X.A (f (.int i t) (.int j u)) Q E s):
  OpR X f (rI0 fun i j=>.bl (g i j)):=by
 intro pins s σ H x y v u Q I rx ry h;obtain⟨i,j,rfl,rfl,q⟩:=h;obtain⟨t,rfl⟩:=rx;obtain⟨t',rfl⟩:=ry;exact rule i j t t' s _ _ ⟨.bl (g i j),H,I,rfl,q⟩
def CDiv(i j:Int):Prop:=0<j/\j<1073741824
def CMul(i j:Int):Prop:=(-(2^64)<i/\i<2^64)\/(-(2^64)<j/\j<2^64)
theorem CMul.ok{i j:Int}(h:CMul i j):IntMulOk i j:=by
 rcases h with⟨h1,h2⟩|⟨h1,h2⟩
 ·exact .of_left (intBits_le_64 h1 h2)
 ·exact .of_right (intBits_le_64 h1 h2)
theorem op_add:OpR X (binaryOp .Add) (rI0 fun i j=>.int (i+j)):=opI0 fun _ _ _ _ _ _ _ q=>add_int q
theorem y03:OpR X (binaryOp .Sub) (rI0 fun i j=>.int (i-j)):=opI0 fun _ _ _ _ _ _ _ q=>sub_int q
theorem y04:OpR X (binaryOp .Mult) (rI CMul fun i j=>.int (i*j)):=opI fun _ _ _ _ _ _ _ hc q=>mul_int q hc.ok
theorem x8g:OpR X (binaryOp .FloorDiv) (rI CDiv fun i j=>.int (i / j)):=opI fun i j _ _ _ _ _ hc q=>by
 have h1:(0:Int)<j:=hc.1;have h2:j<1073741824:=hc.2;exact floordiv_int (by omega) (by rw[Int.fdiv_eq_ediv_of_nonneg i (by omega)];exact q) (.inl (PyProof.noPylong_small (by omega)))
theorem y05:OpR X (binaryOp .Mod) (rI (fun _ j=>0<j) fun i j=>.int (i%j)):=opI fun i j _ _ _ _ _ hc q=>by
 have h1:(0:Int)<j:=hc;exact mod_int' (by omega) (by rw[Int.fmod_eq_emod_of_nonneg i (by omega)];exact q)
theorem unI{f:Value->Sem Value}{g:Int->Int}
  (rule:∀(i:Int)(t:Tok)(s:Shared)(Q:Value->Shared->Prop)(E:Value->Shared->Prop),Q (.int (g i) s.toks) {s with toks:=s.toks+1}->wpAny (model X.prog X.w) X.A (f (.int i t)) Q E s):
  UnR X f (rU fun i=>.int (g i)):=by
 intro pins s σ H x v Q I rx h;obtain⟨i,rfl,q⟩:=h;obtain⟨t,rfl⟩:=rx;exact rule i t s _ _ ⟨.int (g i),H,I.tok _,⟨_,rfl⟩,q⟩
theorem y06:UnR X (unaryOp .USub) (rU fun i=>.int (-i)):=unI fun _ _ _ _ _ q=>neg_int q
end
section
variable{a b:Expr}{tb tc:TE}
theorem x35{Q:VK}{k k':Bool}(I:Inv X pins σ H s)(q:Q (.bl k) H)(e:k=k'):EP X pins σ Q (.bool k') s:=by
 subst e;exact⟨.bl k,H,I,rfl,q⟩
theorem y34:OpR X (compareOp .Lt) (rI0 fun i j=>.bl (decide (i<j))):=opB0 fun _ _ _ _ _ _ _ q=>lt_int q
theorem y35:OpR X (compareOp .Gt) (rI0 fun i j=>.bl (decide (j<i))):=opB0 fun _ _ _ _ _ _ _ q=>gt_int q
theorem OpR.or{r':R2}(h:OpR X f r)(h':OpR X f r'):OpR X f (fun x y H Q=>r x y H Q\/r' x y H Q):=by
 intro pins s σ H x y v u Q I rx ry q;rcases q with q|q
 ·exact h pins s σ H x y v u Q I rx ry q
 ·exact h' pins s σ H x y v u Q I rx ry q
theorem nomark(b:Expr)(h:op≠.In:=by decide)(h2:op≠.NotIn:=by decide):behindInMarks op b=false:=by
 have e1:(op==CmpOp.In)=false:=by cases op<;>first|rfl|exact absurd rfl h
 have e2:(op==CmpOp.NotIn)=false:=by cases op<;>first|rfl|exact absurd rfl h2
 cases b<;>simp[behindInMarks,e1,e2]
theorem x8h(ho:OpR X (compareOp op) r)(ha:PE X a ta)(hb:PE X b tb)(hm:behindInMarks op b=false):PE X (.Compare a [op] [b] pos) (tOp r ta tb):=by
 intro pins s σ H Q I h;exact wpAny_Compare1 (binT ha hb I h fun v u s2 x y H2 I2 rx ry q=>ho pins s2 σ H2 x y v u Q I2 rx ry q) hm
def tTest(t:TE):TT:=fun σ H Q=>t σ H fun x H'=>∃k,x=.bl k/\Q k H'
theorem x8i(ho:OpR X (compareOp op) r)(ha:PE X a ta)(hb:PE X b tb)(hm:behindInMarks op b=false):PT X (.Compare a [op] [b] pos) (tTest (tOp r ta tb)):=by
 intro pins s σ H Q I h
 refine wpAny_isTrue_Compare1 (thn (ha pins s σ H _ I h) fun v s1 ⟨x,H1,I1,r1,q1⟩=>thn (hb pins s1 σ H1 _ I1 q1) fun u s2 ⟨y,H2,I2,r2,q2⟩=>
  thn (ho pins s2 σ H2 x y v u _ I2 r1 r2 q2) fun c s3 ⟨z,H3,I3,r3,k,e,q3⟩=>?_) hm
 subst e;cases r3;exact wpAny_truthy_bool ⟨H3,I3,q3⟩
def TruV(K:PySem.W.Frag)(x:V)(H:Hp)(k:Bool):Prop:=
 match x with
 |.non=>k=false
 |.bl b=>k=b
 |.int i=>k=(i != 0)
 |.str y=>y.length<=sizeLine/\k=((y.length:Int) != 0)
 |.byt y=>y.size<=sizeLine/\k=((y.size:Int) != 0)
 |.ref p=>(∃xs,SqL K H p xs/\k=!xs.isEmpty)\/(∃xs,SqT K H p xs/\k=!xs.isEmpty)\/∃kvs,H p=some (.dK kvs)/\k=!kvs.isEmpty
 |_=>False
theorem x25{κ:Type}{kvs:List (κ×V)}{vs:List (κ×Value)}(r:KV kvs vs):(!vs.isEmpty)=!kvs.isEmpty:=by
 cases r<;>rfl
theorem q7d{its:List Value}(r:Vals xs its):(!its.toArray.isEmpty)=!xs.isEmpty:=by
 cases r<;>simp
theorem line63:(sizeLine:Nat)<2^63:=by rw[sizeLine_eq];decide
theorem y07:TruR X (fun x H Q=>∃k,TruV X.K x H k/\Q k H):=by
 intro pins s σ H x v Q I rx h;obtain⟨k,e,q⟩:=h;have hl:=line63;have hs:sizeLine=16777216:=sizeLine_eq;cases x with
 |non=>
  cases rx;have e':k=false:=e;subst e';exact truthy_none ⟨H,I,q⟩
 |bl b=>
  cases rx;have e':k=b:=e;subst e';exact wpAny_truthy_bool ⟨H,I,q⟩
 |int i=>
  obtain⟨t,rfl⟩:=rx;have e':k=(i != 0):=e;subst e';exact PySem.P.truthy_int ⟨H,I,q⟩
 |str y=>
  obtain⟨t,rfl⟩:=rx;obtain⟨hy,e'⟩:y.length<=sizeLine/\k=((y.length:Int) != 0):=e;subst e';exact PySem.P.truthy_str (by omega) ⟨H,I.tok _,q⟩
 |byt y=>
  obtain⟨t,rfl⟩:=rx;obtain⟨hy,e'⟩:y.size<=sizeLine/\k=((y.size:Int) != 0):=e;subst e';exact PySem.W.truthy_bytes (by omega) ⟨H,I.tok _,q⟩
 |ref p=>
  cases rx;have e':(∃xs,SqL X.K H p xs/\k=!xs.isEmpty)\/(∃xs,SqT X.K H p xs/\k=!xs.isEmpty)\/∃kvs,H p=some (.dK kvs)/\k=!kvs.isEmpty:=e;rcases e' with⟨xs,hx,e'⟩|⟨xs,hx,e'⟩|⟨kvs,hx,e'⟩
  ·subst e';obtain⟨its,r,pl,hz⟩:=I.list hx;have hlen:=r.length;exact wpAny_truthy_list pl.isList (by simp only[w0c];omega) ⟨H,I.tok _,by rw[q7d r];exact q⟩
  ·subst e';obtain⟨its,r,pl,hz⟩:=I.tuple hx;have hlen:=r.length;exact truthy_tuple pl (by simp only[w0c];omega) ⟨H,I.tok _,by rw[q7d r];exact q⟩
  ·subst e';obtain⟨hz,hS,vs,r,m⟩:kvs.length<=sizeLine/\(p==sysModules)=false/\∃vs,KV kvs vs/\s.heap.DictOf (mixKind X.prog X.w) p vs:=I.hok p _ hx;have hlen:kvs.length=vs.length:=Paired.length r;exact wpAny_truthy_dict hS m (by omega) ⟨H,I.tok _,by rw[x25 r];exact q⟩
 |_=>exact(show False from e).elim
theorem x6f(ha:PE X a ta)(he:∀whole,isTrue a X.env whole=(do let v <- whole;standAt a.pos;holding [v] (truthy v))):
  PT X a (fun σ H Q=>ta σ H fun x H'=>∃k,TruV X.K x H' k/\Q k H'):=by
 intro pins s σ H Q I h;exact isTrue_plain (thn (ha pins s σ H _ I h) fun v s1 ⟨x,H1,I1,r1,q1⟩=>y07 pins s1 σ H1 x v Q I1 r1 q1) (he _)
theorem op_add_str:OpR X (binaryOp .Add) (fun x y H Q=>∃i j,x=.str i/\y=.str j/\i.length+j.length<=sizeLine/\Q (.str (i++j)) H):=by
 intro pins s σ H x y v u Q I rx ry h;obtain⟨i,j,rfl,rfl,hz,q⟩:=h;obtain⟨t,rfl⟩:=rx;obtain⟨t',rfl⟩:=ry;exact add_str (fun t' tk=>⟨.str (i++j),H,I.tok _,⟨_,rfl⟩,q⟩) hz
theorem vals1{x:V}(r:Vals [x] us):∃u,us=[u]/\RelV x u:=by
 cases r with
 |cons r1 r2=>cases r2;exact⟨_,rfl,r1⟩
theorem vals2{x y:V}(r:Vals [x,y] us):∃u w',us=[u,w']/\RelV x u/\RelV y w':=by
 cases r with
 |cons r1 r2=>
  cases r2 with
  |cons r3 r4=>cases r4;exact⟨_,_,rfl,r1,r3⟩
theorem x36:CallR X (.type "int") (fun xs H Q=>(∃i,xs=[.int i]/\Q (.int i) H)\/∃k,xs=[.bl k]/\Q (.int (if k then 1 else 0)) H):=by
 intro pins s σ H xs us Q I r h;rcases h with⟨i,rfl,q⟩|⟨k,rfl,q⟩
 ·obtain⟨u,rfl,t,rfl⟩:=vals1 r;exact call_int_int ⟨.int i,H,I,⟨_,rfl⟩,q⟩
 ·obtain⟨u,rfl,r1⟩:=vals1 r;cases r1;exact call_int_bool ⟨.int (if k then 1 else 0),H,I.tok _,⟨_,rfl⟩,q⟩
def LenV(K:PySem.W.Frag)(x:V)(H:Hp)(n:Nat):Prop:=
 match x with
 |.str y=>y.length<=sizeLine/\n=y.length
 |.byt y=>y.size<=sizeLine/\n=y.size
 |.ref p=>(∃xs,SqL K H p xs/\n=xs.length)\/∃xs,SqT K H p xs/\n=xs.length
 |_=>False
theorem x6g:CallR X (.builtin "len") (fun xs H Q=>∃x n,xs=[x]/\LenV X.K x H n/\Q (.int n) H):=by
 intro pins s σ H xs us Q I r h;obtain⟨x,n,rfl,e,q⟩:=h;obtain⟨u,rfl,rx⟩:=vals1 r;have hl:=line63;have hs:sizeLine=16777216:=sizeLine_eq;cases x with
 |str y=>
  obtain⟨t,rfl⟩:=rx;obtain⟨hy,e'⟩:y.length<=sizeLine/\n=y.length:=e;subst e';exact len_str (by omega) ⟨.int _,H,I.tok _,⟨_,rfl⟩,q⟩
 |byt y=>
  obtain⟨t,rfl⟩:=rx;obtain⟨hy,e'⟩:y.size<=sizeLine/\n=y.size:=e;subst e';exact PySem.W.len_bytes (by omega) ⟨.int _,H,I.tok _,⟨_,rfl⟩,q⟩
 |ref p=>
  cases rx;have e':(∃xs,SqL X.K H p xs/\n=xs.length)\/∃xs,SqT X.K H p xs/\n=xs.length:=e;rcases e' with⟨xs,hx,e'⟩|⟨xs,hx,e'⟩
  ·subst e';obtain⟨its,r',pl,hz⟩:=I.list hx;have hlen:=r'.length;exact Calls.call_len_list pl.isList (by simp only[w0c];omega) ⟨.int xs.length,H,I.tok _,⟨_,by simp only[w0c];rw[hlen]⟩,q⟩
  ·subst e';obtain⟨its,r',pl,hz⟩:=I.tuple hx;have hlen:=r'.length;exact len_tuple pl (by simp only[w0c];omega) ⟨.int xs.length,H,I.tok _,⟨_,by simp only[w0c];rw[hlen]⟩,q⟩
 |_=>exact(show False from e).elim
end
structure ObjM(h:Heap)(x dx C:Addr)(mA:Str->Option Value):Prop where
 obj:h.get? x=some (PySem.W.instObj C dx)
 ns:h.Ns1 dx mA
 ne:dx≠x
structure Cls(K:PySem.W.Frag)(C:Addr):Prop where
 pg:PySem.W.plainGet K C Str.empty=true
 hd:PySem.W.hasDictIn K C=true
 po:PySem.W.plainOver K C=true
 sa:findIn K (.ref C) "__setattr__"=some (some (.builtin "object.__setattr__"))
structure Con(K:PySem.W.Frag)(C:Addr)(f:Str)(v:V)(u:Value):Prop where
 at_:findIn K (.ref C) f=some (some u)
 rel:RelV v u
 get:specialIn K u "__get__"=some none
 cp:PySem.W.copiedNames.contains f=false
structure Meth(K:PySem.W.Frag)(C:Addr)(m:Str)(f:Addr):Prop where
 at_:findIn K (.ref C) m=some (some (.ref f))
 fn:PySem.W.isFn K (.ref f)=true
 kp:keepIn K (.ref f)=true
section
variable{Q:Value->Shared->Prop}{c:Value}{b:Bool}
inductive TyOf(K:PySem.W.Frag)(H:Hp):V->Value->Prop where
 |non:TyOf K H .non (.type "NoneType")
 |bl (x:Bool):TyOf K H (.bl x) (.type "bool")
 |int (i:Int):TyOf K H (.int i) (.type "int")
 |str (x:Str):TyOf K H (.str x) (.type "str")
 |flt (x:UInt64):TyOf K H (.flt x) (.type "float")
 |lst {a:Addr} {xs:List V} (e:H a=some (.lst xs)):TyOf K H (.ref a) (.type "list")
 |frz {a:Addr} {o:Obj} {xs:List V} (e:H a=some (.frz o (.lst xs))):TyOf K H (.ref a) (.type "list")
 |tup {a:Addr} {xs:List V} (e:H a=some (.tup xs)):TyOf K H (.ref a) (.type "tuple")
 |dK {a:Addr} {kvs:List (Key×V)} (e:H a=some (.dK kvs)):TyOf K H (.ref a) (.type "dict")
 |dT {a:Addr} {sh:Sh} {kvs:List (Kx×V)} {kas:List Addr} (e:H a=some (.dT sh kvs kas)):TyOf K H (.ref a) (.type "dict")
 |ins {a C dx:Addr} {fs:List (Str×V)} (e:H a=some (.ins C dx fs)) (cl:Cls K C) (ha:findIn K (.ref C) "__class__"=some (some (.builtin "object.__class__")))
   (hn:specialIn K (.builtin "object.__class__") "__get__"=some (some (.builtin "getset_descriptor.__get__"))) (htk:takesIn K (.builtin "object.__class__")=some true)
   (hm:PySem.W.mroIn K C (.type "object")=some true):TyOf K H (.ref a) (.ref C)
end
structure Room(k:Nat)(A:Around):Prop where
 hd:A.handled=none
 dp:A.depth+3*k+5<recursionLimit
 un:A.units+16*k+200<cLine
 gd:A.guards=some []
theorem Room.deeper(r:Room (k+1) A)(env:Env):Room k (A.deeper env):=
 ⟨r.hd,by have:=r.dp;show A.depth+1+3*k+5<_;omega,by have:=r.un;show A.units+3+16*k+200<_;omega,r.gd⟩
theorem Room.depth(r:Room k A):A.depth<recursionLimit:=by have:=r.dp;omega
def tNil:TA:=fun _ H Q=>Q [] H
def tCons(ta:TE)(tr:TA):TA:=fun σ H Q=>ta σ H fun x H1=>tr σ H1 fun xs H2=>Q (x::xs) H2
theorem q96:PA X [] tNil:=fun _ _ _ _ H Q I h=>Calls.spliced_nil ⟨[],H,I,.nil,h⟩
theorem q4g(ha:PE X e te)(hr:PA X es t)(hs:starEach (e::es) X.env=(false,eval e X.env)::starEach es X.env:=by rfl):PA X (e::es) (tCons te t):=by
 intro pos pins s σ H Q I h;rw[hs];show wpAny _ _ (spliced ((false,eval e X.env)::backTo pos (starEach es X.env))) _ _ s;refine Calls.spliced_cons (thn (ha pins s σ H _ I h) fun u s1 ⟨x,H1,I1,r1,q1⟩=>?_)
 exact thn (hr pos pins s1 σ H1 _ I1 q1) fun us s2 ⟨xs,H2,I2,r2,q2⟩=>⟨x::xs,H2,I2,.cons r1 r2,q2⟩
def tLst(t:TA):TE:=fun σ H Q=>t σ H fun xs H1=>xs.length<=sizeLine/\∀p,H1 p=none->Q (.ref p) (upd H1 p (.lst xs))
theorem x37(h:PA X es t):PE X (.List es pos) (tLst t):=by
 intro pins s σ H Q I hq;refine wpAny_List_spliced (thn (h pos pins s σ H _ I hq) fun us s1 ⟨xs,H1,I1,r,z,q⟩=>⟨by rw[<- r.length];exact z,?_⟩)
 have hf:H1 s1.heap.objs.size=none:=I1.hok.fresh (w0d _);refine⟨.ref s1.heap.objs.size,upd H1 s1.heap.objs.size (.lst xs),I1.laid (t':=s1.toks) (fun b u e=>Heap.get?_push_of_some _ e) (w0d _) ?_,rfl,q _ hf⟩
 exact⟨z,us,0,r,Heap.get?_push_size _ rfl⟩
abbrev Sp:=List V->Hp->VK->XK->Prop
variable{sp:Sp}
abbrev CXT:=List Env->Hp->Shared->XK->Value->Shared->Prop
variable{CX:CXT}
structure Env0(P:Program)(w:World)(K:PySem.W.Frag)(mg:Str->Option Value)(base:Heap)(A:Around)(outer:List Env)(s:Shared)(H:Hp):Prop where
 frames:A.frames=some outer
 mod:Mod K mg base
 bs:∀b o,base.get? b=some o->s.heap.get? b=some o/\H b=none
 bsz:base.objs.size<=s.heap.objs.size
 funs:s.heap.FunFrames base outer
 frf:∀b∈frs outer,H b=none
 hok:HOk P w H s.heap
 bare:AllBare s.gens
 tab:TabOk K H
def CE(outer:List Env)(P:Program)(w:World)(H:Hp)(s:Shared)(Q:VK)(u:Value)(s':Shared):Prop:=
 ∃v H',s'.os=s.os/\AllBare s'.gens/\Un (frs outer) [] H H' s.heap s'.heap/\HOk P w H' s'.heap/\RelV v u/\Q v H'
def CR(CX:CXT)(outer:List Env)(P:Program)(w:World)(H:Hp)(s:Shared)(Q:VK)(E:XK)(r:Result)(s':Shared):Prop:=
 match r with
 |.ok (.ret u)=>CE outer P w H s Q u s'
 |.ok _=>False
 |.error e=>CX outer H s E e s'
structure FnOk(P:Program)(w:World)(K:PySem.W.Frag)(mg:Str->Option Value)(base:Heap)(CX:CXT)(k:Nat)(f:Addr)(fd:FuncData)(ps:List Str)(sp:Sp):Prop where
 len:∀vs H Q E,sp vs H Q E->vs.length=ps.length
 run:∀(A:Around)(outer:List Env)(s:Shared)(H:Hp)(args:Args)(us:List Value)(vs:List V)(Q:VK)(E:XK),Room k A->Env0 P w K mg base A outer s H->BindsTo s fd args (ps.zip us)->Vals vs us->sp vs H Q E ->
  codeAny (model P w) A (.call (.ref f) args) (CR CX outer P w H s Q E) s
theorem FnOk.imp{f:Addr}{sp':Sp}(F:FnOk P w K mg base CX k f fd ps sp)
  (h:∀vs H Q E,sp' vs H Q E->sp vs H Q E):FnOk P w K mg base CX k f fd ps sp':=
 ⟨fun vs H Q E q=>F.len vs H Q E (h _ _ _ _ q),fun A outer s H args us vs Q E hr he hb hv hs=>F.run A outer s H args us vs Q E hr he hb hv (h _ _ _ _ hs)⟩
section
variable{s':Shared}
theorem Inv.env0(I:Inv X pins σ H s):Env0 X.prog X.w X.K X.mg X.base X.A X.stack s H:=
 ⟨I.ok.frames,I.ok.mod,I.bs,w0j I.ok.bsz I.sz,I.stack,I.stkFree,I.hok,I.bare,I.ok.tab.un I.base⟩
theorem Inv.after{Q:VK}(I:Inv X pins σ H s)(h:CE X.stack X.prog X.w H s Q u s'):EP X pins σ Q u s':=by
 obtain⟨v,H',os,bare,un,hok,r,q⟩:=h;obtain⟨hh,g,d,t,os'⟩:=s';obtain rfl:os'=s.os:=os;exact⟨v,H',I.call (h':=hh) (g':=g) (d':=d) (t':=t) (ch:=[]) un hok bare (fun b z=>absurd z (by simp)),r,q⟩
end
def Binds(K:PySem.W.Frag)(fd:FuncData)(ps:List Str)(ds:List Value):Prop:=
 ∀(s:Shared)(us:List Value),K.In s.heap->(us++ds).length=ps.length->BindsTo s fd ⟨us,[]⟩ (ps.zip (us++ds))
theorem Binds.all(h:∀us:List Value,us.length=ps.length->bindArgs fd ⟨us,[]⟩=pure (ps.zip us)):Binds K fd ps []:=fun s us _ hl=>by
 rw[w2t]at hl |-
 exact .of_eq (h us hl)
section
variable{f:Addr}{dvs:List V}{ds:List Value}{E:XK}{m:Str}{apos:Pos}{o:Expr}
structure Mk(K:PySem.W.Frag)(C f:Addr):Prop where
 makes:PySem.W.makesIn K C=true
 init:findIn K (.ref C) "__init__"=some (some (.ref f))
 fn:PySem.W.isFn K (.ref f)=true
 kp:keepIn K (.ref C)=true
end
section
variable{f:Addr}{ks:List Str}{E:XK}{m:Str}{apos kpos:Pos}{o:Expr}{kws:List Keyword}{tk:TA}{nm:Option Str}
structure KBinds(K:PySem.W.Frag)(fd:FuncData)(ps ks:List Str)(g:List Value->List Value->List Value)(gV:List V->List V->List V):Prop where
 to:∀(s:Shared)(us ws:List Value),K.In s.heap->(g us ws).length=ps.length->BindsTo s fd ⟨us,ks.zip ws⟩ (ps.zip (g us ws))
 rel:∀{vs:List V}{us:List Value}{zs:List V}{ws:List Value},Vals vs us->Vals zs ws->Vals (gV vs zs) (g us ws)
variable{g:List Value->List Value->List Value}{gV:List V->List V->List V}
end
structure FnScope(N P:List Str)(sc:Scope):Prop where
 kind:sc.kind=.function
 co:sc.isCoroutine=false
 gen:sc.isGenerator=false
 nd:N.Nodup
 pre:N.take P.length=P
 par:∀x∈P,sc.names.lookup x=some .local\/sc.names.lookup x=some .cell
 nofree:∀y∈sc.names,y.2≠.free
theorem q8y{kindOf:Str->Option NameKind}:∀{binds:List (Str×Value)}{m:Str->Option Value},(∀v,(x,v)∉binds)->bindL kindOf binds m x=m x
 |[],_,_=>rfl
 |(n,v)::r,m,h=>by
  unfold bindL;rw[q8y fun w hw=>h w (w0t _ hw)]
  split
  ·have:x≠n:=by rintro rfl;exact h v w1c
   simp[this]
  ·rfl
theorem q8z{kindOf:Str->Option NameKind}:∀{binds:List (Str×Value)}{m:Str->Option Value},(∀v,(x,v)∉binds)->bindC kindOf binds m x=m x
 |[],_,_=>rfl
 |(n,v)::r,m,h=>by
  unfold bindC;rw[q8z fun w hw=>h w (w0t _ hw)]
  split
  ·rfl
  ·have:x≠n:=by rintro rfl;exact h v w1c
   simp[this]
theorem q80{kindOf:Str->Option NameKind}{x:Str}{v:Value}:∀{P:List Str}{vs:List Value}{i:Nat}{m:Str->Option Value},P.Nodup->P[i]?=some x->vs[i]?=some v->kindOf x=some .local ->
  bindL kindOf (P.zip vs) m x=some v
 |[],_,_,_,_,h,_,_=>by simp at h
 |_::_,[],_,_,_,_,h,_=>by simp at h
 |p::P,w::vs,0,m,nd,h1,h2,hk=>by
  simp at h1 h2;subst h1;subst h2;show bindL kindOf ((p,w)::P.zip vs) m p=_;unfold bindL;rw[q8y fun v hv=>(w1t.mp nd).1 (w3i hv).1,if_pos hk]
  simp
 |p::P,w::vs,i+1,m,nd,h1,h2,hk=>by
  show bindL kindOf ((p,w)::P.zip vs) m x=_;unfold bindL;exact q80 (i:=i) (w1t.mp nd).2 (by simpa using h1) (by simpa using h2) hk
theorem q81{kindOf:Str->Option NameKind}{x:Str}{v:Value}:∀{P:List Str}{vs:List Value}{i:Nat}{m:Str->Option Value},P.Nodup->P[i]?=some x->vs[i]?=some v->kindOf x≠some .local ->
  bindC kindOf (P.zip vs) m x=some v
 |[],_,_,_,_,h,_,_=>by simp at h
 |_::_,[],_,_,_,_,h,_=>by simp at h
 |p::P,w::vs,0,m,nd,h1,h2,hk=>by
  simp at h1 h2;subst h1;subst h2;show bindC kindOf ((p,w)::P.zip vs) m p=_;unfold bindC;rw[q8z fun v hv=>(w1t.mp nd).1 (w3i hv).1,if_neg hk]
  simp
 |p::P,w::vs,i+1,m,nd,h1,h2,hk=>by
  show bindC kindOf ((p,w)::P.zip vs) m x=_;unfold bindC;exact q81 (i:=i) (w1t.mp nd).2 (by simpa using h1) (by simpa using h2) hk
noncomputable def start(N:List Str)(vs:List V):St:=vs.map some++List.replicate (N.length-vs.length) none
noncomputable def cxOf(CX:CXT)(P:Program)(w:World)(K:PySem.W.Frag)(mg:Str->Option Value)(base:Heap)(N:List Str)(qual:Str)(scope:Scope)(f:Addr)(cd:Value)(A:Around)(outer:List Env)(s:Shared)(H:Hp)(E:XK):Cx where
 prog:=P
 w:=w
 K:=K
 mg:=mg
 base:=base
 A:=A.deeper (envOfC qual scope s.heap.objs.size f cd)
 N:=N
 s₀:=s
 H₀:=H
 env:=envOfC qual scope s.heap.objs.size f cd
 outer:=outer
 stack:=envOfC qual scope s.heap.objs.size f cd::outer
 ex:=[]
 calm:=true
 fn:=fun _=>true
 pn:=[]
 xe:=fun e s'=>wpAny (model P w) (A.deeper (envOfC qual scope s.heap.objs.size f cd)) (leaving (envOfC qual scope s.heap.objs.size f cd) e) (fun _ s''=>CX outer H s E e s'') (fun e' s''=>CX outer H s E e' s'') s'
theorem q97{sc:Scope}{n:Nat}(h:sc.names.lookup x=some .cell):∃c,(cellsFrom n sc.names []).lookup x=some c:=by
 have q:=PySem.W.cellsFrom_some sc.names n [] (.inl h);exact w3a.mp q
theorem x38{qual:Str}{scope:Scope}{f:Addr}{cd:Value}{outer:List Env}{s1:Shared}{E:XK}{vs:List V}
  (S:FnScope N ps scope)(hd:A.handled=none)(e0:Env0 P w K mg base A outer s H)(hl:vs.length=ps.length)(r:Vals vs us)
  (x:InCallC s s.heap.objs.size (bindL (envOfC qual scope s.heap.objs.size f cd).kindOf (ps.zip us) fun _=>none) (cellsFrom (s.heap.objs.size+1) scope.names []) (bindC (envOfC qual scope s.heap.objs.size f cd).kindOf (ps.zip us) fun _=>none) s1):
  Inv (cxOf CX P w K mg base N qual scope f cd A outer s H E) [] (start N vs) H s1:=by
 have hpl:ps.length<=N.length:=by have:=congrArg List.length S.pre;rw[w1d]at this;omega
 obtain⟨h1,tk,rfl,hk⟩:=x.done;have noA:∀b:Addr,b∉(cxOf CX P w K mg base N qual scope f cd A outer s H E).ex:=fun b z=>absurd (show b∈([]:List Addr)from z) (by simp)
 refine⟨⟨e0.mod,S.kind,rfl,rfl,w0d _,fun y z c h1 h2=>?_,fun y hy=>?_,fun y c _ h=>?_,fun _=>hd,Around.frames_deeper e0.frames,.inr ⟨rfl,rfl⟩,fun b z=>absurd z (noA b),e0.bs,e0.bsz,fun b _ _=>noA b,fun b z=>absurd z (noA b),e0.funs,e0.frf,e0.tab⟩,
  rfl,e0.bare,Un.kept hk,⟨_,x.toInCall.ns,fun i y v h1 h2 h3=>?_⟩,fun y c h=>⟨_,x.cell y c h⟩,e0.hok.fresh (w0d _),fun y c h=>?_,fun p hp=>absurd (show p∈([]:List (Addr×Obj))from hp) (by simp),e0.hok.kept hk,?_⟩
 ·exact name_of_addr x.apart (PySem.mem_of_lookup h1) (PySem.mem_of_lookup h2)
 ·have hy:scope.names.lookup y=some .cell\/scope.names.lookup y=some .free:=hy;rcases hy with hy|hy
  ·exact q97 hy
  ·exact absurd rfl (S.nofree _ (PySem.mem_of_lookup hy))
 ·exact w4a (x.above y c (PySem.mem_of_lookup h))
 ·have hi:i<vs.length:=by
   unfold start at h2
   by_cases hi:i<vs.length
   ·exact hi
   ·rw[w2d (by simpa using hi)]at h2;rw[w1m]at h2;split at h2<;>cases h2
  have ha:vs[i]?=some v:=by
   unfold start at h2;rw[w2f (by simpa using hi),w1a]at h2;cases e:vs[i]? with
   |none=>rw[e]at h2;cases h2
   |some a=>rw[e]at h2;cases h2;rfl
  obtain⟨u,hu,rv⟩:=r.get ha
  have hp:ps[i]?=some y:=by
   rw[<- S.pre,List.getElem?_take_of_lt (by omega)];exact h1
  have ndP:ps.Nodup:=by rw[<- S.pre];exact S.nd.sublist (List.take_sublist _ _)
  refine⟨u,rv,?_⟩;rcases S.par y (w0u hp)with k|k
  ·exact .inl ⟨k,q80 ndP hp hu k⟩
  ·obtain⟨c,e⟩:=q97 (n:=s.heap.objs.size+1) k;refine .inr ⟨.inl k,c,e,?_⟩;have q:=x.cell y c e;rw[q81 ndP hp hu (by show scope.names.lookup y≠_;rw[k];decide)]at q;exact q
 ·exact e0.hok.fresh (w4a (x.above y c (PySem.mem_of_lookup h)))
 ·unfold start;show _=N.length;rw[w0k,w0a,w2l];omega
theorem y36{f:Addr}{name qual:Str}{params:Arguments}{body:List Stmt}{scope:Scope}{dV kV doc pm cdv ct oc:Value}{an od:Option Addr}
  {osl:Array (Option Value)}(lk:K.lookup f=some ⟨oc,od,.func (PySem.W.fnOf name qual params body scope dV kV doc pm an cdv ct),osl⟩)(hcd:PySem.W.codeIn K cdv qual=true)(S:FnScope N ps scope)
  (len:∀vs H Q E,sp vs H Q E->vs.length=ps.length)
  (hbody:∀(A:Around)(outer:List Env)(s:Shared)(H:Hp)(vs:List V)(Q:VK)(E:XK),Room k (A.deeper (envOfC qual scope s.heap.objs.size f cdv))->sp vs H Q E ->
   ∃t,PSs (cxOf CX P w K mg base N qual scope f cdv A outer s H E) body t/\t {nx:=fun _ H'=>Q .non H',rt:=Q} (start N vs) H):
  FnOk P w K mg base CX (k+1) f (PySem.W.fnOf name qual params body scope dV kV doc pm an cdv ct) ps sp:=by
 refine⟨len,fun A outer s H args us vs Q E hr e0 hb r hsp=>?_⟩
 have hl:=len _ _ _ _ hsp;have KX:K.In s.heap:=e0.mod.kin.keeps fun b o e=>(e0.bs b o e).1
 have lim:s.heap.NoLimit:=e0.mod.nolimit.keeps fun b o e=>(e0.bs b o e).1
 have hkind:∀y∈ps.zip us,scope.names.lookup y.1=some .local\/(scope.names.lookup y.1=some .cell/\((cellsFrom (s.heap.objs.size+1) scope.names []).lookup y.1).isSome=true):=fun⟨n,v⟩ hy=>by
  rcases S.par n (w3i hy).1 with q|q
  ·exact .inl q
  ·exact .inr ⟨q,PySem.W.cellsFrom_some _ _ _ (.inl q)⟩
 refine codeAny_call_function hr.depth (KX _ _ lk) rfl S.co S.gen rfl (PySem.W.codeRec_of KX hcd) (hb _ _ _ _ ?_)
 refine wpAny_newFunctionEnv_cells S.kind hkind fun env he s1 x=>?_
 subst he;refine⟨lim.keeps x.toInCall.keep,codeAny_func ?_⟩
 obtain⟨t,ht,hq⟩:=hbody A outer s H vs Q E (hr.deeper _) hsp;have I:Inv (cxOf CX P w K mg base N qual scope f cdv A outer s H E) [] (start N vs) H s1:=x38 S hr.hd e0 hl r x;refine wpAny_mono (ht [] s1 (start N vs) H _ I hq) (fun fl s' hs=>?_) fun e s' hs=>hs
 have fin:∀{σ':St}{H':Hp}{v:V}{u:Value},Inv (cxOf CX P w K mg base N qual scope f cdv A outer s H E) [] σ' H' s'->RelV v u->Q v H'->CE outer P w H s Q u s':=
  fun {σ' H' v u} J rv q=>⟨v,H',J.os,J.bare,J.base,J.hok,rv,q⟩
 cases fl with
 |ret u=>
  obtain⟨v,σ',H',J,rv,q⟩:=hs;exact fin J rv q
 |next=>
  obtain⟨σ',H',J,q⟩:=hs;exact fin (v:=V.non) (u:=Value.none) J rfl q
 |brk=>
  obtain⟨_,_,_,q⟩:=hs;exact False.elim q
 |cont=>
  obtain⟨_,_,_,q⟩:=hs;exact False.elim q
section
variable{id T:String}{r:List V->Hp->VK->Prop}
def tCB(r:List V->Hp->VK->Prop)(t:TA):TE:=fun σ H Q=>t σ H fun vs H1=>r vs H1 Q
theorem q98(hc:CallR X (.builtin id) r)(hg:Gl X x)(hm:X.mg x=none)(hv:bootBuiltins x=some (.builtin id))(ha:PA X (e::es) t)(hn:x≠"__name__":=by decide)(hdb:(x==("__debug__":Str))=false:=by decide)
  (he:starEach (e::es) X.env=(false,eval e X.env)::starEach es X.env:=by rfl)(hpl:(backTo pos (starEach es X.env)).any (·.1)=false:=by rfl):PE X (.Call (.Name x p) (e::es) [] pos) (tCB r t):=by
 intro pins s σ H Q I h;refine wpAny_Call_Name_kw (q3o I hg hm hv ?_ hn hdb);exact PyProof.Rows.callWith_builtin1 (thn (ha pos pins s σ H _ I h) fun us s1 ⟨vs,H1,I1,r1,q1⟩=>hc pins s1 σ H1 vs us Q I1 r1 q1) he hpl
theorem q82(hc:CallR X (.type T) r)(hg:Gl X x)(hm:X.mg x=none)(hv:bootBuiltins x=some (.type T))(ha:PA X (e::es) t)(hn:x≠"__name__":=by decide)(hdb:(x==("__debug__":Str))=false:=by decide)
  (he:starEach (e::es) X.env=(false,eval e X.env)::starEach es X.env:=by rfl)(hpl:(backTo pos (starEach es X.env)).any (·.1)=false:=by rfl):PE X (.Call (.Name x p) (e::es) [] pos) (tCB r t):=by
 intro pins s σ H Q I h;refine wpAny_Call_Name_kw (q3o I hg hm hv ?_ hn hdb);exact PyProof.Rows.callWith_type1 (thn (ha pos pins s σ H _ I h) fun us s1 ⟨vs,H1,I1,r1,q1⟩=>hc pins s1 σ H1 vs us Q I1 r1 q1) he hpl
end
end L2
namespace HT
open PySem PyProof.Rows
section
variable{prog:Program}{w:World}{A:Around}{E:Value->Shared->Prop}{s:Shared}
theorem cat_tup{t b:Addr}{vs ws:List Value}{Q:Value->Shared->Prop}(ht:IsTup s.heap t vs.toArray)(hb:IsTup s.heap b ws.toArray)(hv:vs≠[])
  (h1:ws=[]->Q (.ref t) s)(h2:ws≠[]->Q (.ref s.heap.objs.size) {s with heap:=s.heap.push {cls:=.type "tuple", data:=.seq (vs++ws).toArray}})
  (hsz:vs.length+ws.length<=sizeLine):wpAny (model prog w) A (binaryOp .Add (.ref t) (.ref b)) Q E s:=by
 obtain⟨⟨cls,dd,data,sl⟩,ho,hc,n,hd⟩:=id ht;obtain⟨⟨cls2,dd2,data2,sl2⟩,ho2,hc2,n2,hd2⟩:=id hb;simp only at hc hd hc2 hd2;subst hc hd hc2 hd2;have e:vs.toArray++ws.toArray=(vs++ws).toArray:=by simp
 by_cases hw:ws=[]
 ·exact concat_meets ⟨_,ho,rfl⟩ ⟨_,ho2,rfl⟩ noFill_tuple_add seq_tuple_add PySem.F.slot_tuple_add PySem.F.entry_tuple_add (PySem.F.args_tuple_add_2 _ _)
   (tuple_addW1 t b vs.toArray ws.toArray n n2 dd dd2 sl sl2 (by simpa using hv) (by simp[hw])) ⟨ho,ho2,h1 hw⟩
 ·refine concat_meets ⟨_,ho,rfl⟩ ⟨_,ho2,rfl⟩ noFill_tuple_add seq_tuple_add PySem.F.slot_tuple_add PySem.F.entry_tuple_add (PySem.F.args_tuple_add_2 _ _)
   (tuple_addW2 t b vs.toArray ws.toArray n n2 dd dd2 sl sl2 (by simpa using hv) (by simpa using hw) (by rw[w0c,w0c];exact hsz)) ⟨ho,ho2,?_⟩
  rw[e];exact h2 hw
noncomputable def sIx(n d:Nat):Option Int->Nat
 |none=>d
 |some v=>if v<0 then(v+(n:Int)).toNat else min v.toNat n
theorem sIx_none(n d:Nat):sIx n d none=d:=rfl
theorem sIx_nat(n d k:Nat):sIx n d (some (k:Int))=min k n:=by
 show(if(k:Int)<0 then((k:Int)+(n:Int)).toNat else min (k:Int).toNat n)=min k n;rw[if_neg (by omega),w1b]
theorem y08(n d:Nat)(hd:d<=n)(o:Option Int):sIx n d o<=n:=by
 cases o with
 |none=>exact hd
 |some v=>
  show(if v<0 then(v+(n:Int)).toNat else min v.toNat n)<=n
  by_cases hv:v<0
  ·rw[if_pos hv];omega
  ·rw[if_neg hv];exact w3c _ _
theorem x2e(v:Int)(n d:Nat):(if v<0 then max (v+(n:Int)) 0 else min v (n:Int))=((sIx n d (some v):Nat):Int):=by
 show(if v<0 then max (v+(n:Int)) 0 else min v (n:Int))=(((if v<0 then(v+(n:Int)).toNat else min v.toNat n):Nat):Int)
 by_cases hv:v<0
 ·simp only[if_pos hv];omega
 ·simp only[if_neg hv];omega
theorem x26(lo hi:Option Int)(n:Nat):Builtin.Slice.sliceAdjust lo hi 1 (n:Int)=(((sIx n 0 lo:Nat):Int),((sIx n n hi:Nat):Int)):=by
 have h1:¬((1:Int)<0):=by omega
 unfold Builtin.Slice.sliceAdjust;simp only[h1,if_false];refine Prod.ext ?_ ?_
 ·cases lo with
  |none=>rfl
  |some v=>exact x2e v n 0
 ·cases hi with
  |none=>rfl
  |some v=>exact x2e v n n
theorem x27(i j:Nat):Builtin.Slice.slicePlaces (i:Int) (j:Int) 1=j-i:=by
 unfold Builtin.Slice.slicePlaces;have h1:(1:Int)>0:=by omega
 simp only[h1,if_true,Int.ediv_one];split<;>omega
theorem q7e{v:Value}{o:Option Int}{Q:Option Int->Shared->Prop}(p:IsPart v o)(h:Q o s):wpAny (model prog w) A (Builtin.Slice.slicePartIndex v) Q E s:=by
 cases p with
 |none=>exact slicePart_none h
 |int i t=>exact slicePart_int h
theorem q6v{sl:Addr}{vl vu:Value}{lo hi:Option Int}{n:Nat}{Q:Int×Int×Nat->Shared->Prop}(hs:s.heap.IsSliceOf sl vl vu .none)(pl:IsPart vl lo)(pu:IsPart vu hi)
  (h:Q (((sIx n 0 lo:Nat):Int),1,sIx n n hi-sIx n 0 lo) s):wpAny (model prog w) A (Builtin.Slice.sliceApplied (.ref sl) (pure (n:Int))) Q E s:=by
 obtain⟨os,hos,hcs,hds⟩:=id hs;unfold Builtin.Slice.sliceApplied Builtin.Slice.sliceFields;refine wpAny_bind (wpAny_bind (wpAny_field hos hds (x:=vl) rfl (wpAny_bind (wpAny_field hos hds (x:=vu) rfl (wpAny_bind (wpAny_field hos hds (x:=.none) rfl (wpAny_pure ?_)))))));refine wpAny_bind (slicePart_none ?_);show wpAny _ _ (if((1:Int)==0)=true then _ else _) _ _ s;rw[if_neg (by decide)];refine wpAny_bind (q7e pl (wpAny_bind (q7e pu (wpAny_bind (wpAny_pure ?_)))));show wpAny _ _ (match Builtin.Slice.sliceAdjust lo hi 1 (n:Int)with|(lo,hi)=>pure (lo,(1:Int),Builtin.Slice.slicePlaces lo hi 1)) _ _ s;rw[x26 lo hi n];show wpAny _ _ (pure (((sIx n 0 lo:Nat):Int),(1:Int),Builtin.Slice.slicePlaces ((sIx n 0 lo:Nat):Int) ((sIx n n hi:Nat):Int) 1)) _ _ s;rw[x27];exact wpAny_pure h
theorem x6h(xs:Array Value)(i k:Nat):((List.range k).filterMap fun(m:Nat)=>xs[((i:Int)+(m:Int)*1).toNat]?).toArray=((xs.toList.drop i).take k).toArray:=by
 have e:(fun(m:Nat)=>xs[((i:Int)+(m:Int)*1).toNat]?)=fun m=>xs[i+m]?:=by
  funext m
  have:((i:Int)+(m:Int)*1).toNat=i+m:=by omega
  rw[this]
 rw[e];have:=pick_run xs i k;rw[List.filterMap_map]at this;have e2:((fun x=>xs[x]?) ∘ fun x=>i+x)=fun m=>xs[i+m]?:=rfl
 rw[e2]at this;rw[this]
theorem getItem_tuple_cut{t sl:Addr}{items:Array Value}{vl vu:Value}{lo hi:Option Int}{Q:Value->Shared->Prop}(ht:IsTup s.heap t items)(hs:s.heap.IsSliceOf sl vl vu .none)(pl:IsPart vl lo)(pu:IsPart vu hi)
  (hw:¬(sIx items.size 0 lo=0/\sIx items.size items.size hi=items.size))
  (h:Q (.ref s.heap.objs.size) {s with heap:=s.heap.push {cls:=.type "tuple", data:=.seq ((items.toList.drop (sIx items.size 0 lo)).take (sIx items.size items.size hi-sIx items.size 0 lo)).toArray}})
  (hsz:items.size<=sizeLine):wpAny (model prog w) A (getItem (.ref t) (.ref sl)) Q E s:=by
 have htake:sizeOk (.seq ((items.toList.drop (sIx items.size 0 lo)).take (sIx items.size items.size hi-sIx items.size 0 lo)).toArray):=by
  show((items.toList.drop (sIx items.size 0 lo)).take (sIx items.size items.size hi-sIx items.size 0 lo)).toArray.size<=sizeLine;rw[w0c,w1d,w1l,w2s];exact w0j (w3c _ _) (w0j (Nat.sub_le _ _) hsz)
 have hj:sIx items.size items.size hi<=items.size:=y08 _ _ (w0d _) hi;obtain⟨os,hos,hcs,hds⟩:=id hs;have hTs:s.TypeIs (.ref sl) "slice":=⟨os,hos,hcs⟩;unfold getItem;try with_reducible refine wpAny_holding ?_
 first|refine wpAny_bind (wpAny_pure ?_)|skip
 refine wpAny_bind (wpAny_sequenceKey ht.typeIs (by decide) ?_)
 refine wpAny_bind (wpAny_callSpecial?_slot (name:=Str.ofString "__getitem__") ht.typeIs PyProof.Rows.slot_tuple_getitem
  (wpAny_call_entry PyProof.Rows.slot_tuple_getitem ht.typeIs entry_tuple_getitem ?_ (args_tuple_getitem _ _)))
 show wpAny _ _ (Builtin.Tuple.tupleItemsOf (.ref t) >>= _) _ _ s;refine wpAny_bind (tupleItemsOf_ ht ?_);refine wpAny_bind (wpAny_typeOf hTs ?_);rw[if_pos (by decide)];refine wpAny_bind (q6v hs pl pu ?_)
 have hno:¬((((sIx items.size 0 lo:Nat):Int)==0&&(1:Int)==1&&(sIx items.size items.size hi-sIx items.size 0 lo)==items.size)=true):=by
  intro q;rw[w0r,w0r]at q;have q1:((sIx items.size 0 lo:Nat):Int)=0:=eq_of_beq q.1.1;have q2:sIx items.size items.size hi-sIx items.size 0 lo=items.size:=eq_of_beq q.2;exact hw ⟨by omega,by omega⟩
 show wpAny _ _ (if(((sIx items.size 0 lo:Nat):Int)==0&&(1:Int)==1&&(sIx items.size items.size hi-sIx items.size 0 lo)==items.size)=true then _ else _) _ _ s;rw[if_neg hno,x6h]
 first
  |exact wpAny_bind (m:=Builtin.Tuple.tupleExact _) (wpAny_newObj_type (wpAny_pure ⟨_,rfl,wpAny_pure h⟩) htake)
  |exact wpAny_bind (m:=Builtin.Tuple.tupleExact _) (wpAny_newObj_type (wpAny_bind (wpAny_pure (wpAny_pure ⟨_,rfl,wpAny_pure h⟩))) htake)
  |exact wpAny_bind (wpAny_bind (m:=Builtin.Tuple.tupleExact _) (wpAny_newObj_type (wpAny_pure (wpAny_pure ⟨_,rfl,wpAny_pure h⟩)) htake))
  |exact wpAny_bind (wpAny_bind (m:=Builtin.Tuple.tupleExact _) (wpAny_newObj_type (wpAny_pure ⟨_,rfl,wpAny_pure h⟩) htake))
end
end HT
namespace L2
open PySem PySem.Spec PyProof.Rows
variable{A:Around}{X:Cx}{xs:List V}{us:List Value}{s:Shared}{α:Type}{x:V}{v:Value}
abbrev TO:=St->Hp->(Option Int->Hp->Prop)->Prop
def PO(X:Cx)(e:Option Expr)(t:TO):Prop:=
 ∀(pins:List (Addr×Obj))(s:Shared)(σ:St)(H:Hp)(Q:Option Int->Hp->Prop),Inv X pins σ H s->t σ H Q ->
  wpAny (model X.prog X.w) X.A (evalPart e X.env) (fun u s'=>∃o H',Inv X pins σ H' s'/\IsPart u o/\Q o H') X.xe s
def tNoPart:TO:=fun _ H Q=>Q none H
def tPart(t:TE):TO:=fun σ H Q=>t σ H fun x H1=>∃i,x=.int i/\Q (some i) H1
section
variable{e:Expr}{te:TE}{lo hi:Option Expr}{tl th:TO}{pos p2:Pos}
theorem x8j:PO X none tNoPart:=by
 intro pins s σ H Q I h;rw[evalPart_none];exact wpAny_pure ⟨none,H,I,.none,h⟩
theorem x8k(h:PE X e te):PO X (some e) (tPart te):=by
 intro pins s σ H Q I hw;rw[evalPart_some];refine thn (h pins s σ H _ I hw) fun u s1 ⟨x,H1,I1,r1,q1⟩=>?_
 obtain⟨i,rfl,q⟩:=q1;obtain⟨t,rfl⟩:=r1;exact⟨some i,H1,I1,.int i t,q⟩
def SlR(X:Cx)(r:V->Option Int->Option Int->Hp->VK->Prop):Prop:=
 ∀(pins:List (Addr×Obj))(s:Shared)(σ:St)(H:Hp)(x:V)(v vl vu:Value)(lo hi:Option Int)(sl:Addr)(Q:VK),Inv X pins σ H s->RelV x v->s.heap.IsSliceOf sl vl vu .none->IsPart vl lo->IsPart vu hi->r x lo hi H Q ->
  ∃T id,typeLookup (.type T) "__getitem__"=pure (some (.builtin id))/\s.TypeIs v T/\wpAny (model X.prog X.w) X.A (getItem v (.ref sl)) (EP X pins σ Q) X.xe s
theorem SlR.or{r r':V->Option Int->Option Int->Hp->VK->Prop}(h:SlR X r)(h':SlR X r'):SlR X (fun x lo hi H Q=>r x lo hi H Q\/r' x lo hi H Q):=by
 intro pins s σ H x v vl vu lo hi sl Q I rx hs pl pu q;rcases q with q|q
 ·exact h pins s σ H x v vl vu lo hi sl Q I rx hs pl pu q
 ·exact h' pins s σ H x v vl vu lo hi sl Q I rx hs pl pu q
def tSl(r:V->Option Int->Option Int->Hp->VK->Prop)(te:TE)(tl th:TO):TE:=fun σ H Q=>te σ H fun x H1=>tl σ H1 fun l H2=>th σ H2 fun u H3=>r x l u H3 Q
theorem x6i{r:V->Option Int->Option Int->Hp->VK->Prop}(hr:SlR X r)(he:PE X e te)(hl:PO X lo tl)(hu:PO X hi th):PE X (.Subscript e (.Slice lo hi none p2) pos) (tSl r te tl th):=by
 intro pins s σ H Q I h;refine Subscript_ (thn (he pins s σ H _ I h) fun v s1 ⟨x,H1,I1,r1,q1⟩=>?_)
 refine wpAny_Slice (thn (hl pins s1 σ H1 _ I1 q1) fun vl s2 ⟨l,H2,I2,pl,q2⟩=>thn (hu pins s2 σ H2 _ I2 q2) fun vu s3 ⟨u,H3,I3,pu,q3⟩=>?_)
 rw[evalPart_none];refine wpAny_pure ?_;have I4:Inv X pins σ H3 {s3 with heap:=s3.heap.push {cls:=.type "slice", data:=.fields #[vl,vu,.none]}}:=I3.kept (t':=s3.toks) fun b ob q=>Heap.get?_push_of_some _ q
 obtain⟨T,id,hT,ht,hg⟩:=hr pins {s3 with heap:=s3.heap.push {cls:=.type "slice", data:=.fields #[vl,vu,.none]}} σ H3 x v vl vu l u s3.heap.objs.size Q I4 r1 (Heap.IsSliceOf.new ..) pl pu q3;show wpAny (model X.prog X.w) X.A (subscriptTail e (.Slice lo hi none p2) v (.ref s3.heap.objs.size)) (EP X pins σ Q) X.xe {s3 with heap:=s3.heap.push {cls:=.type "slice", data:=.fields #[vl,vu,.none]}};exact tail_any (ops:=[.ref s3.heap.objs.size,v]) ht hT hg (by with_unfolding_all rfl)
noncomputable def cutV(xs:List V)(lo hi:Option Int):List V:=(xs.drop (HT.sIx xs.length 0 lo)).take (HT.sIx xs.length xs.length hi-HT.sIx xs.length 0 lo)
theorem q6c(xs:List V)(lo hi:Option Int):(cutV xs lo hi).length<=xs.length:=by
 unfold cutV;rw[w1d,w1l];exact w0j (w3c _ _) (Nat.sub_le _ _)
def rSlT(K:PySem.W.Frag):V->Option Int->Option Int->Hp->VK->Prop:=fun x lo hi H Q=>∃a xs,x=.ref a/\SqT K H a xs /\
 ¬(HT.sIx xs.length 0 lo=0/\HT.sIx xs.length xs.length hi=xs.length)/\∀p,H p=none->Q (.ref p) (upd H p (.tup (cutV xs lo hi)))
theorem y09:SlR X (rSlT X.K):=by
 intro pins s σ H x v vl vu lo hi sl Q I rx hs pl pu h;obtain⟨a,xs,rfl,hx,hw,q⟩:=h;cases rx;obtain⟨its,r,ht,hz⟩:=I.tuple hx;have hlen:its.toArray.size=xs.length:=by rw[w0c];exact r.length.symm
 refine⟨"tuple", _,PyProof.Rows.slot_tuple_getitem.lookup,ht.typeIs,?_⟩;refine HT.getItem_tuple_cut ht hs pl pu (by rw[hlen];exact hw) ?_ (by rw[hlen];exact hz);rw[hlen];refine⟨.ref s.heap.objs.size,_,I.laid (t':=s.toks) (o:=.tup (cutV xs lo hi)) (fun b ob q=>Heap.get?_push_of_some _ q) (w0d _) ?_,rfl,q _ (I.hok.fresh (w0d _))⟩
 exact⟨w0j (q6c xs lo hi) hz,_,(r.drop (HT.sIx xs.length 0 lo)).take (HT.sIx xs.length xs.length hi-HT.sIx xs.length 0 lo),IsTup.new _ _,_,Heap.get?_push_size _ rfl,rfl⟩
def rCatT(K:PySem.W.Frag):R2:=fun x y H Q=>∃a b xs ys,x=.ref a/\y=.ref b/\SqT K H a xs/\SqT K H b ys/\xs≠[]/\xs.length+ys.length<=sizeLine /\
 (ys=[]->Q (.ref a) H)/\(ys≠[]->∀p,H p=none->Q (.ref p) (upd H p (.tup (xs++ys))))
theorem Vals.nil_iff(r:Vals xs us):us=[]↔xs=[]:=by
 cases r with
 |nil=>simp
 |cons _ _=>simp
theorem op_catT:OpR X (binaryOp .Add) (rCatT X.K):=by
 intro pins s σ H x y v u Q I rx ry h;obtain⟨a,b,xs,ys,rfl,rfl,ha,hb,hx,hz,q1,q2⟩:=h;cases rx;cases ry;obtain⟨its,r1,p1,_⟩:=I.tuple ha;obtain⟨its2,r2,p2,_⟩:=I.tuple hb;refine HT.cat_tup p1 p2 (fun z=>hx (r1.nil_iff.mp z)) (fun z=>⟨.ref a,H,I,rfl,q1 (r2.nil_iff.mp z)⟩) (fun z=>?_) (by rw[<- r1.length,<- r2.length];exact hz)
 refine⟨.ref s.heap.objs.size,_,I.laid (t':=s.toks) (o:=.tup (xs++ys)) (fun b ob q=>Heap.get?_push_of_some _ q) (w0d _) ?_,rfl,q2 (fun w=>z (r2.nil_iff.mpr w)) _ (I.hok.fresh (w0d _))⟩
 exact⟨by rw[w0k];exact hz,_,r1.append r2,IsTup.new _ _,_,Heap.get?_push_size _ rfl,rfl⟩
end
noncomputable def ixN(n:Nat)(i:Int):Option Nat:=if 0<=i then(if i<n then some i.toNat else none)else if -(n:Int)<=i then some (i+n).toNat else none
noncomputable def atI(xs:List α)(i:Int):Option α:=(ixN xs.length i).bind fun j=>xs[j]?
theorem x8l{n:Nat}{i:Int}{j:Nat}(h:ixN n i=some j):seqIndex? i n=some j/\j<n/\-(n:Int)<=i/\i<n:=by
 unfold ixN at h
 by_cases h0:0<=i
 ·rw[if_pos h0]at h
  by_cases h1:i<n
  ·rw[if_pos h1]at h;have e:i.toNat=j:=Option.some.inj h;exact⟨by rw[seqIndex_of h0 h1,e],by omega,by omega,h1⟩
  ·rw[if_neg h1]at h;cases h
 ·rw[if_neg h0]at h
  by_cases h1:-(n:Int)<=i
  ·rw[if_pos h1]at h;have e:(i+n).toNat=j:=Option.some.inj h;exact⟨by rw[seqIndex_neg (by omega) h1,e],by omega,h1,by omega⟩
  ·rw[if_neg h1]at h;cases h
theorem q8c{xs:List α}{i:Int}{v:α}(h:atI xs i=some v):∃j,seqIndex? i xs.length=some j/\xs[j]?=some v/\j<xs.length/\-(xs.length:Int)<=i/\i<xs.length:=by
 unfold atI at h;cases e:ixN xs.length i with
 |none=>rw[e]at h;cases h
 |some j=>
  rw[e]at h;obtain⟨h1,h2,h3,h4⟩:=x8l e;exact⟨j,h1,h,h2,h3,h4⟩
theorem q4h{xs:List α}{j:Nat}{v:α}(h:xs[j]?=some v):atI xs (j:Int)=some v:=by
 have hj:j<xs.length:=(w0b.mp h).1
 have e:ixN xs.length (j:Int)=some j:=by
  unfold ixN;rw[if_pos (by omega),if_pos (by omega)];simp
 unfold atI;rw[e];exact h
theorem x6j(xs:List α)(v:α):atI (xs++[v]) (-1)=some v:=by
 have hl:(xs++[v]).length=xs.length+1:=by simp
 have e:ixN (xs++[v]).length (-1)=some xs.length:=by
  unfold ixN;rw[hl,if_neg (by decide),if_pos (by omega)];congr 1;omega
 unfold atI;rw[e];show(xs++[v])[xs.length]?=some v;simp
def PlainIx(b:Expr):Prop:=∀o i,subscripted b false o i=operate [o,i] (getItem o i)
def IxR(X:Cx)(r:R2):Prop:=
 ∀(value slice:Expr)(pins:List (Addr×Obj))(s:Shared)(σ:St)(H:Hp)(x y:V)(v u:Value)(Q:VK),Inv X pins σ H s->RelV x v->RelV y u->r x y H Q ->
  subscripted slice false v u=operate [v,u] (getItem v u)->wpAny (model X.prog X.w) X.A (subscriptTail value slice v u) (EP X pins σ Q) X.xe s
def MtR(X:Cx)(id:String)(r:V->List V->Hp->VK->Prop):Prop:=
 ∀(pins:List (Addr×Obj))(s:Shared)(σ:St)(H:Hp)(x:V)(xs:List V)(v:Value)(us:List Value)(Q:VK),Inv X pins σ H s->RelV x v->Vals xs us->r x xs H Q ->
  wpAny (model X.prog X.w) X.A (call (.builtin id) (v::us)) (EP X pins σ Q) X.xe s
section
variable{a b:Expr}{ta tb:TE}{pos:Pos}
theorem IxR.or{r r':R2}(h:IxR X r)(h':IxR X r'):IxR X (fun x y H Q=>r x y H Q\/r' x y H Q):=by
 intro value slice pins s σ H x y v u Q I rx ry q hs;rcases q with q|q
 ·exact h value slice pins s σ H x y v u Q I rx ry q hs
 ·exact h' value slice pins s σ H x y v u Q I rx ry q hs
theorem x28{r:R2}(hr:IxR X r)(ha:PE X a ta)(hb:PE X b tb)(hs:PlainIx b):PE X (.Subscript a b pos) (tOp r ta tb):=by
 intro pins s σ H Q I h;exact Subscript_ (binT ha hb I h fun v u s2 x y H2 I2 rx ry q=>hr a b pins s2 σ H2 x y v u Q I2 rx ry q (hs _ _))
def rIxL(K:PySem.W.Frag):R2:=fun x y H Q=>∃p xs i v,x=.ref p/\y=.int i/\SqL K H p xs/\atI xs i=some v/\Q v H
def rIxT(K:PySem.W.Frag):R2:=fun x y H Q=>∃p xs i v,x=.ref p/\y=.int i/\SqT K H p xs/\atI xs i=some v/\Q v H
def rIxS:R2:=fun x y H Q=>∃z i c,x=.str z/\y=.int i/\z.length<=sizeLine/\atI z.cps.toList i=some c/\Q (.str ⟨#[c]⟩) H
theorem ix_list:IxR X (rIxL X.K):=by
 intro value slice pins s σ H x y v u Q I rx ry h hs;obtain⟨p,xs,i,z,rfl,rfl,hq,he,q⟩:=h;cases rx;obtain⟨t,rfl⟩:=ry;obtain⟨its,r,pl,hz⟩:=I.list hq;obtain⟨j,h1,h2,h3,h4,h5⟩:=q8c he;obtain⟨w,ew,rw'⟩:=r.get h2;have hl:=r.length;have hn:=line63;have fin:EP X pins σ Q w s:=⟨z,H,I,rw',q⟩
 by_cases h0:0<=i
 ·have hj:i.toNat=j:=by
   rw[seqIndex_of h0 h5]at h1;exact Option.some.inj h1
  exact item_listR pl.isList h0 (by omega) (by rw[hj];simpa using ew) fin hs
 ·have hj:(i+(its.toArray.size:Int)).toNat=j:=by
   rw[seqIndex_neg (by omega) h4]at h1;rw[w0c,<- hl];exact Option.some.inj h1
  exact subscriptTail_builtinR (x:=w) pl.isList.typeIs slot_list_getitem.lookup
   (wpAny_getItem_list_neg (Q:=fun r s'=>r=w/\EP X pins σ Q r s') pl.isList (by omega) (by rw[w0c]<;>omega) (by omega) (by rw[hj];simpa using ew) ⟨rfl,fin⟩) hs
theorem ix_tup:IxR X (rIxT X.K):=by
 intro value slice pins s σ H x y v u Q I rx ry h hs;obtain⟨p,xs,i,z,rfl,rfl,hq,he,q⟩:=h;cases rx;obtain⟨t,rfl⟩:=ry;obtain⟨its,r,pl,hz⟩:=I.tuple hq;obtain⟨j,h1,h2,h3,h4,h5⟩:=q8c he;obtain⟨w,ew,rw'⟩:=r.get h2;have hl:=r.length;have hn:=line63;have fin:EP X pins σ Q w s:=⟨z,H,I,rw',q⟩
 exact subscriptTail_builtinR (x:=w) pl.typeIs slot_tuple_getitem.lookup
  (getItem_tuple (j:=j) (Q:=fun r s'=>r=w/\EP X pins σ Q r s') pl (by omega) (by omega) (by rw[w0c,<- hl];exact h1) (by simpa using ew) ⟨rfl,fin⟩) hs
theorem y1a:IxR X rIxS:=by
 intro value slice pins s σ H x y v u Q I rx ry h hs;obtain⟨z,i,c,rfl,rfl,hz,he,q⟩:=h;obtain⟨t,rfl⟩:=rx;obtain⟨t',rfl⟩:=ry;obtain⟨j,h1,h2,h3,h4,h5⟩:=q8c he;have hl:z.cps.toList.length=z.length:=by simp[Str.length]
 rw[hl]at h1 h4 h5;have hn:=line63
 exact tail_any (typeIs_str s z t) slot_str_getitem.lookup (getItem_str (c:=c) (by
  have e1:decide (i < -(2^63:Int))=false:=decide_eq_false (by omega);have e2:decide (i>=2^63)=false:=decide_eq_false (by omega);rw[e1,e2,Bool.or_false]) (by rw[h1];simpa using h2) ⟨.str ⟨#[c]⟩,H,I.tok _,⟨_,rfl⟩,q⟩) hs
def rIx(K:PySem.W.Frag):R2:=fun x y H Q=>rIxL K x y H Q\/rIxT K x y H Q\/rIxS x y H Q
theorem x39:IxR X (rIx X.K):=ix_list.or (ix_tup.or y1a)
theorem q99(lo hi:Option Int)(n:Nat):(sliceBounds lo hi none n).1=((HT.sIx n 0 lo:Nat):Int)/\(sliceBounds lo hi none n).2.1=((HT.sIx n n hi:Nat):Int)/\(sliceBounds lo hi none n).2.2=1:=by
 refine⟨?_,?_,rfl⟩
 ·cases lo with
  |none=>simp[sliceBounds,HT.sIx]
  |some i=>
   simp only[sliceBounds,HT.sIx,Option.getD_none,show(1:Int)>0 by decide,if_true]
   by_cases h:i<0
   ·simp only[h,if_true]<;>omega
   ·simp only[h,if_false]<;>omega
 ·cases hi with
  |none=>simp[sliceBounds,HT.sIx]
  |some i=>
   simp only[sliceBounds,HT.sIx,Option.getD_none,show(1:Int)>0 by decide,if_true]
   by_cases h:i<0
   ·simp only[h,if_true]<;>omega
   ·simp only[h,if_false]<;>omega
theorem q9r(its:List Value)(lo hi:Option Int):slicePick its.toArray lo hi none=((its.drop (HT.sIx its.length 0 lo)).take (HT.sIx its.length its.length hi-HT.sIx its.length 0 lo)).toArray:=by
 obtain⟨h1,h2,h3⟩:=q99 lo hi its.toArray.size;unfold slicePick;rw[h1,h2,h3];simp only[sliceRange_one,pick_run,w0c]<;>rfl
def rSlL(K:PySem.W.Frag):V->Option Int->Option Int->Hp->VK->Prop:=fun x lo hi H Q=>∃a xs,x=.ref a/\SqL K H a xs/\∀p,H p=none->Q (.ref p) (upd H p (.lst (cutV xs lo hi)))
theorem sl_list:SlR X (rSlL X.K):=by
 intro pins s σ H x v vl vu lo hi sl Q I rx hs pl pu h;obtain⟨a,xs,rfl,hx,q⟩:=h;cases rx;obtain⟨its,r,ht,hz⟩:=I.list hx;have hlen:=r.length;refine⟨"list", _,slot_list_getitem.lookup,ht.isList.typeIs,?_⟩;refine wpAny_getItem_list_slice ht.isList hs pl pu .none (by simp) ?_ (by rw[w0c]<;>omega);rw[q9r,<- hlen];refine⟨.ref s.heap.objs.size,_,I.laid (t':=s.toks) (o:=.lst (cutV xs lo hi)) (fun b ob q=>Heap.get?_push_of_some _ q) (w0d _) ?_,rfl,q _ (I.hok.fresh (w0d _))⟩
 exact⟨w0j (q6c xs lo hi) hz,_,0,(r.drop (HT.sIx xs.length 0 lo)).take (HT.sIx xs.length xs.length hi-HT.sIx xs.length 0 lo),Heap.get?_push_size _ rfl⟩
noncomputable def flatV:V->Bool
 |.non=>true
 |.bl _=>true
 |.int _=>true
 |.str _=>true
 |_=>false
noncomputable def eqV:V->V->Bool
 |.non,.non=>true
 |.bl a,.bl b=>a==b
 |.bl a,.int b=>(if a then 1 else 0)==b
 |.int a,.bl b=>a==(if b then 1 else 0)
 |.int a,.int b=>a==b
 |.str a,.str b=>a==b
 |_,_=>false
theorem y1b{y:V}{u:Value}(ry:RelV y u)(rx:RelV x v)(fy:flatV y=true)(fx:flatV x=true):SeqAt.EqAt A s u v (eqV y x):=by
 cases y with
 |non=>
  cases ry;cases x with
  |non=>cases rx;exact SeqAt.EqAt.same _
  |bl b=>cases rx;exact SeqAt.EqAt.none_bool b
  |int b=>obtain⟨t,rfl⟩:=rx;exact SeqAt.EqAt.none_int b t
  |str b=>obtain⟨t,rfl⟩:=rx;exact SeqAt.EqAt.none_str b t
  |_=>exact absurd (show false=true from fx) w0y
 |bl a=>
  cases ry;cases x with
  |non=>cases rx;exact SeqAt.EqAt.bool_none a
  |bl b=>cases rx;exact SeqAt.EqAt.bool_bool a b
  |int b=>obtain⟨t,rfl⟩:=rx;exact SeqAt.EqAt.bool_int a b t
  |str b=>obtain⟨t,rfl⟩:=rx;exact SeqAt.EqAt.bool_str a b t
  |_=>exact absurd (show false=true from fx) w0y
 |int a=>
  obtain⟨t',rfl⟩:=ry;cases x with
  |non=>cases rx;exact SeqAt.EqAt.int_none a t'
  |bl b=>cases rx;exact SeqAt.EqAt.int_bool a t' b
  |int b=>obtain⟨t,rfl⟩:=rx;exact SeqAt.EqAt.int_int a t' b t
  |str b=>obtain⟨t,rfl⟩:=rx;exact SeqAt.EqAt.int_str a t' b t
  |_=>exact absurd (show false=true from fx) w0y
 |str a=>
  obtain⟨t',rfl⟩:=ry;cases x with
  |non=>cases rx;exact SeqAt.EqAt.str_none a t'
  |bl b=>cases rx;exact SeqAt.EqAt.str_bool a t' b
  |int b=>obtain⟨t,rfl⟩:=rx;exact SeqAt.EqAt.str_int a t' b t
  |str b=>obtain⟨t,rfl⟩:=rx;exact SeqAt.EqAt.str_str a t' b t
  |_=>exact absurd (show false=true from fx) w0y
 |_=>exact absurd (show false=true from fy) w0y
noncomputable def eqU(x:V)(u:Value):Bool:=match u with
 |.none=>eqV .non x
 |.bool b=>eqV (.bl b) x
 |.int i _=>eqV (.int i) x
 |.str z _=>eqV (.str z) x
 |_=>false
theorem x4a{y:V}{u:Value}(r:RelV y u)(f:flatV y=true):eqU x u=eqV y x:=by
 cases y with
 |non=>cases r;rfl
 |bl b=>cases r;rfl
 |int i=>obtain⟨t,rfl⟩:=r;rfl
 |str z=>obtain⟨t,rfl⟩:=r;rfl
 |_=>exact absurd (show false=true from f) w0y
theorem q8d:∀{xs:List V}{us:List Value},Vals xs us->xs.all flatV=true->us.any (eqU x)=xs.any fun y=>eqV y x
 |_,_,.nil,_=>rfl
 |y::xs,u::us,.cons r t,f=>by
  rw[w1n,w0r]at f;rw[w2q,w2q,x4a r f.1,q8d t f.2]
theorem q6w(rx:RelV x v)(fx:flatV x=true):∀{xs:List V}{us:List Value},Vals xs us->xs.all flatV=true->∀u∈us,SeqAt.EqAt A s u v (eqU x u)
 |_,_,.nil,_=>fun u hu=>by cases hu
 |y::xs,u::us,.cons r t,f=>fun u' hu=>by
  rw[w1n,w0r]at f;rcases w0s.mp hu with rfl|hu
  ·rw[x4a r f.1];exact y1b r rx f.1 fx
  ·exact q6w rx fx t f.2 u' hu
noncomputable def inV(x:V)(xs:List V):Bool:=xs.any fun y=>eqV y x
def rIn(K:PySem.W.Frag)(neg:Bool):R2:=fun x y H Q=>∃p xs,y=.ref p/\(SqL K H p xs\/SqT K H p xs)/\flatV x=true/\xs.all flatV=true/\Q (.bl (if neg then !inV x xs else inV x xs)) H
theorem x0a:OpR X (compareOp .NotIn) (rIn X.K true):=by
 intro pins s σ H x y v u Q I rx ry h;obtain⟨p,xs,rfl,hq,fx,fs,q⟩:=h;cases ry;rcases hq with hq|hq
 ·obtain⟨its,r,pl,hz⟩:=I.list hq;refine SeqAt.notIn_listAt (eqU x) pl.isList (fun w hw=>q6w rx fx r fs w (by simpa using hw)) ⟨.bl _,H,I,rfl,?_⟩
  rw[show its.toArray.any (eqU x)=its.any (eqU x) by simp,q8d r fs];exact q
 ·obtain⟨its,r,pl,hz⟩:=I.tuple hq;refine SeqAt.notIn_tupleAt (eqU x) pl (fun w hw=>q6w rx fx r fs w (by simpa using hw)) ⟨.bl _,H,I,rfl,?_⟩
  rw[show its.toArray.any (eqU x)=its.any (eqU x) by simp,q8d r fs];exact q
theorem x0b:CallR X (.type "list") (fun xs H Q=>∃p ys,xs=[.ref p]/\(SqL X.K H p ys\/SqT X.K H p ys)/\∀l,H l=none->Q (.ref l) (upd H l (.lst ys))):=by
 intro pins s σ H xs us Q I r h;obtain⟨p,ys,rfl,hq,q⟩:=h;obtain⟨u,rfl,rx⟩:=vals1 r;cases rx
 have fin:∀(its:List Value),Vals ys its->ys.length<=sizeLine->∀(h':Heap)(c':Nat),(∀b o',s.heap.get? b=some o'->h'.get? b=some o') ->
   h'.get? s.heap.objs.size=some {cls:=.type "list", dict:=none,data:=.seq its.toArray c',slots:=#[]}->EP X pins σ Q (.ref s.heap.objs.size) {s with heap:=h'}:=fun its r' hz h' c' kp e=>
  ⟨.ref s.heap.objs.size,_,I.laid (t':=s.toks) kp (w0d _) (show ObjOk X.prog X.w _ h' _ (.lst ys)from⟨hz,its,c',r',e⟩),rfl,q _ (I.hok.fresh (w0d _))⟩
 rcases hq with hq|hq
 ·obtain⟨its,r',pl,hz⟩:=I.list hq;have hlen:=r'.length;obtain⟨o,ho,hc,n,hd⟩:=pl.isList;exact call_list_seq p (.inl rfl) ho hc hd (fun h' c' kp e=>fin its r' hz h' c' kp e) (by simp only[w0c]<;>omega)
 ·obtain⟨its,r',pl,hz⟩:=I.tuple hq;have hlen:=r'.length;obtain⟨o,ho,hc,n,hd⟩:=pl;exact call_list_seq p (.inr rfl) ho hc hd (fun h' c' kp e=>fin its r' hz h' c' kp e) (by simp only[w0c]<;>omega)
theorem q9s:CallR X (.type "tuple") (fun xs H Q=>∃p ys,xs=[.ref p]/\((SqL X.K H p ys/\∀l,H l=none->Q (.ref l) (upd H l (.tup ys)))\/(SqT X.K H p ys/\Q (.ref p) H))):=by
 intro pins s σ H xs us Q I r h;obtain⟨p,ys,rfl,h⟩:=h;obtain⟨u,rfl,rx⟩:=vals1 r;cases rx;rcases h with⟨hq,q⟩|⟨hq,q⟩
 ·obtain⟨its,r',pl,hz⟩:=I.list hq;have hlen:=r'.length;refine call_tuple_list pl.isList (fun h' kp=>?_) (by simp only[w0c]<;>omega)
  have I1:Inv X pins σ H {s with heap:=h'}:=I.kept (t':=s.toks) kp
  have I2:Inv X pins σ (upd H h'.objs.size (.tup ys)) {s with heap:=h'.push {cls:=.type "tuple", data:=.seq its.toArray}}:=
   I1.laid (t':=s.toks) (fun b o e=>Heap.get?_push_of_some _ e) (w0d _) (show ObjOk X.prog X.w _ _ _ (.tup ys)from⟨hz,its,r',IsTup.new _ _,_,Heap.get?_push_size _ rfl,rfl⟩)
  exact⟨.ref h'.objs.size,_,I2,rfl,q _ (I1.hok.fresh (w0d _))⟩
 ·obtain⟨its,r',pl,hz⟩:=I.tuple hq;exact call_tuple_same pl ⟨.ref p,H,I,rfl,q⟩
def tyV(K:PySem.W.Frag)(T:String)(x:V)(H:Hp):Prop:=match x with
 |.str _=>T="str"
 |.int _=>T="int"
 |.ref p=>(T="list" /\ ∃xs,SqL K H p xs)\/(T="tuple" /\ ∃o,K.lookup p=some o/\o.cls=.type "tuple" /\ o.dict=none) \/
   (T="dict" /\ ((∃kvs,H p=some (.dK kvs))\/∃sh kvs kas,H p=some (.dT sh kvs kas)))\/(T="set" /\ ∃S n,H p=some (.set S n))
 |_=>False
theorem x4b{pins:List (Addr×Obj)}{σ:St}{H:Hp}{T:String}(I:Inv X pins σ H s)(r:RelV x v)(ty:tyV X.K T x H):
  s.TypeIs v T/\∀a,v=.ref a->∃ob,s.heap.get? a=some ob/\ob.dict=none:=by
 cases x with
 |str z=>
  obtain⟨t,rfl⟩:=r;cases(show T="str" from ty);exact⟨typeIs_str s z t,fun _ e=>nomatch e⟩
 |int i=>
  obtain⟨t,rfl⟩:=r;cases(show T="int" from ty);exact⟨typeIs_int s i t,fun _ e=>nomatch e⟩
 |ref p=>
  cases r;rcases ty with⟨rfl,xs,hq⟩|⟨rfl,o,hk,hc,hd⟩|⟨rfl,hk⟩|⟨rfl,S,n,hk⟩
  ·obtain⟨its,_,pl,_⟩:=I.list hq;refine⟨pl.isList.typeIs,fun a e=>?_⟩
   cases e;obtain⟨o,n,e,c,hd,_⟩:=pl;exact⟨o,e,hd⟩
  ·refine⟨⟨o,I.kIn p o hk,hc⟩,fun a e=>?_⟩
   cases e;exact⟨o,I.kIn _ o hk,hd⟩
  ·have z:∃o,s.heap.get? p=some o/\o.ExactDict:=by
    rcases hk with⟨kvs,hk⟩|⟨sh,kvs,kas,hk⟩
    ·obtain⟨_,_,_,_,o,_,_,e,ex,_⟩:=I.hok p _ hk;exact⟨o,e,ex⟩
    ·obtain⟨_,_,_,_,_,o,_,_,e,ex,_⟩:=I.hok p _ hk;exact⟨o,e,ex⟩
   obtain⟨o,e,ex⟩:=z;refine⟨⟨o,e,ex.1⟩,fun a e2=>?_⟩
   cases e2;exact⟨o,e,ex.2.1⟩
  ·obtain⟨o,_,_,_,e,ex,_⟩:=I.hok p _ hk;refine⟨⟨o,e,ex.1⟩,fun a e2=>?_⟩
   cases e2;exact⟨o,e,ex.2.1⟩
 |_=>exact False.elim ty
def tBM0(K:PySem.W.Frag)(T:String)(r:V->List V->Hp->VK->Prop)(to:TE):TE:=fun σ H Q=>to σ H fun x H1=>tyV K T x H1/\r x [] H1 Q
def tBM(K:PySem.W.Frag)(T:String)(r:V->List V->Hp->VK->Prop)(to:TE)(t:TA):TE:=fun σ H Q=>to σ H fun x H1=>tyV K T x H1/\t σ H1 fun xs H2=>r x xs H2 Q
variable{o e:Expr}{es:List Expr}{to:TE}{t:TA}{name:Str}{apos cpos:Pos}{T id:String}{r:V->List V->Hp->VK->Prop}
theorem y1c(pa:PlainAttrs T)(slot:Slot T name id)(hty:typeOf (.builtin id)=pure (.type "method_descriptor"))(hm:MtR X id r)(ho:PE X o to)
  (hbase:attributeBase o name X.env (eval o X.env)=eval o X.env:=by rfl)(hline:(apos.endLine==cpos.line)=true:=by rfl):PE X (.Call (.Attribute o name apos) [] [] cpos) (tBM0 X.K T r to):=by
 intro pins s σ H Q I h;refine wpAny_Call_method0_late hbase hline (thn (ho pins s σ H _ I h) fun v s1 ⟨x,H1,I1,r1,ty,q1⟩=>?_)
 obtain⟨h1,h2⟩:=x4b I1 r1 ty;exact⟨T,id,pa,slot,hty,h1,h2,Calls.callWith_builtin rfl (PySem.evalArgs_none (hm pins s1 σ H1 x [] v [] Q I1 r1 .nil q1))⟩
theorem y37(pa:PlainAttrs T)(slot:Slot T name id)(hty:typeOf (.builtin id)=pure (.type "method_descriptor"))(hm:MtR X id r)(ho:PE X o to)(ha:PA X (e::es) t)
  (hbase:attributeBase o name X.env (eval o X.env)=eval o X.env:=by rfl)
  (hfew:((backTo cpos (starEach (e::es) X.env)).all (fun x=>!x.1)&&(backToKw cpos (keywordEach [] X.env)).all (fun x=>x.1.isSome)
   && decide ((e::es).length+([]:List Keyword).length+(if([]:List Keyword).isEmpty then 0 else 1)<30))=true:=by rfl)
  (hline:(apos.endLine==cpos.line)=true:=by rfl)(hs:starEach (e::es) X.env=(false,eval e X.env)::starEach es X.env:=by rfl)(hplain:(backTo cpos (starEach es X.env)).any (·.1)=false:=by rfl):
  PE X (.Call (.Attribute o name apos) (e::es) [] cpos) (tBM X.K T r to t):=by
 intro pins s σ H Q I h;refine wpAny_Call_method_late hbase hfew hline rfl (thn (ho pins s σ H _ I h) fun v s1 ⟨x,H1,I1,r1,ty,q1⟩=>?_)
 obtain⟨h1,h2⟩:=x4b I1 r1 ty;refine⟨T,id,pa,slot,hty,h1,h2,?_⟩;have hA:=ha cpos pins s1 σ H1 _ I1 q1;rw[hs]at hA |-
 refine Calls.callWith_builtin (by show(false||(backTo cpos (starEach es X.env)).any (·.1))=false;rw[hplain]<;>rfl) (Calls.evalArgs_plain ?_);exact thn hA fun us s2 ⟨vs,H2,I2,r2,q2⟩=>hm pins s2 σ H2 x vs v us Q I2 r1 r2 q2
/- xs.append(e),list.index on a module's tuple .. are MtR facts of 06m -/
end
def MtM(X:Cx)(id:String)(r:V->List V->Hp->VK->Prop):Prop:=
 ∀(pins:List (Addr×Obj))(s:Shared)(σ:St)(H:Hp)(x:V)(xs:List V)(v:Value)(us:List Value)(Q:VK),Inv X pins σ H s->RelV x v->Vals xs us->r x xs H Q ->
  wpAny (model X.prog X.w) X.A (call (.builtin id) (v::us)) (EP X pins σ Q) X.xe s
theorem Vals.one(h:Vals [x] us):∃u,us=[u]/\RelV x u:=vals1 h
theorem Vals.zero:∀{us:List Value},Vals [] us->us=[]
 |_,.nil=>rfl
theorem Vals.reverse(h:Vals xs us):Vals xs.reverse us.reverse:=by
 induction h with
 |nil=>exact .nil
 |cons r t ih=>rw[w1o,w1o];exact Vals.append ih (.cons r .nil)
section
variable{pins:List (Addr×Obj)}{σ:St}{H:Hp}{l b:Addr}{ys zs:List V}
theorem Inv.lset{its its':List Value}{n:Nat}{f:Array Value->Array Value}{t':Nat}(I:Inv X pins σ H s)(hH:H l=some (.lst xs))
  (e:s.heap.get? l=some {cls:=.type "list", data:=.seq its.toArray n})(hf:f its.toArray=its'.toArray)(hv:Vals ys its')(hz:ys.length<=sizeLine):
  Inv X pins σ (upd H l (.lst ys)) {s with heap:=s.heap.update l (Obj.mapSeq f),toks:=t'}:=by
 have q:=PySem.IsL.update e f;rw[hf]at q;refine I.write (x:=l) (e:=l) (by rw[hH];exact trivial) (.inl rfl) (fun b' u hb hu=>(Heap.get?_update_other s.heap (Obj.mapSeq f) (Ne.symm hb)).trans hu) ⟨_,q⟩ ?_
 exact⟨hz,its',_,hv,q⟩
theorem Inv.lnew{its:List Value}{t':Nat}(I:Inv X pins σ H s)(hv:Vals ys its)(hz:ys.length<=sizeLine):
  Inv X pins σ (upd H s.heap.objs.size (.lst ys)) {s with heap:=s.heap.push {cls:=.type "list", data:=.seq its.toArray},toks:=t'}:=
 I.laid (fun _ _ q=>Heap.get?_push_of_some _ q) (w0d _) ⟨hz,its,0,hv,Heap.get?_push_size _ rfl⟩
theorem Inv.fresh(I:Inv X pins σ H s):H s.heap.objs.size=none:=I.hok.fresh (w0d _)
theorem Inv.lstM(I:Inv X pins σ H s)(hH:H l=some (.lst xs)):xs.length<=sizeLine/\∃(its:List Value)(n:Nat),Vals xs its/\xs.length=its.length/\s.heap.get? l=some {cls:=.type "list", data:=.seq its.toArray n}:=by
 obtain⟨z,its,n,r,e⟩:=I.hok l _ hH;exact⟨z,its,n,r,r.length,e⟩
end
def rAppend:V->List V->Hp->VK->Prop:=fun x vs H Q=>∃l xs y,x=.ref l/\vs=[y]/\H l=some (.lst xs)/\xs.length<sizeLine/\Q .non (upd H l (.lst (xs++[y])))
theorem q5j:MtM X "list.append" rAppend:=by
 intro pins s σ H x vs v us Q I rx rv h;obtain⟨l,xs,y,rfl,rfl,hH,hz,q⟩:=h;cases rx;obtain⟨u,rfl,ru⟩:=rv.one;obtain⟨z,its,n,r,hl,e⟩:=I.lstM hH;refine call_meets F.slot_list_append ⟨_,e,rfl⟩ F.entry_list_append (F.args_list_append_2 _ _) (PySem.list_append l its.toArray n u (by rw[w0c];omega)) ⟨e,?_⟩;refine⟨.non,_,I.lset (its':=its++[u]) hH e (by simp) (r.append (.cons ru .nil)) ?_,rfl,q⟩;rw[w0k,w1e];omega
def rClear:V->List V->Hp->VK->Prop:=fun x vs H Q=>∃l xs,x=.ref l/\vs=[]/\H l=some (.lst xs)/\Q .non (upd H l (.lst []))
theorem x6k:MtM X "list.clear" rClear:=by
 intro pins s σ H x vs v us Q I rx rv h;obtain⟨l,xs,rfl,rfl,hH,q⟩:=h;cases rx;have hus:=rv.zero;subst hus;obtain⟨z,its,n,r,hl,e⟩:=I.lstM hH;refine call_meets F.slot_list_clear ⟨_,e,rfl⟩ F.entry_list_clear (F.args_list_clear_1 _) (AutoSeq1.list_clear_list_0 l its.toArray n (by rw[w0c];omega)) ⟨e,?_⟩;exact⟨.non,_,I.lset (its':=[]) (ys:=[]) hH e rfl .nil (w1h _),rfl,q⟩
end L2
namespace Att
open PySem PySem.W PySem.Calls PyProof.Rows
theorem q7f{P:Params}{h:Heap}:∀(ns:List Int)(vs:List Value),WellAll P h vs (ns.map WData.int)->IntsAre vs ns:=by
 intro ns
 induction ns with
 |nil=>
  intro vs w;rw[w1u]at w;cases w;exact .nil
 |cons n ns ih=>
  intro vs w;rw[w0n]at w;cases w with
  |cons a b=>
   cases a;exact .cons _ _ (ih _ b)
theorem q83{l:OpenLaw}{n:Nat}(hn:l.most=some n){P:Params}{h:Heap}{args:List WData}{vals:List Value}
  (hpre:l.row.toRowW.claim.pre args=true)(hwl:WellAll P h vals args):
  ∃a vs ns,vals=[Value.ref a]/\args=[WData.list (ns.map WData.int)]/\h.get? a=some {cls:=.type "list", data:=.seq vs.toArray}/\IntsAre vs ns/\ns.length<=n:=by
 have hsh:WShape.hasAll [] args [.list .int]=true:=(pre_splitW hpre).1;have hc:l.pre.holds [] {args:=args}=true:=(pre_splitW hpre).2;obtain⟨d,r,rfl,h1,h2⟩:=hasAllW_cons hsh;obtain rfl:=hasAllW_nil h2;obtain⟨xs,rfl,h3⟩:=hasW_list h1;obtain⟨ns,rfl⟩:=items_int h3
 have hlen:ns.length<=n:=by
  unfold OpenLaw.pre at hc
  have h4:(WTm.not (.lt (.lit (.int (n:Int))) (.len (.arg 0)))).holds [] {args:=[.list (ns.map .int)]}=true:=by
   have h4:=(holds_andW hc).1;rw[hn]at h4;exact h4
  have h5:=condW_of h4 (w_not (w_lt w_lit (w_len_list (w_arg rfl))));rw[w0a]at h5;refine Nat.le_of_not_lt fun q=>?_
  have q':(n:Int)<((ns.length:Nat):Int):=by omega
  first
   |(rw[decide_eq_true q']at h5;exact absurd h5 (by decide))
   |(simp at h5;omega)
 cases hwl with
 |cons w1 w2=>
  cases w2;cases w1 with
  |list ho hall=>exact⟨_,_,ns,rfl,rfl,ho,q7f ns _ hall,hlen⟩
theorem q84(l:OpenLaw)(args:List WData):l.row.toRowW.claim.post args (.bool true) args=true:=
 postW_of (r:=l.row.toRowW) (X:=(true==true))
  (show WShape.has [] (.bool true) .bool=true by first|rfl|decide|simp[WShape.has,WShape.arms,WShape.armsAll])
  (show(WTm.eq .res (.lit (.bool true))).value [] {args:=args,res:=some (.bool true),after:=args}=some (.bool (true==true))from w_eq_bool (w_res rfl) w_lit) rfl
theorem attach_call{l:OpenLaw}{n:Nat}{q:Program}{loose:List Str}{XP:(Str->Option Value)->Heap->Prop}{YP:World->Heap->Prop}{d:DefRec}
  (hn:l.most=some n)(hdf:d.params.defaults=[])
  (call:∀(w:World)(s₀ s₁:Shared)(mg mb:Str->Option Value)(fa:Addr)(o:Obj)(pm cd doc:Value)(a:Addr)(vs:List Value)(ns:List Int),
   Ground q loose [] XP w s₀ mg mb s₁.heap->YP w s₁.heap ->
   s₁.heap.get? fa=some o->o.data=.func (docDef d.name d.params d.body d.scope pm cd doc)->s₁.heap.CodeRec cd d.name->mg d.name=some (.ref fa) ->
   s₁.heap.get? a=some {cls:=.type "list", data:=.seq vs.toArray}->IntsAre vs ns->ns.length<=n->s₁.gens=#[] ->
   codeAny (model l.prog w) callerA (.call (.ref fa) ⟨[.ref a],[]⟩) (fun r s'=>r=.ok (.ret (.bool true))/\OldK s₁.heap s'.heap/\s'.os=s₁.os/\AllBare s'.gens) s₁):
  WalkO q loose XP YP l.row.toRowW d [] (fun f vs=>PySem.call f vs):=by
 intro w s₀ s₁ mg mb G Y fa o pm cd doc dV kV ho hd hcd hD hmg hg args vals as hpre hlay hrd hwl hlo;obtain rfl:dV=.none:=Dflts.none hD hdf;obtain rfl:kV=.none:=Dflts.noKw hD;obtain⟨a,vs,ns,rfl,rfl,hobj,hints,hlen⟩:=q83 hn hpre hwl;refine enter_call (codeAny_mono (call w s₀ s₁ mg mb fa o pm cd doc a vs ns G Y ho (fd_plain hd) hcd hmg hobj hints hlen hg) fun r s' hq=>?_)
 obtain⟨rfl,h2,h3,h4⟩:=hq;exact⟨.inl ⟨.bool true,.bool true,[],rfl,fun _=>rfl,.bool true,q84 l _,fun _=>⟨List.Pairwise.nil,fun _ hm=>(nomatch hm)⟩⟩,h2,h3,h4⟩
section
variable{prog:Program}{w:World}{A:Around}{E:Value->Shared->Prop}{s:Shared}{K:Frag}
noncomputable def ledger(h:Heap)(L d:Addr):List (Addr×Obj):=(List.range h.objs.size).filterMap fun a=>if a=L\/a=d then none else(h.get? a).map fun o=>(a,o)
end
end Att
namespace L2
open PySem PySem.Spec PyProof.Rows
theorem q85:∀{vs:List Value}{ns:List Int},IntsAre vs ns->Vals (ns.map V.int) vs
 |_,_,.nil=>.nil
 |_,_,.cons n t h=>.cons ⟨t,rfl⟩ (q85 h)
def Only(H:Hp):Prop:=∀b,H b=none\/∃o xs,H b=some (.frz o (.lst xs))
theorem x0c{P:Program}{w:World}{K:PySem.W.Frag}{mg mb:Str->Option Value}{CX:CXT}{k:Nat}{fa a:Addr}{fd:FuncData}{x:Str}{sp:Sp}{s₁:Shared}{vs:List Value}{ns:List Int}
  (KX:K.In s₁.heap)(hns:s₁.heap.Ns mainGlobals mg)(hb:s₁.heap.Ns builtinsNs mb)(hbb:∀x:Str,x≠"__name__"->mb x=bootBuiltins x)(hlim:s₁.heap.NoLimit)(hg:s₁.gens=#[])
  (ha:s₁.heap.get? a=some {cls:=.type "list", data:=.seq vs.toArray})(hi:IntsAre vs ns)(hl:ns.length<=sizeLine)(hr:Room k callerA)
  (F:∀base:Heap,K.In base->base.Ns mainGlobals mg->FnOk P w K mg base CX k fa fd [x] sp)(hbind:∀(s:Shared)(u:Value),BindsTo s fd ⟨[u],[]⟩ [(x,u)])
  (hsp:∀H:Hp,Only H->SqL K H a (ns.map V.int)->sp [.ref a] H (fun v _=>v=.bl true) fun _ _ _=>False)
  (hCX:∀H e s',CX [] H s₁ (fun _ _ _=>False) e s'->False)(hNM:noMark K=true):
  codeAny (model P w) callerA (.call (.ref fa) ⟨[.ref a],[]⟩) (fun r s'=>r=.ok (.ret (.bool true))/\OldK s₁.heap s'.heap/\s'.os=s₁.os/\AllBare s'.gens) s₁:=by
 have rv:=q85 hi;have lenV:=hi.length
 have core:∀H:Hp,Only H->SqL K H a (ns.map V.int)->HOk P w H s₁.heap->(∀b,H b≠none->b=a)->(H a≠none->K.lookup a=none) ->
   codeAny (model P w) callerA (.call (.ref fa) ⟨[.ref a],[]⟩) (fun r s'=>r=.ok (.ret (.bool true))/\OldK s₁.heap s'.heap/\s'.os=s₁.os/\AllBare s'.gens) s₁:=by
  intro H hO hS hok hA hK;have base_of:∀{b:Addr}{o:Obj},s₁.heap.get? b=some o->H b=none->(hidT s₁.heap H).get? b=some o:=fun e n=>x6a e n
  have noA:∀{b:Addr}{o:Obj}{es:Array DictEntry}{ep:Nat},s₁.heap.get? b=some o->o.data=.dict es ep->H b=none:=fun {b o es ep} e d=>by
   cases q:H b with
   |none=>rfl
   |some u=>
    have e':b=a:=hA b (by rw[q];simp);subst e';rw[ha]at e;cases e;have d':Data.seq vs.toArray _=Data.dict es ep:=d;cases d'
  have nsK:∀{b:Addr}{m:Str->Option Value},s₁.heap.Ns b m->(hidT s₁.heap H).Ns b m:=fun {b m} ⟨o,es,ep,e,d,r⟩=>⟨o,es,ep,base_of e (noA e d),d,r⟩
  have hKb:K.In (hidT s₁.heap H):=fun b o e=>base_of (KX b o e) (by
   cases q:H b with
   |none=>rfl
   |some u=>
    have e':b=a:=hA b (by rw[q];simp);subst e';rw[hK (by rw[q];simp)]at e;cases e)
  have hM:Mod K mg (hidT s₁.heap H):=⟨hKb,nsK hns,⟨mb,nsK hb,hbb⟩,let ⟨mc,h1,h2⟩:=hlim;⟨mc,nsK h1,h2⟩⟩;have e0:Env0 P w K mg (hidT s₁.heap H) callerA [] s₁ H:=⟨rfl,hM,fun b o e=>x78 e,Nat.le_of_eq (x3y _ _),trivial,fun b hb=>absurd (show b∈([]:List Addr)from hb) (by simp),hok,.of_eq hg,.vac hNM⟩
  refine codeAny_mono ((F _ hKb (nsK hns)).run callerA [] s₁ H ⟨[.ref a],[]⟩ [.ref a] [.ref a] _ _ hr e0 (hbind s₁ (.ref a)) (.cons rfl .nil) (hsp H hO hS)) fun r s' h=>?_
  cases r with
  |error e=>exact(hCX H e s' h).elim
  |ok fl=>
   cases fl with
   |next=>exact False.elim h
   |brk=>exact False.elim h
   |cont=>exact False.elim h
   |ret u=>
    obtain⟨v,H',os,bare,un,hok',r',q⟩:=h;have q':v=.bl true:=q;subst q';obtain rfl:u=Value.bool true:=r';refine⟨rfl,OldK.of_keep fun b o e=>?_,os,bare⟩
    cases q:H b with
    |none=>exact un.keep b o e q (by intro z;exact absurd (show b∈([]:List Addr)from z) (by simp)) (by simp)
    |some u=>
     rcases hO b with z|⟨ob,xs,z⟩
     ·rw[q]at z;cases z
     ·have z2:=un.frzs b ob _ z;obtain⟨e1,_⟩:=hok b _ z;obtain⟨e2,_⟩:=hok' b _ z2;rw[e]at e1;cases e1;exact e2
 cases hk:K.lookup a with
 |some o=>
  have e:=KX a o hk;rw[ha]at e;cases e;refine core (fun _=>none) (fun _=>.inl rfl) (.inr ⟨_,vs.toArray,_,hk,rfl,rfl,rfl,by rw[w0c,lenV];exact hl,by simpa using rv⟩) (fun b u z=>by have z':(none:Option HO)=some u:=z;cases z') (fun b z=>absurd rfl z) fun z=>absurd rfl z
 |none=>
  refine core (fun b=>if b=a then some (.frz {cls:=.type "list", data:=.seq vs.toArray} (.lst (ns.map V.int)))else none) (fun b=>?_) (.inl (.inr ⟨{cls:=.type "list", data:=.seq vs.toArray},if_pos rfl⟩)) (fun b u z=>?_) (fun b z=>?_) fun _=>hk
  ·by_cases hb:b=a
   ·exact .inr ⟨_,_,if_pos hb⟩
   ·exact .inl (if_neg hb)
  ·by_cases hb:b=a
   ·have z':=(if_pos hb).symm.trans z;cases z';subst hb;exact⟨ha,by rw[w0a];exact hl,vs,_,rv,ha⟩
   ·have z':=(if_neg hb).symm.trans z;cases z'
  ·by_cases hb:b=a
   ·exact hb
   ·exact absurd (if_neg hb) z
noncomputable abbrev KOf{K:PySem.W.Frag}{h:Heap}(_:K.In h):PySem.W.Frag:=K
theorem x8m{l:PySem.W.OpenLaw}{n k:Nat}{q:Program}{loose:List Str}{XP:(Str->Option Value)->Heap->Prop}{YP:World->Heap->Prop}{d:DefRec}{K:Params->PySem.W.Frag}{CX:World->CXT}{sp:World->Sp}{x:Str}
  (hn:l.most=some n)(hn2:n<=sizeLine)(hdf:d.params.defaults=[])(hr:Room k callerA)
  (hY:∀(w:World)(h:Heap),YP w h->(K w.params).In h)
  (F:∀(w:World)(mg:Str->Option Value)(fa:Addr)(h:Heap),(K w.params).In h->h.Ns mainGlobals mg->mg d.name=some (.ref fa) ->
   ∃fd:FuncData,(∀(s:Shared)(u:Value),BindsTo s fd ⟨[u],[]⟩ [(x,u)]) /\
    ∀base:Heap,(K w.params).In base->base.Ns mainGlobals mg->FnOk l.prog w (K w.params) mg base (CX w) k fa fd [x] (sp w))
  (hsp:∀(w:World)(H:Hp)(a:Addr)(ns:List Int),ns.length<=n->Only H->SqL (K w.params) H a (ns.map V.int)->sp w [.ref a] H (fun v _=>v=.bl true) fun _ _ _=>False)
  (hCX:∀(w:World)(H:Hp)(s:Shared)(e:Value)(s':Shared),CX w [] H s (fun _ _ _=>False) e s'->False)(hNM:∀w:World,noMark (K w.params)=true):
  PySem.W.WalkO q loose XP YP l.row.toRowW d [] (fun f vs=>PySem.call f vs):=by
 refine Att.attach_call hn hdf fun w s₀ s₁ mg mb fa o pm cd doc a vs ns G Y ho hd hcd hmg hobj hints hlen hg=>?_
 have KX:=hY w _ Y;obtain⟨fd,hb,hF⟩:=F w mg fa _ KX G.T.g hmg;exact x0c KX G.T.g G.T.b G.T.builtins G.T.nolimit hg hobj hints (w0j hlen hn2) hr hF hb (fun H hO hS=>hsp w H a ns hlen hO hS) (fun H e s'=>hCX w H s₁ e s') (hNM w)
end L2
/- THE LAST THEOREM (shape; LID, My.* are yours):
   My.Adr: a structure of the addresses that your layer names (classes, functions); My.Txt K t: a structure (Prop) of the equations over K;
   My.txt_mk : {K} {implicit addresses ..} (e1 : nsIn K mainGlobals "law" = some (some (.ref f))) (e2 : K.lookup f = some ⟨oc, od, .func (fnOf "law" "law" params body scope dV kV doc pm an cdv ct), sl⟩) (e3 : codeIn K cdv "law" = true) .. : ∃ t, My.Txt K t
set_option maxRecDepth 100000 in
set_option maxHeartbeats 0 in
theorem PySem.Challenge.cw_LID_holds : PySem.Challenge.rw_LID.Holds := by
 w_on; o_law; k_head; (case hw => w_witness2)
 k_fill
 refine L2.x8m (l := PySem.Challenge.rw_LID) (n := 63) (k := 40) (x := "script") (CX := fun w => ..) (sp := fun _ => My.sp_law) rfl (by decide) rfl ⟨rfl, by decide, by decide⟩ (fun w h Y => PySem.W.kIn_of Y) ?F ?S ?C
 case F =>
  intro w mg fa h KX G hmg
  have T : ∃ t, My.Txt (L2.KOf KX) t := by
   dsimp only [L2.KOf]                          -- K must stand as «<heap const> w.params» for k_is;refine' My.txt_mk ?e1 ?e2 ?e3 ..
   (case e1 => PySem.W.k_is)                    -- in the order: a name -> its address -> its object -> its parts
   (case e2 => PySem.W.k_is)
   ..
  obtain ⟨t, T⟩ := T;have e0 := hmg.symm.trans (mg_of KX G T.law);cases e0                                       -- fa is the law's own address;exact ⟨_, fun s u => .of_eq rfl, fun base kb nb => My.law_fn T kb nb⟩     -- if «.of_eq rfl» comes too early: refine' ⟨_, ?b, fun base kb nb => My.law_fn T kb nb⟩; exact fun s u => .of_eq rfl
 case S => exact fun w H a ns hl hO hS => ..
 case C => exact ..
(the tactic k_is has no namespace: write k_is) -/
namespace L2
open PySem PySem.Spec PyProof.Rows
variable{a f:Addr}{X:Cx}{env:Env}{e:Expr}{fd:FuncData}{B base h h1:Heap}{H H':Hp}{pins:List (Addr×Obj)}{l:List Env}{es ifs:List Expr}{js:List Nat}{N ps:List Str}{k:Nat}{pos:Pos}{P:Program}{K:PySem.W.Frag}{s:Shared}{sp:Sp}{σ:St}{qual x:Str}{mg:Str->Option Value}{t:TA}{te:TE}{v:V}{a0 cls:Value}{w:World}
noncomputable def defArgs(s:Stmt):Arguments:=match s with
 |.FunctionDef _ a _ _ _ _ _ _ _ _=>a
 |_=>{posonlyargs:=[],args:=[],vararg:=none,kwonlyargs:=[],kw_defaults:=[],kwarg:=none,defaults:=[]}
noncomputable def defBody(s:Stmt):List Stmt:=match s with
 |.FunctionDef _ _ b _ _ _ _ _ _ _=>b
 |_=>[]
noncomputable def defScope(s:Stmt):Scope:=match s with
 |.FunctionDef _ _ _ _ _ _ sc _ _ _=>sc
 |_=>{kind:=.function,names:=[],isGenerator:=false,isCoroutine:=false}
noncomputable abbrev CX0:CXT:=fun _ _ _ _ _ _=>False
noncomputable abbrev E0:XK:=fun _ _ _=>False
structure Fun(K:PySem.W.Frag)(x qual:Str)(st:Stmt)(f:Addr)(fd:FuncData):Prop where
 ex:∃(oc:Value)(od:Option Addr)(kV doc pm:Value)(an:Option Addr)(cdv ct:Value)(osl:Array (Option Value)),
  fd=PySem.W.fnOf x qual (defArgs st) (defBody st) (defScope st) .none kV doc pm an cdv ct/\K.lookup f=some ⟨oc,od,.func fd,osl⟩/\PySem.W.codeIn K cdv qual=true
 kp:keepIn K (.ref f)=true
theorem Fun.binds{st:Stmt}{ps:List Str}(F:Fun K x qual st f fd)
  (h:∀(kV doc pm:Value)(an:Option Addr)(cdv ct:Value)(us:List Value),us.length=ps.length->bindArgs (PySem.W.fnOf x qual (defArgs st) (defBody st) (defScope st) .none kV doc pm an cdv ct) ⟨us,[]⟩=pure (ps.zip us)):Binds K fd ps []:=by
 obtain⟨oc,od,kV,doc,pm,an,cdv,ct,osl,rfl,lk,hcd⟩:=F.ex;exact .all (h kV doc pm an cdv ct)
theorem q0h{st:Stmt}{oc:Value}{od an:Option Addr}{osl:Array (Option Value)}{kV doc pm cdv ct:Value}(l:K.lookup f=some ⟨oc,od,.func (PySem.W.fnOf x qual (defArgs st) (defBody st) (defScope st) .none kV doc pm an cdv ct),osl⟩)
  (c:PySem.W.codeIn K cdv qual=true)(k:keepIn K (.ref f)=true):Fun K x qual st f (PySem.W.fnOf x qual (defArgs st) (defBody st) (defScope st) .none kV doc pm an cdv ct):=⟨⟨oc,od,kV,doc,pm,an,cdv,ct,osl,rfl,l,c⟩,k⟩
theorem pv(i:Nat)(hN:X.N[i]?=some x:=by rfl)(hv:Vis X.env.scope x:=by walk_at "1")(hd:(x==("__debug__":Str))=false:=by decide)
  (hcd:(x==("__classdict__":Str))=false:=by decide):PE X (.Name x pos) (tVar i):=y0t hN hv hd hcd
def Same(H H':Hp):Prop:=∀b o,H b=some o->H' b=some o
theorem Same.refl(H:Hp):Same H H:=fun _ _ h=>h
theorem Same.trans{H1 H2:Hp}(a:Same H H1)(b:Same H1 H2):Same H H2:=fun c o h=>b c o (a c o h)
theorem Same.free(e:Same H H'){l:Addr}(h:H' l=Option.none):H l=Option.none:=by
 cases q:H l with
 |none=>rfl
 |some o=>
  rw[e l o q]at h;cases h
theorem Same.seq{xs:List V}(e:Same H H')(h:SqL K H a xs):SqL K H' a xs:=by
 rcases h with(h|⟨o,h⟩)|h
 ·exact .inl (.inl (e _ _ h))
 ·exact .inl (.inr ⟨o,e _ _ h⟩)
 ·exact .inr h
set_option maxHeartbeats 4000000
theorem ObjOk.get{o:HO}(x:ObjOk P w H h a o):∃ob,h.get? a=some ob:=by
 cases o with
 |lst xs=>obtain⟨_,_,_,_,e⟩:=x;exact⟨_,e⟩
 |tup xs=>obtain⟨_,_,_,p,_⟩:=x;obtain⟨o,e,_⟩:=p;exact⟨o,e⟩
 |dK kvs=>obtain⟨_,_,_,_,o,_,_,e,_⟩:=x;exact⟨_,e⟩
 |dT sh kvs kas=>obtain⟨_,_,_,_,_,o,_,_,e,_⟩:=x;exact⟨_,e⟩
 |set S n=>obtain⟨o,_,_,_,e,_⟩:=x;exact⟨_,e⟩
 |ins C dx fs=>obtain⟨_,_,_,e,_⟩:=x;exact⟨_,e⟩
 |own y=>obtain⟨_,e⟩:=x;exact⟨_,e⟩
 |xd fs=>obtain⟨_,⟨_,_,_,e,_⟩,_⟩:=x;exact⟨_,e⟩
 |rng lo hi=>obtain⟨_,_,_,e⟩:=x;exact⟨_,e⟩
 |frz ob u=>obtain⟨e,_⟩:=x;exact⟨_,e⟩
 |tbl ps=>rcases x with⟨_,_,_,_,e,_⟩|⟨_,_,_,_,_,_,_,_,_,_,_,_,e⟩<;>exact⟨_,e⟩
 |met f y=>exact⟨_,(show h.get? a=some _ from x)⟩
 |ext φ=>obtain⟨_,⟨_,e⟩,_⟩:=x;exact⟨_,e⟩
structure Fly(outer:List Env)(H H':Hp)(h h':Heap)(e:Addr)(cls:Value)(B:Heap):Prop where
 fl:∃a0,Heap.FlyingW B outer e cls a0 h'
 old:∀b o,h.get? b=some o->H b=none->b∉frs outer->B.get? b=some o
 trk:∀b u o,H' b=some u->h'.get? b=some o->B.get? b=some o
 all:∀b o,h.get? b=some o->b∈frs outer\/∃o',B.get? b=some o'
 new:h.get? e=none
noncomputable def CX1(P:Program)(w:World):CXT:=fun outer H s E ev s'=>∃(e:Addr)(cls:Value)(H':Hp)(B:Heap),
 ev=.ref e/\s'.os=s.os/\AllBare s'.gens/\Un (frs outer) [] H H' s.heap s'.heap/\HOk P w H' s'.heap/\Fly outer H H' s.heap s'.heap e cls B/\E cls none H'
def PassX(CX:CXT)(X:Cx)(EE:St->XK):Prop:=∀(pins:List (Addr×Obj))(σ:St)(H:Hp)(s:Shared)(e:Value)(s':Shared),Inv X pins σ H s->CX X.stack H s (EE σ) e s'->X.xe e s'
def RaisX(X:Cx)(EE:St->XK):Prop:=∀(pins:List (Addr×Obj))(σ:St)(H:Hp)(s:Shared)(e:Addr)(cls:Value)(vs:List Value)(h':Heap),Inv X pins σ H s->Heap.MadeExcOf s.heap h' e cls vs->EE σ cls none H->X.xe (.ref e) {s with heap:=h'}
section
variable{CX:CXT}{scope:Scope}{cd:Value}{A:Around}{outer:List Env}{s₀:Shared}{H₀:Hp}{E:XK}
theorem x2f{s':Shared}{e:Addr}{h'':Heap}
  (I:Inv (cxOf CX P w K mg base N qual scope f cd A outer s₀ H₀ E) pins σ H s)(J:Inv (cxOf CX P w K mg base N qual scope f cd A outer s₀ H₀ E) pins σ H' s')
  (old:∀b o,s.heap.get? b=some o->H b=none->b∉frs (envOfC qual scope s₀.heap.objs.size f cd::outer)->B.get? b=some o)
  (trk:∀b u o,H' b=some u->s'.heap.get? b=some o->B.get? b=some o)
  (all:∀b o,s.heap.get? b=some o->b∈frs (envOfC qual scope s₀.heap.objs.size f cd::outer)\/∃o',B.get? b=some o')
  (new:s.heap.get? e=none)
  (fl:Heap.FlyingW B outer e cls a0 h'')(up:s'.heap.UpToSlots h'')(hE:E cls none H'):
  CX1 P w outer H₀ s₀ E (.ref e) {s' with heap:=h''}:=by
 have neL:∀b o,s₀.heap.get? b=some o->b∉frs outer->b∉frs (envOfC qual scope s₀.heap.objs.size f cd::outer):=fun b o q nb hb=>by
  rcases w0s.mp (show b∈s₀.heap.objs.size::frs outer from hb)with z|z
  ·exact absurd (Heap.lt_size q) (by rw[z];exact w1v _)
  ·exact nb z
 have ex0:∀b:Addr,b∉([]:List Addr):=fun b z=>nomatch z
 have slot:∀b o,s₀.heap.get? b=some o->b∈frs outer->∃sl,h''.get? b=some {o with slots:=sl}:=fun b o q hb=>by
  obtain⟨sl,e1⟩:=J.base.slot b o q (J.ok.frf b hb) hb (ex0 b);obtain⟨_,o2,e2,nd⟩:=J.funs.mem hb
  rw[e1]at e2;cases e2;obtain⟨sl',e3⟩:=up b _ e1 nd;exact⟨sl',e3⟩
 refine⟨e,cls,H',B,rfl,J.os,J.bare,⟨fun b o q n hb hx=>?_,fun b o q n hb hx=>slot b o q hb,fun b o q n hx=>J.base.free b o q n hx,fun b o q hx=>?_,J.base.tups,J.base.frzs,J.base.tbls⟩,fun a o q=>?_,⟨⟨a0,fl⟩,fun b o q n hb=>?_,fun b u o q z=>?_,fun b o q=>?_,?_⟩,hE⟩
 ·exact fl.1 b o (old b o (I.base.keep b o q n hb hx) (I.base.free b o q n hx) (neL b o q hb))
 ·by_cases hb:b∈frs outer
  ·obtain⟨sl,z⟩:=slot b o q hb;exact⟨_,z⟩
  ·obtain⟨o1,e1⟩:=I.base.there b o q hx;rcases all b o1 e1 with z|⟨o',z⟩
   ·exact absurd z (neL b o q hb)
   ·exact⟨o',fl.1 b o' z⟩
 ·refine(J.hok a o q).stay (fun b u hb z=>?_) (fun _ z=>z) fun _ _ _ z=>z
  rcases hb with rfl|hb
  ·exact fl.1 _ _ (trk b o u q z)
  ·exact fl.1 _ _ (trk b _ u hb z)
 ·exact old b o (I.base.keep b o q n hb (ex0 b)) (I.base.free b o q n (ex0 b)) (neL b o q hb)
 ·obtain⟨o1,e1⟩:=(J.hok b u q).get;have e2:=trk b u o1 q e1;have e3:=fl.1 b o1 e2;rw[e3]at z;cases z;exact e2
 ·obtain⟨o1,e1⟩:=I.base.there b o q (ex0 b);rcases all b o1 e1 with z|z
  ·by_cases hb:b∈frs outer
   ·exact .inl hb
   ·exact absurd z (neL b o q hb)
  ·exact .inr z
 ·cases q:s₀.heap.get? e with
  |none=>rfl
  |some o=>
   obtain⟨o1,e1⟩:=I.base.there e o q (ex0 e);rw[new]at e1;cases e1
theorem pass1:PassX (CX1 P w) (cxOf (CX1 P w) P w K mg base N qual scope f cd A outer s₀ H₀ E) (fun _=>E):=by
 intro pins σ H s ev s' I hx;obtain⟨e,cls,H',B,rfl,hos,hg,un,hok,fly,hE⟩:=hx;have J:=I.call' (ch:=[]) hos un hok hg (fun b hb=>nomatch hb)
 obtain⟨a0,fl⟩:=fly.fl;refine wpAny_leaves_onW (base:=B) I.ok.frames rfl fl fun h'' fl2 up=>?_
 exact x2f I J fly.old fly.trk fly.all fly.new fl2 up hE
theorem rais1:RaisX (cxOf (CX1 P w) P w K mg base N qual scope f cd A outer s₀ H₀ E) (fun _=>E):=by
 intro pins σ H s e cls vs h' I hx hE;have J:Inv (cxOf (CX1 P w) P w K mg base N qual scope f cd A outer s₀ H₀ E) pins σ H {s with heap:=h'}:=I.kept (t':=s.toks) hx.keeps;have hin:∀env∈(envOfC qual scope s₀.heap.objs.size f cd::outer),∀b,env.frame=some b->b∈frs (envOfC qual scope s₀.heap.objs.size f cd::outer):=fun env he b hb=>w2y.mpr ⟨env,he,hb⟩
 refine wpAny_leaves_madeW (base:=PySem.W.hideAll s.heap (frs (envOfC qual scope s₀.heap.objs.size f cd::outer))) (h:=s.heap) I.ok.frames rfl (fun b o q=>PySem.W.of_hideAll _ q) (PySem.W.funFrames_hide I.stack hin) hx fun h'' t fl _ _ up=>?_
 refine x2f I J (fun b o q _ nb=>hideAll_get _ q nb) (fun b u o q z=>?_) (fun b o q=>?_) hx.new fl up hE
 ·obtain⟨o1,e1⟩:=(I.hok b u q).get;have e2:=hx.keeps b o1 e1;have z':h'.get? b=some o:=z;rw[e2]at z';cases z';refine hideAll_get _ e1 fun hb=>?_
  rw[I.stkFree b hb]at q;cases q
 ·by_cases hb:b∈frs (envOfC qual scope s₀.heap.objs.size f cd::outer)
  ·exact .inl hb
  ·exact .inr ⟨o,hideAll_get _ q hb⟩
end
theorem passE:PassX (CX1 P w) X (fun _=>E0):=fun _ _ _ _ _ _ _ h=>by
 obtain⟨_,_,_,_,_,_,_,_,_,_,z⟩:=h;exact False.elim z
def tCallX(sp:Sp)(dvs:List V)(EE:St->XK)(t:TA):TE:=fun σ H Q=>t σ H fun vs H1=>sp (vs++dvs) H1 Q (EE σ)
section
variable{CX:CXT}{C:Addr}{dvs:List V}{ds:List Value}{EE:St->XK}{m:Str}{p apos:Pos}{o:Expr}{ta:TE}
theorem x8n{Q:VK}{us:List Value}{vs:List V}(F:FnOk X.prog X.w X.K X.mg X.base CX k f fd ps sp)(hr:Room k X.A)(hb:Binds X.K fd ps ds)(hd:Vals dvs ds)(hx:PassX CX X EE)
  (I:Inv X pins σ H s)(r:Vals vs us)(h:sp (vs++dvs) H Q (EE σ)):wpAny (model X.prog X.w) X.A (call (.ref f) us) (EP X pins σ Q) X.xe s:=by
 have r2:Vals (vs++dvs) (us++ds):=r.append hd;have hl:(us++ds).length=ps.length:=by rw[<- r2.length];exact F.len _ _ _ _ h
 refine wpAny_call (codeAny_mono (F.run X.A X.stack s H ⟨us,[]⟩ (us++ds) (vs++dvs) Q (EE σ) hr I.env0 (hb s us I.kIn hl) r2 h) fun r s' hq=>?_)
 cases r with
 |error e=>exact hx pins σ H s e s' I hq
 |ok fl=>
  cases fl with
  |ret u=>exact I.after hq
  |next=>exact False.elim hq
  |brk=>exact False.elim hq
  |cont=>exact False.elim hq
theorem x6l(F:FnOk X.prog X.w X.K X.mg X.base CX k f fd ps sp)(hr:Room k X.A)(hg:Gl X x)(hm:X.mg x=some (.ref f))(hk:keepIn X.K (.ref f)=true)(hb:Binds X.K fd ps ds)(hd:Vals dvs ds)(hx:PassX CX X EE)
  (ha:PA X (e::es) t)(hdb:(x==("__debug__":Str))=false:=by decide)(he:starEach (e::es) X.env=(false,eval e X.env)::starEach es X.env:=by rfl)(hpl:(backTo pos (starEach es X.env)).any (·.1)=false:=by rfl):
  PE X (.Call (.Name x p) (e::es) [] pos) (tCallX sp dvs EE t):=by
 intro pins s σ H Q I h;refine wpAny_Call_Name_kw (q51 I hg hm ?_ hdb);refine PySem.W.callWith_K (h₀:=X.base) I.ok.mod.kin hk (thn (ha pos pins s σ H _ I h) fun us s1 ⟨vs,H1,I1,r,q⟩=>⟨I1.kIn,?_⟩) he hpl
 exact x8n F hr hb hd hx I1 r q
end
theorem Fun.okX{st:Stmt}(F:Fun K x qual st f fd)(S:FnScope N ps (defScope st))(len:∀vs H Q E,sp vs H Q E->vs.length=ps.length)
  (hbody:∀(cdv:Value)(A:Around)(outer:List Env)(s:Shared)(H:Hp)(vs:List V)(Q:VK)(E:XK),Room k (A.deeper (envOfC qual (defScope st) s.heap.objs.size f cdv))->sp vs H Q E ->
   ∃t,PSs (cxOf (CX1 P w) P w K mg base N qual (defScope st) f cdv A outer s H E) (defBody st) t/\t {nx:=fun _ H'=>Q .non H',rt:=Q} (start N vs) H):FnOk P w K mg base (CX1 P w) (k+1) f fd ps sp:=by
 obtain⟨oc,od,kV,doc,pm,an,cdv,ct,osl,rfl,lk,hcd⟩:=F.ex;exact y36 lk hcd S len fun A outer s H vs Q E hr hsp=>hbody cdv A outer s H vs Q E hr hsp
noncomputable def strKeysIn(K:PySem.W.Frag)(a:Addr):Bool:=match K.lookup a with
 |some ⟨_,_,.dict es _,_⟩=>es.toList.all fun e=>match e.key with|.str _ _=>true|_=>false
 |_=>false
noncomputable def noInitIn(K:PySem.W.Frag)(a:Addr):Bool:=strKeysIn K a&&PySem.W.nsIn K a "__init__"==some none
noncomputable abbrev veMro:List Value:=[.type "ValueError", .type "Exception", .type "BaseException", .type "object"]
noncomputable def excIn(K:PySem.W.Frag)(C A:Addr):Bool:=match K.lookup C,K.lookup A with
 |some ⟨.type "type", _,.cls cd,sl⟩,some ⟨_,_,.cls ca,_⟩=>(match sl.toList with
   |[_,_,_,_,some (.builtin n),_]=>n=="ValueError.__new__"&&cd.mro==(.ref C::.ref A::veMro)&&!cd.hasDel&&noInitIn K cd.ns&&noInitIn K ca.ns
   |_=>false)
 |_,_=>false
theorem q86(X:K.In h)(q:noInitIn K a=true):∃m,h.Ns a m/\m "__init__"=none:=by
 unfold noInitIn at q;rw[w0r]at q;obtain⟨q1,q2⟩:=q;unfold strKeysIn at q1;split at q1
 ·rename_i c d es n sl hl
  have hs:StrKeys es:=fun e he=>by
   have:=w0z.mp q1 e (by simpa using he);split at this
   ·rename_i k t hk;exact⟨_,_,hk⟩
   ·cases this
  refine⟨nsFind es,⟨_,es,n,X _ _ hl,rfl,hs,fun _=>rfl⟩,?_⟩
  have q2:=beq_iff_eq.mp q2;unfold PySem.W.nsIn at q2;rw[hl]at q2;dsimp only at q2;unfold nsFind findBy;rw[<- Array.find?_toList];split at q2
  ·cases q2
  ·rename_i he;rw[he];rfl
 ·cases q1
theorem q5k{C A:Addr}(X:K.In h)(q:excIn K C A=true):
  ∃nm qn N bs hdct sn sub ab col dd k0 k1 k2 k3 k5 mN,h.get? C=some (excClassObj nm qn C N bs (.ref A::veMro) hdct sn sub ab col dd k0 k1 k2 k3 k5 "ValueError.__new__")/\h.Ns N mN/\mN "__init__"=none/\OwnTail h veMro (.ref A::veMro):=by
 unfold excIn at q;split at q
 ·rename_i dd cd sl ca0 cad ca csl hC hA;split at q
  ·rename_i k0 k1 k2 k3 n k5 hs;simp only[w0r,beq_iff_eq,w2j]at q;obtain⟨⟨⟨⟨rfl,hm⟩,hdel⟩,hn⟩,hna⟩:=q;obtain⟨nm,bs,mro,ns,qn,hd,sn,sub,ab,col,del⟩:=cd;dsimp only at hm hdel hn;subst hm hdel
   have hsl:sl=#[k0,k1,k2,k3,some (.builtin "ValueError.__new__"),k5]:=by
    obtain⟨l⟩:=sl;simp only at hs;rw[hs]
   subst hsl;obtain⟨mN,hN,hi⟩:=q86 X hn;obtain⟨mA,hNA,hiA⟩:=q86 X hna;exact⟨nm,qn,ns,bs,hd,sn,sub,ab,col,dd,k0,k1,k2,k3,k5,mN,X _ _ hC,hN,hi,.own (X _ _ hA) hNA hiA .base⟩
  ·cases q
 ·cases q
def tRaise(C:Addr)(EE:St->XK)(t:TA):TS:=fun _ σ H=>t σ H fun vs H1=>vs.length<=sizeLine/\EE σ (.ref C) none H1
section
variable{C Ac:Addr}{EE:St->XK}{np cpos:Pos}
theorem x6m(hx:RaisX X EE)(hc:X.calm=true)(hg:Gl X x)(hm:X.mg x=some (.ref C))(hC:excIn X.K C Ac=true)(ha:PA X (e::es) t)
  (hdb:(x==("__debug__":Str))=false:=by decide)(he:starEach (e::es) X.env=(false,eval e X.env)::starEach es X.env:=by rfl)(hpl:(backTo cpos (starEach es X.env)).any (·.1)=false:=by rfl):
  PS X (.Raise (some (.Call (.Name x np) (e::es) [] cpos)) none pos) (tRaise C EE t):=by
 intro pins s σ H D I h;obtain⟨nm,qn,N,bs,hdct,sn,sub,ab,col,dd,k0,k1,k2,k3,k5,mN,hC1,hN,hi,T⟩:=q5k I.kIn hC
 have hpl2:(backTo cpos (starEach (e::es) X.env)).any (·.1)=false:=by
  rw[he];show(false||(backTo cpos (starEach es X.env)).any (·.1))=false;rw[hpl];rfl
 refine wpAny_Raise_call_subT (C:=C) (nm:=nm) (q:=qn) (N:=N) (bs:=bs) (bm:=.ref Ac::veMro) (hdct:=hdct) (sn:=sn) (sub:=sub) (ab:=ab) (col:=col) (dd:=dd) (k0:=k0) (k1:=k1) (k2:=k2) (k3:=k3) (k5:=k5)
  PySem.F.excBase_ValueError (mN:=mN) (by rfl) (I.ok.hd hc) hpl2 hi (q51 I hg hm ⟨rfl,?_⟩ hdb)
 have key:=ha cpos pins s σ H _ I h;rw[he]at key |-
 refine Calls.evalArgs_plain (wpAny_mono key (fun us s1 ⟨vs,H1,I1,r,hz,q⟩=>?_) fun _ _ y=>y)
 obtain⟨nm',qn',N',bs',hdct',sn',sub',ab',col',dd',k0',k1',k2',k3',k5',mN',hC1',hN',hi',T'⟩:=q5k I1.kIn hC;have kk:∀b o,X.base.get? b=some o->s1.heap.get? b=some o:=I1.bk
 have hCb:X.base.get? C=s1.heap.get? C:=by
  obtain⟨_,_,_,_,_,_,_,_,_,_,_,_,_,_,_,_,z,_⟩:=q5k I.ok.mod.kin hC;rw[z];exact(kk _ _ z).symm
 have hCs:s.heap.get? C=s1.heap.get? C:=by
  obtain⟨_,_,_,_,_,_,_,_,_,_,_,_,_,_,_,_,z,_⟩:=q5k I.ok.mod.kin hC;rw[I.bk _ _ z];exact(kk _ _ z).symm
 have hC2:s1.heap.get? C=some (excClassObj nm qn C N bs (.ref Ac::veMro) hdct sn sub ab col dd k0 k1 k2 k3 k5 "ValueError.__new__"):=hCs ▸ hC1;rw[hC2]at hC1';cases hC1';have em:mN' "__init__"=none:=hi'
 have hN2:s1.heap.Ns N mN:=by
  obtain⟨o1,es1,ep1,a1,a2,a3,a4⟩:=hN;obtain⟨_,_,N3,_,_,_,_,_,_,_,_,_,_,_,_,m3,z3,n3,_,_⟩:=q5k I.ok.mod.kin hC;have z4:=I.bk _ _ z3;rw[hC1]at z4;cases z4;obtain⟨o5,es5,ep5,b1,b2,b3,b4⟩:=n3;have c1:=I.bk _ _ b1;rw[a1]at c1;cases c1;exact⟨_,es1,ep1,I1.bk _ _ b1,a2,a3,a4⟩
 exact⟨rfl,by rw[<- r.length];exact hz,hC2,hN2,T',fun h' ea hme=>hx pins σ H1 s1 ea (.ref C) us h' I1 hme q⟩
end
noncomputable def excO(e:Addr)(cls:Value):HO:=.ext fun h=>∃o vs,h.get? e=some o/\o.cls=cls/\o.data=.fields vs
theorem x8o{e:Addr}(x:∃o vs,h.get? e=some o/\o.cls=cls/\o.data=.fields vs):ObjOk P w H h e (excO e cls):=by
 obtain⟨o,vs,h1,h2,h3⟩:=x;refine⟨⟨o,vs,h1,h2,h3⟩,⟨o,h1⟩,fun g1 g2 ⟨o',vs',q1,q2,q3⟩ k=>⟨o',vs',k o' q1,q2,q3⟩⟩
noncomputable abbrev Cx.tr(X:Cx)(pn:List (Addr×Obj))(xe:Value->Shared->Prop):Cx:={X with pn:=pn,xe:=xe}
noncomputable abbrev Cx.hn(X:Cx)(e:Addr):Cx:={X with A:=X.A.mark (some (.ref e)),calm:=false,xe:=fun _ _=>False}
section
variable{pins':List (Addr×Obj)}{xe:Value->Shared->Prop}{e:Addr}
theorem Cx.Ok.tr(ok:X.Ok)(pn:List (Addr×Obj))(xe:Value->Shared->Prop):(X.tr pn xe).Ok:=
 ⟨ok.mod,ok.kind,ok.glob,ok.blt,ok.above,ok.inj,ok.has,ok.cab,ok.hd,ok.frames,ok.stk,ok.exf,ok.bs,ok.bsz,ok.noex,ok.exfs,ok.funs,ok.frf,ok.tab⟩
theorem Cx.Ok.untr{pn:List (Addr×Obj)}(ok:(X.tr pn xe).Ok):X.Ok:=
 ⟨ok.mod,ok.kind,ok.glob,ok.blt,ok.above,ok.inj,ok.has,ok.cab,ok.hd,ok.frames,ok.stk,ok.exf,ok.bs,ok.bsz,ok.noex,ok.exfs,ok.funs,ok.frf,ok.tab⟩
theorem Cx.Ok.hn(ok:X.Ok)(e:Addr):(X.hn e).Ok:=
 ⟨ok.mod,ok.kind,ok.glob,ok.blt,ok.above,ok.inj,ok.has,ok.cab,(fun z=>nomatch z),ok.frames,ok.stk,ok.exf,ok.bs,ok.bsz,ok.noex,ok.exfs,ok.funs,ok.frf,ok.tab⟩
theorem Inv.tr(I:Inv X pins σ H s)(xe:Value->Shared->Prop):Inv (X.tr (X.pn++pins) xe) [] σ H s:=
 ⟨I.ok.tr _ xe,I.os,I.bare,I.base,I.loc,I.cell,I.free,I.freeC,fun p hp=>I.pin p (by simpa using hp),I.hok,I.len⟩
theorem Inv.untr(I:Inv (X.tr (X.pn++pins) xe) pins' σ H s):Inv X pins σ H s:=
 ⟨I.ok.untr,I.os,I.bare,I.base,I.loc,I.cell,I.free,I.freeC,fun p hp=>I.pin p (w2e _ hp),I.hok,I.len⟩
theorem Inv.hn(I:Inv X pins σ H s)(e:Addr):Inv (X.hn e) pins σ H s:=
 ⟨I.ok.hn e,I.os,I.bare,I.base,I.loc,I.cell,I.free,I.freeC,I.pin,I.hok,I.len⟩
theorem Inv.unhn(ok:X.Ok)(I:Inv (X.hn e) pins σ H s):Inv X pins σ H s:=
 ⟨ok,I.os,I.bare,I.base,I.loc,I.cell,I.free,I.freeC,I.pin,I.hok,I.len⟩
theorem Inv.forget{h':Heap}{m':Str->Option Value}{t:Nat}(I:Inv X pins σ H s)(hs:Heap.SameBut X.env.locals s.heap h')(hn':h'.Ns X.env.locals m'):Inv X pins (List.replicate X.N.length none) H {s with heap:=h',toks:=t}:=by
 obtain⟨m,hn,hl⟩:=id I.loc;obtain⟨oL,_,_,hoL,_⟩:=id hn
 have tracked:HOk X.prog X.w H h':=fun b ob e=>by
  refine(I.hok b ob e).stay (fun c w' hc q=>(hs.2 c ?_).trans q) (fun _ q=>q) fun _ _ _ q=>q
  rintro rfl;rcases hc with rfl|hc
  ·rw[I.free]at e;cases e
  ·rw[I.free]at hc;cases hc
 refine⟨I.ok,I.os,I.bare,⟨fun b o e n hb hx=>?_,fun b o e n hb hx=>?_,I.base.free,fun b o e hx=>?_,I.base.tups,I.base.frzs,I.base.tbls⟩,⟨m',hn',fun j y v' e1 e2 e3=>?_⟩,fun y c e=>?_,I.free,I.freeC,fun p hp=>?_,tracked,by simp⟩
 ·exact(hs.2 b (w0p (w0l (Heap.lt_size e) I.ok.above))).trans (I.base.keep b o e n hb hx)
 ·obtain⟨sl,e1⟩:=I.base.slot b o e n hb hx;exact⟨sl,(hs.2 b (w0p (w0l (Heap.lt_size e) I.ok.above))).trans e1⟩
 ·obtain⟨o',e1⟩:=I.base.there b o e hx;exact⟨o',(hs.2 b (w0p (w0l (Heap.lt_size e) I.ok.above))).trans e1⟩
 ·rw[w1m]at e2;split at e2<;>cases e2
 ·obtain⟨w',z⟩:=I.cell y c e;exact⟨w',z.sameBut hs (I.cne y c e)⟩
 ·obtain⟨e,n,ne,nf,d⟩:=I.pin p hp;exact⟨(hs.2 p.1 ne).trans e,n,ne,nf,d⟩
theorem Fly.un{h2 h3:Heap}(un:Un (frs l) [] H H' h1 h2)(fly:Fly l H H' h1 h2 e cls B)(fl:Heap.FlyingW B l e cls a0 h3)(up:h2.UpToSlots h3):Un (frs l) [] H H' h1 h3:=by
 obtain⟨a1,fl1⟩:=fly.fl;have ex0:∀b:Addr,b∉([]:List Addr):=fun b z=>nomatch z
 have slot:∀b o,h1.get? b=some o->H b=none->b∈frs l->∃sl,h3.get? b=some {o with slots:=sl}:=fun b o q n hb=>by
  obtain⟨sl,e1⟩:=un.slot b o q n hb (ex0 b);obtain⟨_,o2,e2,nd⟩:=fl1.2.2.1.mem hb;rw[e1]at e2;cases e2;obtain⟨sl',e3⟩:=up b _ e1 nd;exact⟨sl',e3⟩
 refine⟨fun b o q n hb hx=>fl.1 b o (fly.old b o q n hb),fun b o q n hb hx=>slot b o q n hb,un.free,fun b o q hx=>?_,un.tups,un.frzs,un.tbls⟩
 rcases fly.all b o q with hb|⟨o',z⟩
 ·obtain⟨_,o2,e2,nd⟩:=fl.2.2.1.mem hb;exact⟨o2,e2⟩
 ·exact⟨o',fl.1 b o' z⟩
theorem Fly.hok{h2 h3:Heap}(hok:HOk P w H' h2)(fly:Fly l H H' h1 h2 e cls B)(fl:Heap.FlyingW B l e cls a0 h3):HOk P w H' h3:=fun a o q=>by
 refine(hok a o q).stay (fun b u hb z=>?_) (fun _ z=>z) fun _ _ _ z=>z
 rcases hb with rfl|hb
 ·exact fl.1 _ _ (fly.trk b o u q z)
 ·exact fl.1 _ _ (fly.trk b _ u hb z)
theorem Fly.free{h2:Heap}(hok:HOk P w H' h2)(fly:Fly l H H' h1 h2 e cls B):H' e=none:=by
 obtain⟨a0,fl⟩:=fly.fl;cases q:H' e with
 |none=>rfl
 |some u=>
  obtain⟨o,z⟩:=(hok e u q).get;have:=fly.trk e u o q z;rw[fl.2.1]at this;cases this
theorem Un.taken{fs:List Addr}{h3:Heap}{o:HO}(un:Un fs [] H H' h1 h3)(new:h1.get? e=none)(fr:H' e=none):Un fs [] H (upd H' e o) h1 h3:=by
 refine⟨un.keep,un.slot,fun b ob q n hx=>?_,un.there,fun b xs q=>?_,fun b ob u q=>?_,fun b ps q=>?_⟩
 ·have:b≠e:=fun z=>by rw[z,new]at q;cases q
  rw[q0b this];exact un.free b ob q n hx
 ·have z:=un.tups b xs q;rw[q0b (q0j z fr)];exact z
 ·have z:=un.frzs b ob u q;rw[q0b (q0j z fr)];exact z
 ·obtain⟨more,z⟩:=un.tbls b ps q;exact⟨more,by rw[q0b (q0j z fr)];exact z⟩
theorem HOk.taken{o:HO}(hok:HOk P w H' h)(fr:H' e=none)(new:ObjOk P w (upd H' e o) h e o):HOk P w (upd H' e o) h:=fun b u q=>by
 by_cases hb:b=e
 ·subst hb;rw[q0g]at q;cases q;exact new
 ·rw[q0b hb]at q;exact(hok b u q).stay (fun _ _ _ z=>z) (fun c z=>by rw[q0b (q0j z fr)];exact z) fun c xs _ z=>by rw[q0b (q0j z fr)];exact z
end
def tTry(K:PySem.W.Frag)(c:Addr)(i n:Nat)(tb:(St->XK)->TS)(th:TS):TS:=fun D σ H=>
 tb (fun σ' cls _ H'=>exmOne K cls (.ref c)=some true/\∀e,H' e=none ->
  th {nx:=fun _ H''=>D.nx (List.replicate n none) H'',rt:=D.rt,bk:=fun _ H''=>D.bk (List.replicate n none) H'',ct:=fun _ H''=>D.ct (List.replicate n none) H''} (σ'.set i (some (.ref e))) (upd H' e (excO e cls))) D σ H
theorem y1d{body suite:List Stmt}{b₀:Stmt}{c n:Str}{i:Nat}{Cc:Addr}{np hpos:Pos}{tb:(St->XK)->TS}{th:TS}
  (hg:Gl X c)(hm:X.mg c=some (.ref Cc))(hN:X.N.Nodup)(hi:X.N[i]?=some n)(hx:X.env.scope.names.lookup n=some .local)
  (hb:∀(EE:St->XK)(pn:List (Addr×Obj))(xe:Value->Shared->Prop),PassX (CX1 X.prog X.w) (X.tr pn xe) EE->PSs (X.tr pn xe) body (tb EE))
  (hh:∀e:Addr,PSs (X.hn e) (b₀::suite) th)
  (hs:X.stack=X.env::X.outer:=by rfl)(hf:X.env.frame=some X.env.locals:=by rfl)(hdb:(c==("__debug__":Str))=false:=by decide):
  PS X (.Try body [.ExceptHandler (some (.Name c np)) (some n) (b₀::suite) hpos] [] [] pos) (tTry X.K Cc i X.N.length tb th):=by
 intro pins s σ H D I h;refine wpAny_Try_except (wpAny_mono (hb _ (X.pn++pins) _ ?pass [] s σ H D (I.tr _) h) (fun f s1 q=>?_) fun _ _ z=>z)
 case pass=>
  intro pins' σ' H1 s1 ev s2 I1 hx1;obtain⟨e,cls,H2,B,rfl,hos,hgn,un,hok,fly,hmt,hE⟩:=hx1;have I0:Inv X pins σ' H1 s1:=I1.untr;have un:Un (frs X.stack) [] H1 H2 s1.heap s2.heap:=un;have fly:Fly X.stack H1 H2 s1.heap s2.heap e cls B:=fly;have hfr:=fly.free hok;obtain⟨a0,fl⟩:=fly.fl;have fl':Heap.FlyingW B (X.env::X.outer) e cls a0 s2.heap:=hs ▸ fl;have fr':X.A.frames=some (X.env::X.outer):=hs ▸ I0.ok.frames;have noch:∀b∈([]:List Addr),(b∈X.ex\/X.s₀.heap.objs.size<=b)/\b≠X.env.locals/\(∀x c,X.env.cells.lookup x=some c->c≠b)/\∀p∈X.pn++pins,p.1≠b:=fun b z=>nomatch z
  have land:∀h5 tk,Heap.FlyingW B (X.env::X.outer) e cls a0 h5->s2.heap.UpToSlots h5->Inv X pins σ' H2 {s2 with heap:=h5,toks:=tk}:=fun h5 tk fl5 up5=>by
   have fl5':Heap.FlyingW B X.stack e cls a0 h5:=hs.symm ▸ fl5;exact I0.call' (s':={s2 with heap:=h5,toks:=tk}) (ch:=[]) hos (fly.un un fl5' up5) (fly.hok hok fl5') hgn noch
  refine wpAny_looks_onW (base:=B) fr' hf fl' fun h₄ held up₄=>?_
  refine wpAny_landsW held fun h₅ fl₅ up₅'=>?_
  have up₅:s2.heap.UpToSlots h₅:=up₄.trans up₅';have I5:=land h₅ s2.toks fl₅ up₅;refine wpAny_handleBy_cons (codeAny_handlers_test ?_) (by intro q;cases q);refine q51 (X:=X.hn e) (I5.hn e) hg hm ?_ hdb;obtain⟨ob,hob,hoc⟩:=fl₅.there;have LT:PySem.W.Looks (model X.prog X.w) h₅ (typeOf (.ref e)) cls:=hoc ▸ (PySem.W.Looks.ld hob).andThen .now;refine(PySem.W.exm_one (M:=model X.prog X.w) I5.kIn LT hmt).at ?_;show codeAny _ _ _ _ _;refine codeAny_handlers_suite_as ?_;refine lands_againW fl₅ fun h₆ fl₆ up₆'=>?_
  have up₆:s2.heap.UpToSlots h₆:=up₅.trans up₆';obtain⟨oe,ws,hoe,hoec,hoed,_⟩:=fl₆.first
  have fl6':Heap.FlyingW B X.stack e cls a0 h₆:=hs.symm ▸ fl₆
  have I7:Inv X pins σ' (upd H2 e (excO e cls)) {s2 with heap:=h₆}:=
   I0.call' (s':={s2 with heap:=h₆}) (ch:=[]) hos ((fly.un un fl6' up₆).taken fly.new hfr) ((fly.hok hok fl6').taken hfr (x8o ⟨oe,ws,hoe,hoec,hoed⟩)) hgn noch
  refine q6u (X:=X.hn e) (I7.hn e) hN hi (.inl hx) (v:=.ref e) rfl (fun s8 I8=>?_) (.inr hx)
  refine wpAny_mono (hh e pins s8 _ _ _ I8 (hE e hfr)) (fun f s9 q=>?_) fun _ _ z=>z.elim
  show wpAny _ _ _ _ _ _
  have go:∀{σ9:St}{H9:Hp},Inv (X.hn e) pins σ9 H9 s9->∀R:Unit->Shared->Prop,(∀s',Inv X pins (List.replicate X.N.length none) H9 s'->R () s')->wpAny (model X.prog X.w) X.A (do bindName X.env n .none;unbindBehindTheSuite X.env n hpos) R X.xe s9:=fun {σ9 H9} I9 R hR=>by
   obtain⟨m9,hn9,_⟩:=I9.loc;refine wpAny_nameGoes (env:=X.env) hx hn9 (by rw[I0.ok.kind];rfl) fun h' m' hn' hsb=>hR _ ?_
   exact(I9.unhn I0.ok).forget hsb hn'
  cases f with
  |next=>obtain⟨σ9,H9,I9,q⟩:=q;exact go I9 _ fun s' I'=>⟨_,H9,I',q⟩
  |brk=>obtain⟨σ9,H9,I9,q⟩:=q;exact go I9 _ fun s' I'=>⟨_,H9,I',q⟩
  |cont=>obtain⟨σ9,H9,I9,q⟩:=q;exact go I9 _ fun s' I'=>⟨_,H9,I',q⟩
  |ret u=>obtain⟨v,σ9,H9,I9,r,q⟩:=q;exact go I9 _ fun s' I'=>⟨v,_,H9,I',r,q⟩
 ·cases f with
  |next=>obtain⟨σ',H',I',q⟩:=q;exact wpAny_execs_nil ⟨σ',H',I'.untr,q⟩
  |brk=>obtain⟨σ',H',I',q⟩:=q;exact⟨σ',H',I'.untr,q⟩
  |cont=>obtain⟨σ',H',I',q⟩:=q;exact⟨σ',H',I'.untr,q⟩
  |ret u=>obtain⟨v,σ',H',I',r,q⟩:=q;exact⟨v,σ',H',I'.untr,r,q⟩
structure RoomH(k:Nat)(A:Around):Prop where
 dp:A.depth+3*k+5<recursionLimit
 un:A.units+16*k+200<cLine
 gd:A.guards=some []
structure FnOkH(P:Program)(w:World)(K:PySem.W.Frag)(mg:Str->Option Value)(base:Heap)(k:Nat)(f:Addr)(fd:FuncData)(ps:List Str)(sp:Sp):Prop where
 len:∀vs H Q E,sp vs H Q E->vs.length=ps.length
 run:∀(A:Around)(outer:List Env)(s:Shared)(H:Hp)(args:Args)(us:List Value)(vs:List V)(Q:VK),RoomH k A->Env0 P w K mg base A outer s H->BindsTo s fd args (ps.zip us)->Vals vs us->sp vs H Q E0 ->
  codeAny (model P w) A (.call (.ref f) args) (CR CX0 outer P w H s Q E0) s
noncomputable abbrev Cx.cp(X:Cx)(Nc:List Str)(scope:Scope)(cl:List (Str×Addr))(C:Addr)(s₀:Shared)(H₀:Hp)(ex:List Addr):Cx:=
 {X with N:=Nc,s₀:=s₀,H₀:=H₀,env:=compEnvC scope cl C X.env,outer:=X.stack,ex:=ex,fn:=fun _=>false,pn:=[],xe:=fun _ _=>False}
theorem q30:∀(names:List (Str×NameKind))(acc:List (Str×Addr)),(∀x∈names,x.2=.free->∃c,env.cells.lookup x.1=some c) ->
  ∃cl,(forIn names acc fun(x:Str×NameKind) (r:List (Str×Addr))=>(if(x.2==NameKind.free)=true then(cellOf env x.1 >>= fun a=>pure (ForInStep.yield ((x.1,a)::r)))else pure (ForInStep.yield r):Sem (ForInStep (List (Str×Addr)))))=pure cl /\
   (∀x c,cl.lookup x=some c->acc.lookup x=some c\/env.cells.lookup x=some c)/\(∀x,((x,NameKind.free)∈names\/(acc.lookup x).isSome=true)->(cl.lookup x).isSome=true)
 |[],acc,_=>⟨acc,rfl,fun x c h=>.inl h,fun x h=>h.elim (fun z=>nomatch z) id⟩
 |(n,k)::r,acc,h=>by
  by_cases hk:k=.free
  ·subst hk;obtain⟨c,hc⟩:=h (n,.free) w1c rfl;obtain⟨cl,e1,e2,e3⟩:=q30 r ((n,c)::acc) fun x hx=>h x (w0t _ hx)
   refine⟨cl,?_,fun x d hd=>?_,fun x hx=>?_⟩
   ·rw[w2g];have:cellOf env n=pure c:=by unfold cellOf;rw[hc]
    simp only[beq_self_eq_true,if_true,this,pure_bind];exact e1
   ·rcases e2 x d hd with z|z
    ·rw[w0x]at z
     by_cases hx:(x==n)=true
     ·rw[hx]at z;have:x=n:=by simpa using hx
      subst this;cases z;exact .inr hc
     ·rw[w1s.mpr hx]at z;exact .inl z
    ·exact .inr z
   ·refine e3 x ?_;rcases hx with z|z
    ·rcases w0s.mp z with y|y
     ·cases y;exact .inr (by rw[w0x];simp)
     ·exact .inl y
    ·refine .inr ?_;rw[w0x]
     by_cases hx:(x==n)=true
     ·rw[hx];rfl
     ·rw[w1s.mpr hx];exact z
  ·obtain⟨cl,e1,e2,e3⟩:=q30 r acc fun x hx=>h x (w0t _ hx)
   refine⟨cl,?_,e2,fun x hx=>e3 x ?_⟩
   ·rw[w2g];have:(k==NameKind.free)=false:=by simpa using hk
    simp only[this,w1w,if_false,pure_bind];exact e1
   ·rcases hx with z|z
    ·rcases w0s.mp z with y|y
     ·cases y;exact absurd rfl hk
     ·exact .inl y
    ·exact .inr z
theorem q7g{scope:Scope}(h:∀x∈scope.names,x.2=.free->∃c,env.cells.lookup x.1=some c):
  ∃cl,closureFor scope env=pure cl/\(∀x c,cl.lookup x=some c->env.cells.lookup x=some c)/\∀x,(x,NameKind.free)∈scope.names->∃c,cl.lookup x=some c:=by
 obtain⟨cl,e1,e2,e3⟩:=q30 scope.names [] h;refine⟨cl,?_,fun x c hc=>(e2 x c hc).resolve_left (fun z=>nomatch z),fun x hx=>w3a.mp (e3 x (.inl hx))⟩
 unfold closureFor
 first
  |exact e1
  |(rw[e1];rfl)
  |(simp only[e1];rfl)
theorem q5l{env : Env} : ∀ {names : List (Str × NameKind)} {x : Str}, (∀ y ∈ names, y.2 ≠ .cell) ->
    ((names.map fun (n, k) => if (k == NameKind.free && env.scope.kind == .function && env.kindOf n == some .cell) then (n, NameKind.cell) else (n, k)).lookup x = some .cell \/
     (names.map fun (n, k) => if (k == NameKind.free && env.scope.kind == .function && env.kindOf n == some .cell) then (n, NameKind.cell) else (n, k)).lookup x = some .free) -> (x, NameKind.free) ∈ names
  | [], x, _, h => by rcases h with h | h <;> cases h
  | (n, k) :: r, x, hc, h => by
    have ih := @q5l env r x fun y hy => hc y (w0t _ hy)
    rw [w0n] at h;dsimp only at h
    by_cases hx : (x == n) = true
    . have e : x = n := by simpa using hx
      subst e
      by_cases hk : k = .free
      . subst hk; exact w1c
      . exfalso
        have hb : (k == NameKind.free) = false := by simpa using hk
        simp only [hb, Bool.false_and, w1w, if_false, w0x, hx] at h;rcases h with h | h
        . exact hc (x, k) w1c (Option.some.inj h)
        . exact hk (Option.some.inj h)
    . refine w0t _ (ih ?_)
      have hb : (x == n) = false := w1s.mpr hx
      by_cases hq : (k == NameKind.free && env.scope.kind == .function && env.kindOf n == some .cell) = true
      . rw [if_pos hq] at h
        simpa only [w0x, hb] using h
      . rw [if_neg hq] at h
        simpa only [w0x, hb] using h
theorem q87{prog:Program}{A:Around}{R:Result->Shared->Prop}{elt target iter:Expr}{scope:Scope}{it acc:Value}(I:Nat->Shared->Prop)
  (turn:∀n s,I n s->wpAny (model prog w) A (pyNext it) (fun r s1=>match r with
   |none=>R (.ok .next) s1
   |some v=>wpAny (model prog w) A (letOwnedTupleGo target it v) (fun _ s2=>wpAny (model prog w) A (assign target env v) (fun _ s3=>
     wpAny (model prog w) A (forIn ifs true fun c r=>if r=true then do let ok <- isTrue c env (eval c env);pure (ForInStep.yield ok)else pure (ForInStep.yield r)) (fun ok s4=>
      if ok=true then wpAny (model prog w) A (eval elt env) (fun x s5=>wpAny (model prog w) A (call (.builtin "list.append") [acc,x]) (fun _ s6=>∃m,m<n/\I m s6) (fun _ _=>False) s5) (fun _ _=>False) s4
      else ∃m,m<n/\I m s4) (fun _ _=>False) s3) (fun _ _=>False) s2) (fun _ _=>False) s1) (fun _ _=>False) s)
  (n:Nat)(h:I n s):codeAny (model prog w) A (.compLoop (.ListComp elt [⟨target,iter,ifs,0⟩] scope pos) 0 it acc env) R s:=by
 refine codeAny_loop rfl I (fun n s hI=>?_) n h
 show wpAny _ A ((compTurn (.ListComp elt [⟨target,iter,ifs,0⟩] scope pos) 0 it acc env).onRaise (fun x=>do noteFrame x env;theTreesLotGoes x)) _ _ s
 refine wpAny_noted ?_;rw[compTurn_list];refine wpAny_bind (wpAny_standAt (wpAny_bind (wpAny_mono (turn n s hI) (fun r s1 h1=>?_) fun _ _ z=>z.elim)))
 cases r with
 |none=>exact wpAny_pure h1
 |some v=>
  refine wpAny_bind (wpAny_mono h1 (fun _ s2 h2=>?_) fun _ _ z=>z.elim)
  refine wpAny_bind (wpAny_mono h2 (fun _ s3 h3=>?_) fun _ _ z=>z.elim)
  refine wpAny_bind (wpAny_mono h3 (fun ok s4 h4=>?_) fun _ _ z=>z.elim)
  cases ok with
  |false=>exact wpAny_pure ⟨rfl,h4⟩
  |true=>exact wpAny_bind (wpAny_bind (wpAny_mono h4 (fun x s5 h5=>wpAny_bind (wpAny_mono h5 (fun _ s6 h6=>wpAny_pure (wpAny_pure ⟨rfl,h6⟩)) fun _ _ z=>z.elim)) fun _ _ z=>z.elim))
noncomputable def pj(js:List Nat)(σ:St):St:=js.map fun j=>(σ[j]?).getD none
theorem y1e{i:Nat}(h:(pj js σ)[i]?=some (some v)):∃j,js[i]?=some j/\σ[j]?=some (some v):=by
 unfold pj at h;rw[w1a]at h;cases e:js[i]? with
 |none=>rw[e]at h;cases h
 |some j=>
  rw[e]at h;have h:(σ[j]?).getD none=some v:=Option.some.inj h;refine⟨j,rfl,?_⟩;cases e2:σ[j]? with
  |none=>rw[e2]at h;cases h
  |some z=>rw[e2]at h;rw[show z=some v from h]
def PTs(X:Cx)(ifs:List Expr)(t:TT):Prop:=
 ∀(pins:List (Addr×Obj))(s:Shared)(σ:St)(H:Hp)(Q:Bool->Hp->Prop),Inv X pins σ H s->t σ H Q ->
  wpAny (model X.prog X.w) X.A (forIn ifs true fun c r=>if r=true then do let ok <- isTrue c X.env (eval c X.env);pure (ForInStep.yield ok)else pure (ForInStep.yield r)) (TP X pins σ Q) X.xe s
def tYes:TT:=fun _ H Q=>Q true H
theorem x8p:PTs X [] tYes:=fun pins s σ H Q I h=>wpAny_tests_nil ⟨H,I,h⟩
theorem x8q{c:Expr}{t:TT}(h:PT X c t):PTs X [c] t:=fun pins s σ H Q I hq=>wpAny_tests_one (h pins s σ H Q I hq)
def Kp(σ σ':St):Prop:=∀(i:Nat) v,σ[i]?=some (some v)->σ'[i]?=some (some v)
theorem Kp.one:Kp (List.replicate 1 none++σ) (some v::σ):=fun i u h=>by
 cases i with
 |zero=>cases h
 |succ i=>exact h
theorem Kp.two{u:V}:Kp (List.replicate 2 none++σ) (some v::some u::σ):=fun i w h=>by
 match i,h with
 |0,h=>cases h
 |1,h=>cases h
 |i+2,h=>exact h
def tComp(wi:TI)(nl:Nat)(js:List Nat)(g:TG)(tc:TT)(te:TE):TE:=fun σ H Q=>wi σ H fun J H1=>∀D,H1 D=none->∃W:Nat->Nat->Hp->Prop,(∃m,W 0 m (upd H1 D (.lst [])))/\∀i m H2,W i m H2 ->
 (J.stop i H2/\Q (.ref D) H2)\/(J.go i H2/\∀x H3,J.yld i H2 x H3->g x (List.replicate nl none++pj js σ) H3 fun σ4 H4=>Kp (List.replicate nl none++pj js σ) σ4/\tc σ4 H4 fun b H5=>
  if b=true then te σ4 H5 fun y H6=>∃ys,H6 D=some (.lst ys)/\ys.length<sizeLine/\∃m',m'<m/\W (i+1) m' (upd H6 D (.lst (ys++[y])))else ∃m',m'<m/\W (i+1) m' H5)
section
variable{elt target iter:Expr}{scope:Scope}{wi:TI}{g:TG}{tc:TT}
theorem x0d{Nl Nf:List Str}{fp:List Addr}{cl:List (Str×Addr)}{tk:Nat}{mC:Str->Option Value}
  (I:Inv X pins σ H s)(hfp:∀b∈fp,FpOk X pins H b)(hob:∀b∈fp,∃o,s.heap.get? b=some o/\∀v,o.data≠.cell v)
  (hk:scope.kind=.function)(hcell:∀y∈scope.names,y.2≠.cell)(hcl:∀x c,cl.lookup x=some c->X.env.cells.lookup x=some c)(hcf:∀x,(x,NameKind.free)∈scope.names->∃c,cl.lookup x=some c)
  (hj:∀(i j:Nat) y,Nf[i]?=some y->js[i]?=some j->X.N[j]?=some y)(hlen:js.length=Nf.length)
  (hNf:∀y∈Nf,(y,NameKind.free)∈scope.names/\Vis X.env.scope y/\X.env.kindOf y≠some .local)
  (hvis:∀y∈Nf,(relabel scope X.env).names.lookup y=some .cell\/(relabel scope X.env).names.lookup y=some .free)
  (hn:h1.Ns (s.heap.objs.size+1) mC)(hs:Heap.SameBut (s.heap.objs.size+1) ((s.heap.push {cls:=.type "list", dict:=none,data:=.seq ([]:List Value).toArray}).push {cls:=.type "dict", data:=.dict #[]}) h1):
  Inv (X.cp (Nl++Nf) scope cl (s.heap.objs.size+1) {s with heap:=s.heap.push {cls:=.type "list", dict:=none,data:=.seq ([]:List Value).toArray}} (upd H s.heap.objs.size (.lst [])) fp) [] (List.replicate Nl.length none++pj js σ) (upd H s.heap.objs.size (.lst [])) {s with heap:=h1,toks:=tk}:=by
 have fD:H s.heap.objs.size=none:=I.hok.fresh (w0d _);have up1:∀b u,s.heap.get? b=some u->(s.heap.push {cls:=.type "list", dict:=none,data:=.seq ([]:List Value).toArray}).get? b=some u:=fun b u q=>Heap.get?_push_of_some _ q
 have szp:(s.heap.push {cls:=.type "list", dict:=none,data:=.seq ([]:List Value).toArray}).objs.size=s.heap.objs.size+1:=Heap.size_push ..
 have up2:∀b u,(s.heap.push {cls:=.type "list", dict:=none,data:=.seq ([]:List Value).toArray}).get? b=some u->h1.get? b=some u:=fun b u q=>by
  have hlt:=Heap.lt_size q;rw[szp]at hlt;exact(hs.2 b (w0p hlt)).trans (Heap.get?_push_of_some _ q)
 have up:∀b u,s.heap.get? b=some u->h1.get? b=some u:=fun b u q=>up2 b u (up1 b u q)
 have ltOf:∀b o,s.heap.get? b=some o->b≠s.heap.objs.size:=fun b o q=>w0p (Heap.lt_size q)
 have fr0:∀b o,s.heap.get? b=some o->H b=none->upd H s.heap.objs.size (.lst []) b=none:=fun b o q n=>by rw[q0b (ltOf b o q)];exact n
 have hasC:∀x,((relabel scope X.env).names.lookup x=some .cell\/(relabel scope X.env).names.lookup x=some .free)->∃c,cl.lookup x=some c:=fun x hx=>hcf x (q5l hcell hx)
 have hokD:HOk X.prog X.w (upd H s.heap.objs.size (.lst [])) (s.heap.push {cls:=.type "list", dict:=none,data:=.seq ([]:List Value).toArray}):=
  I.hok.laid up1 (w0d _) ⟨w1h _,[],_,.nil,Heap.get?_push_size _ rfl⟩
 have cellK:∀x c,cl.lookup x=some c->∃v,s.heap.IsCell c v:=fun x c e=>I.cell x c (hcl x c e)
 have cellUp:∀c v,s.heap.IsCell c v->h1.IsCell c v:=fun c v ⟨o,q,r⟩=>⟨o,up _ _ q,r⟩
 refine⟨⟨I.ok.mod,hk,I.ok.glob,I.ok.blt,(by show(s.heap.push _).objs.size<=_;rw[szp];exact w0d _),fun x y c e1 e2=>I.ok.inj x y c (hcl x c e1) (hcl y c e2),fun x hx=>hasC x hx,(fun x c z=>nomatch z),I.ok.hd,I.ok.frames,.inl rfl,fun b hb=>⟨?_,fun x c e=>?_⟩,fun b o q=>?_,?_,fun b o q hb=>?_,fun b hb hb2=>?_,?_,fun b hb=>?_,(I.ok.tab.un I.base).laid fD⟩,
  rfl,I.bare,Un.kept up2,⟨mC,hn,fun i y v e1 e2 e3=>?_⟩,fun x c e=>?_,?_,fun x c e=>?_,fun p hp=>(by cases hp),hokD.kept up2,?_⟩
 ·obtain⟨o,q,_⟩:=hob b hb;exact w0p (w2k (Heap.lt_size q))
 ·exact(hfp b hb).2.2.2.2.1 x c (hcl x c e)
 ·obtain⟨q1,q2⟩:=I.bs b o q;exact⟨up1 _ _ q1,fr0 b o q1 q2⟩
 ·show X.base.objs.size<=(s.heap.push _).objs.size;rw[szp];exact Nat.le_succ_of_le (w0j I.ok.bsz I.sz)
 ·rcases(hfp b hb).2.2.2.1 with z|z
  ·exact I.ok.noex b o q z
  ·obtain⟨q1,_⟩:=I.ok.bs b o q;exact absurd (Heap.lt_size q1) (Nat.not_lt.mpr z)
 ·rcases w0s.mp (I.stkSub b hb2)with z|z
  ·exact(hfp b hb).2.1 z
  ·exact(hfp b hb).2.2.1 z
 ·exact I.stack.of_keeps fun b o q _=>⟨o,up1 _ _ q,rfl⟩
 ·obtain⟨_,o,q,_⟩:=I.stack.mem hb;exact fr0 b o q (I.stkFree b hb)
 ·-- the names
  have e2':(List.replicate Nl.length none++pj js σ)[i]?=some (some v):=e2;have e1':(Nl++Nf)[i]?=some y:=e1
  by_cases hi:i<Nl.length
  ·rw[w2f (by simpa using hi),w1m]at e2';split at e2'<;>cases e2'
  ·have hi':Nl.length<=i:=Nat.not_lt.mp hi;rw[w2d (by simpa using hi')]at e2';rw[w2d hi']at e1';rw[w2l]at e2';obtain⟨j,ej,eσ⟩:=y1e e2';have hNy:=hj _ _ _ e1' ej;obtain⟨hfr,hv,hnl⟩:=hNf y (w0u e1');obtain⟨m,hm,hl⟩:=I.loc;obtain⟨u,r,l⟩:=hl j y v hNy eσ hv;refine⟨u,r,?_⟩;rcases l with⟨k,_⟩|⟨k,c,ec,z⟩
   ·exact absurd k hnl
   ·obtain⟨c',ec'⟩:=hcf y hfr;have:=hcl y c' ec';rw[ec]at this;cases this;exact .inr ⟨hvis y (w0u e1'),c,ec',cellUp _ _ z⟩
 ·obtain⟨v,z⟩:=cellK x c e;exact⟨v,cellUp _ _ z⟩
 ·show upd H s.heap.objs.size (.lst []) (s.heap.objs.size+1)=none;rw[q0b (Nat.succ_ne_self _)];exact I.hok.fresh (w3o _)
 ·obtain⟨v,o,q,_⟩:=cellK x c e;exact fr0 c o q (I.freeC x c (hcl x c e))
 ·show(List.replicate Nl.length none++pj js σ).length=(Nl++Nf).length;rw[w0k,w0k,w2l];unfold pj;rw[w0a,hlen]
theorem x4c{σ':St}{s':Shared}{Nc:List Str}{fp:List Addr}{cl:List (Str×Addr)}{h':Heap}
  (I:Inv X pins σ H s)(hfp:∀b∈fp,FpOk X pins H b)
  (J:Inv (X.cp Nc scope cl (s.heap.objs.size+1) {s with heap:=s.heap.push {cls:=.type "list", dict:=none,data:=.seq ([]:List Value).toArray}} (upd H s.heap.objs.size (.lst [])) fp) [] σ' H' s')
  (hs:Heap.SameBut (s.heap.objs.size+1) s'.heap h'):Inv X pins σ H' {s' with heap:=h'}:=by
 have fD:H s.heap.objs.size=none:=I.hok.fresh (w0d _);have up1:∀b u,s.heap.get? b=some u->(s.heap.push {cls:=.type "list", dict:=none,data:=.seq ([]:List Value).toArray}).get? b=some u:=fun b u q=>Heap.get?_push_of_some _ q
 have neC:∀b o,s.heap.get? b=some o->b≠s.heap.objs.size+1:=fun b o q=>w0p (w2k (Heap.lt_size q))
 have fr0:∀b o,s.heap.get? b=some o->H b=none->upd H s.heap.objs.size (.lst []) b=none:=fun b o q n=>by rw[q0b (w0p (Heap.lt_size q))];exact n
 have old:∀b u,H b=some u->upd H s.heap.objs.size (.lst []) b=some u:=fun b u q=>by rw[q0b (q0j q fD)];exact q
 have B:Un (frs X.stack) fp (upd H s.heap.objs.size (.lst [])) H' (s.heap.push {cls:=.type "list", dict:=none,data:=.seq ([]:List Value).toArray}) s'.heap:=J.base;have hC:H' (s.heap.objs.size+1)=none:=J.free;refine I.call' (s':={s' with heap:=h'}) (ch:=fp) (J.os.trans rfl) ⟨fun b o q n hb hx=>?_,fun b o q n hb hx=>?_,fun b o q n hx=>B.free b o (up1 _ _ q) (fr0 b o q n) hx,fun b o q hx=>?_,fun b xs q=>B.tups b xs (old _ _ q),fun b o u q=>B.frzs b o u (old _ _ q),fun b ps q=>B.tbls b ps (old _ _ q)⟩ (fun a o q=>?_) J.bare fun b hb=>?_
 ·exact(hs.2 b (neC b o q)).trans (B.keep b o (up1 _ _ q) (fr0 b o q n) hb hx)
 ·obtain⟨sl,z⟩:=B.slot b o (up1 _ _ q) (fr0 b o q n) hb hx;exact⟨sl,(hs.2 b (neC b o q)).trans z⟩
 ·obtain⟨o',z⟩:=B.there b o (up1 _ _ q) hx;exact⟨o',(hs.2 b (neC b o q)).trans z⟩
 ·refine(J.hok a o q).stay (fun c v hc z=>(hs.2 c ?_).trans z) (fun _ z=>z) fun _ _ _ z=>z
  rintro rfl;rcases hc with rfl|hc
  ·rw[hC]at q;cases q
  ·rw[hC]at hc;cases hc
 ·obtain⟨_,f1,f2,f3,f4,f5⟩:=hfp b hb;exact⟨f3,f1,f4,f5⟩
theorem x8r{Nl Nf:List Str}(hc:X.calm=true)(hi:PI X target iter wi)
  (hk:scope.kind=.function)(hcell:∀y∈scope.names,y.2≠.cell)(hnames:∀x∈scope.names,x.2=.local->scope.names.lookup x.1=some .local)
  (hfree:∀x∈scope.names,x.2=.free->X.env.kindOf x.1=some .cell\/X.env.kindOf x.1=some .free)
  (hj:∀(i j:Nat) y,Nf[i]?=some y->js[i]?=some j->X.N[j]?=some y)(hlen:js.length=Nf.length)
  (hNf:∀y∈Nf,(y,NameKind.free)∈scope.names/\Vis X.env.scope y/\X.env.kindOf y≠some .local)
  (hvis:∀y∈Nf,(relabel scope X.env).names.lookup y=some .cell\/(relabel scope X.env).names.lookup y=some .free)
  (hg:∀cl C s₀ H₀ ex,PG (X.cp (Nl++Nf) scope cl C s₀ H₀ ex) target g)(ht:∀cl C s₀ H₀ ex,PTs (X.cp (Nl++Nf) scope cl C s₀ H₀ ex) ifs tc)(he:∀cl C s₀ H₀ ex,PE (X.cp (Nl++Nf) scope cl C s₀ H₀ ex) elt te)
  (hs:∀x,foldedSetIterable iter X.env x=pure x:=by intro _;rfl):
  PE X (.ListComp elt [⟨target,iter,ifs,0⟩] scope pos) (tComp wi Nl.length js g tc te):=by
 intro pins s σ H Q I h;obtain⟨cl,hclos,hcl,hcf⟩:=q7g (scope:=scope) (env:=X.env) fun x hx hf=>I.ok.has x.1 (hfree x hx hf)
 rw[eval_ListComp];refine wpAny_comprehension_free (use:=none) rfl hs hclos hk hnames (thn (hi pins s σ H _ I h) fun v s1 h1=>thn h1 fun itv s2 h2=>?_)
 obtain⟨it,fp,tn,J,H2,e,I2,T,st2,f2,rd⟩:=h2;subst e;refine wpAny_newObj_type (wpAny_newFunctionEnv hcell (by intro y hy;simp at hy) (fun h₁ hns₁ hsb₁=>?_) hk)
 dsimp only at hns₁ hsb₁ |-
 have szp:(s2.heap.push {cls:=.type "list", dict:=none,data:=.seq ([]:List Value).toArray}).objs.size=s2.heap.objs.size+1:=Heap.size_push ..;rw[szp]at hns₁ hsb₁ |-
 have fD:H2 s2.heap.objs.size=none:=I2.hok.fresh (w0d _);obtain⟨W,⟨m0,w0⟩,turn⟩:=rd s2.heap.objs.size fD;have obj2:=T.obj 0 s2.heap st2;have IS:=x0d (Nl:=Nl) (Nf:=Nf) (js:=js) (cl:=cl) (tk:=s2.toks+([]:List (Str×Value)).length) I2 f2 obj2 hk hcell hcl hcf hj hlen hNf hvis hns₁ hsb₁
 have upS:∀b u,s2.heap.get? b=some u->h₁.get? b=some u:=fun b u q=>by
  have hlt:=Heap.lt_size q;exact(hsb₁.2 b (w0p (w2k hlt))).trans (Heap.get?_push_of_some _ (Heap.get?_push_of_some _ q))
 have stS:tn 0 h₁:=T.keep 0 s2.heap h₁ st2 fun b hb o q=>upS b o q
 have noD:∀b∈fp,upd H2 s2.heap.objs.size (.lst []) b=none:=fun b hb=>by
  obtain⟨o,q,_⟩:=obj2 b hb;rw[q0b (w0p (Heap.lt_size q))];exact(f2 b hb).1
 have stat:∀{H':Hp},(∀b∈fp,H' b=none)->∀b∈fp,FpOk (X.cp (Nl++Nf) scope cl (s2.heap.objs.size+1) {s2 with heap:=s2.heap.push {cls:=.type "list", dict:=none,data:=.seq ([]:List Value).toArray}} (upd H2 s2.heap.objs.size (.lst [])) fp) [] H' b:=fun hn b hb=>by
  refine⟨hn b hb,(IS.ok.exf b hb).1,IS.ok.exfs b hb,.inl hb,(IS.ok.exf b hb).2,fun p hp=>(by cases hp)⟩
 have loop:∀s4:Shared,s4={s2 with heap:=h₁,toks:=s2.toks+([]:List (Str×Value)).length} ->
   codeAny (model X.prog X.w) X.A (.compLoop (.ListComp elt [⟨target,iter,ifs,0⟩] scope pos) 0 (.ref it) (.ref s2.heap.objs.size) (compEnvC scope cl (s2.heap.objs.size+1) X.env))
    (compPost (model X.prog X.w) X.A X.xe none (EP X pins σ Q) (.ref s2.heap.objs.size) (s2.heap.objs.size+1)) s4:=by
  rintro s4 rfl;refine q87 (fun n s'=>∃i H',Inv (X.cp (Nl++Nf) scope cl (s2.heap.objs.size+1) {s2 with heap:=s2.heap.push {cls:=.type "list", dict:=none,data:=.seq ([]:List Value).toArray}} (upd H2 s2.heap.objs.size (.lst [])) fp) [] (List.replicate Nl.length none++pj js σ) H' s'/\tn i s'.heap/\(∀b∈fp,H' b=none)/\W i n H') ?_ m0 ⟨0,_,IS,stS,noD,w0⟩
  rintro n s3 ⟨i,H3,I3,st3,fr3,w3⟩;rcases turn i n H3 w3 with⟨stop,qn⟩|⟨go,step⟩
  ·refine thn (T.done (X.cp (Nl++Nf) scope cl (s2.heap.objs.size+1) {s2 with heap:=s2.heap.push {cls:=.type "list", dict:=none,data:=.seq ([]:List Value).toArray}} (upd H2 s2.heap.objs.size (.lst [])) fp) rfl rfl rfl hc i [] s3 _ H3 _ I3 (stat fr3) st3 stop) fun r s5 ⟨hr,I5⟩=>?_
   subst hr;obtain⟨m5,hn5,_⟩:=I5.loc;refine⟨m5,hn5,fun h' hs'=>⟨.ref s2.heap.objs.size,H3,x4c I2 f2 I5 hs',rfl,qn⟩⟩
  ·refine thn (T.item (X.cp (Nl++Nf) scope cl (s2.heap.objs.size+1) {s2 with heap:=s2.heap.push {cls:=.type "list", dict:=none,data:=.seq ([]:List Value).toArray}} (upd H2 s2.heap.objs.size (.lst [])) fp) rfl rfl rfl hc i [] s3 _ H3 _ I3 (stat fr3) st3 go) fun r s5 ⟨u,hr,h5⟩=>?_
   subst hr;refine thn h5 fun _ s6 ⟨x,H6,I6,r6,y6,st6,fr6⟩=>?_
   have I6':=I6.pinned (stat fr6) (T.obj _ _ st6);refine thn (hg _ _ _ _ _ _ s6 _ H6 x u _ I6' r6 (step x H6 y6)) fun _ s7 ⟨σ7,H7,I7,kp,q7⟩=>?_
   refine thn (ht _ _ _ _ _ _ s7 σ7 H7 _ I7 q7) fun ok s8 ⟨H8,I8,q8⟩=>?_
   have again:∀{σ9:St}{H9:Hp}{s9:Shared},Inv (X.cp (Nl++Nf) scope cl (s2.heap.objs.size+1) {s2 with heap:=s2.heap.push {cls:=.type "list", dict:=none,data:=.seq ([]:List Value).toArray}} (upd H2 s2.heap.objs.size (.lst [])) fp) ([]++pinsAt fp s6.heap) σ9 H9 s9 ->
     Kp (List.replicate Nl.length none++pj js σ) σ9->(∃m',m'<n/\W (i+1) m' H9)->∃m,m<n/\∃i H',Inv (X.cp (Nl++Nf) scope cl (s2.heap.objs.size+1) {s2 with heap:=s2.heap.push {cls:=.type "list", dict:=none,data:=.seq ([]:List Value).toArray}} (upd H2 s2.heap.objs.size (.lst [])) fp) [] (List.replicate Nl.length none++pj js σ) H' s9/\tn i s9.heap/\(∀b∈fp,H' b=none)/\W i m H':=fun {σ9 H9 s9} I9 hw ⟨m',hm,w9⟩=>by
    refine⟨m',hm,i+1,H9,I9.unpinned.weak (by rw[I9.len,<- IS.len]) hw,T.keep _ _ _ st6 fun b hb o q=>(I9.pin (b,o) (w0h _ (w0h _ (q2h hb q)))).1,fun b hb=>?_,w9⟩
    obtain⟨o,q,d⟩:=T.obj _ _ st6 b hb;exact(I9.pin (b,o) (w0h _ (w0h _ (q2h hb q)))).2.1
   cases ok with
   |false=>exact again I8 kp (by simpa using q8)
   |true=>
    have q8':=by simpa only[if_true]using q8
    refine thn (he _ _ _ _ _ _ s8 σ7 H8 _ I8 q8') fun y s9 ⟨yv,H9,I9,r9,ys,hD,hz,q9⟩=>?_
    refine thn (q5j _ s9 σ7 H9 (.ref s2.heap.objs.size) [yv] (.ref s2.heap.objs.size) [y] (fun v H'=>v=.non/\H'=upd H9 s2.heap.objs.size (.lst (ys++[yv]))) I9 rfl (.cons r9 .nil) ⟨_,ys,yv,rfl,rfl,hD,hz,rfl,rfl⟩) fun _ s10 ⟨_,H10,I10,_,_,e10⟩=>?_
    subst e10;exact again I10 kp q9
 exact codeAny_compStart_list (loop _ rfl) (T.self X.A 0 _ _ _ stS (loop _ rfl))
end
theorem q31{env:Env}:∀{names:List (Str×NameKind)}{x:Str},names.lookup x=some .free ->
  (names.map fun(n,k)=>if(k==NameKind.free&&env.scope.kind==.function&&env.kindOf n==some .cell)then(n,NameKind.cell)else(n,k)).lookup x=some .cell \/
  (names.map fun(n,k)=>if(k==NameKind.free&&env.scope.kind==.function&&env.kindOf n==some .cell)then(n,NameKind.cell)else(n,k)).lookup x=some .free
 |[],x,h=>by cases h
 |(n,k)::r,x,h=>by
  have ih:=@q31 env r x;rw[w0n];dsimp only
  by_cases hx:(x==n)=true
  ·simp only[w0x,hx]at h;cases h
   by_cases hq:(NameKind.free==NameKind.free&&env.scope.kind==.function&&env.kindOf n==some .cell)=true
   ·rw[if_pos hq];left;simp[w0x,hx]
   ·rw[if_neg hq];right;simp[w0x,hx]
  ·have hb:(x==n)=false:=w1s.mpr hx;simp only[w0x,hb]at h;have z:=ih h
   by_cases hq:(k==NameKind.free&&env.scope.kind==.function&&env.kindOf n==some .cell)=true
   ·rw[if_pos hq];simpa only[w0x,hb]using z
   ·rw[if_neg hq];simpa only[w0x,hb]using z
noncomputable def compOk(sc scope:Scope)(N Nf:List Str)(js:List Nat):Bool:=
 scope.kind==.function&&scope.names.all (fun y=>y.2 != .cell)&&scope.names.all (fun y=>y.2 != .local||scope.names.lookup y.1==some .local) &&
 scope.names.all (fun y=>y.2 != .free||sc.names.lookup y.1==some .cell||sc.names.lookup y.1==some .free)&&js.length==Nf.length &&
 (List.range js.length).all (fun i=>match js[i]?,Nf[i]? with|some j,some y=>N[j]?==some y|_,_=>true) &&
 Nf.all (fun y=>scope.names.lookup y==some .free&&(sc.names.lookup y==some .cell||sc.names.lookup y==some .free))
theorem q6x{elt target iter:Expr}{scope sc:Scope}{wi:TI}{g:TG}{tc:TT}{Nl Nf:List Str}(hc:X.calm=true)(hi:PI X target iter wi)
  (ok:compOk sc scope N Nf js=true)
  (hg:∀cl C s₀ H₀ ex,PG (X.cp (Nl++Nf) scope cl C s₀ H₀ ex) target g)(ht:∀cl C s₀ H₀ ex,PTs (X.cp (Nl++Nf) scope cl C s₀ H₀ ex) ifs tc)(he:∀cl C s₀ H₀ ex,PE (X.cp (Nl++Nf) scope cl C s₀ H₀ ex) elt te)
  (hsc:X.env.scope=sc:=by rfl)(hN:X.N=N:=by rfl)(hs:∀x,foldedSetIterable iter X.env x=pure x:=by intro _;rfl):
  PE X (.ListComp elt [⟨target,iter,ifs,0⟩] scope pos) (tComp wi Nl.length js g tc te):=by
 unfold compOk at ok;simp only[w0r,w0z,beq_iff_eq,bne_iff_ne,Bool.or_eq_true,w0w]at ok;obtain⟨⟨⟨⟨⟨⟨k1,k2⟩,k3⟩,k4⟩,k5⟩,k6⟩,k7⟩:=ok;have kind:∀x,X.env.kindOf x=sc.names.lookup x:=fun x=>by rw[<- hsc];rfl
 refine x8r hc hi k1 k2 (fun x hx hl=>(k3 x hx).resolve_left fun z=>z hl) (fun x hx hf=>?_) (fun i j y e1 e2=>?_) k5 (fun y hy=>?_) (fun y hy=>?_) hg ht he hs
 ·rw[kind];rcases k4 x hx with(z|z)|z
  ·exact absurd hf z
  ·exact .inl z
  ·exact .inr z
 ·have hlt:i<js.length:=(w0b.mp e2).1;have z:=k6 i hlt;rw[e1,e2]at z;rw[hN]
  simpa using z
 ·obtain⟨z1,z2⟩:=k7 y hy;refine⟨PySem.mem_of_lookup z1,?_,?_⟩
  ·rw[hsc];rcases z2 with z|z
   ·exact .inr (.inl z)
   ·exact .inr (.inr z)
  ·rw[kind];rcases z2 with z|z<;>(rw[z];decide)
 ·exact q31 (k7 y hy).1
abbrev TF:=Str->St->Hp->(Str->Hp->Prop)->Prop
def PF(X:Cx)(es:List Expr)(t:TF):Prop:=∀(acc:Str)(pins:List (Addr×Obj))(s:Shared)(σ:St)(H:Hp)(Q:Str->Hp->Prop),Inv X pins σ H s->t acc σ H Q ->
 Joins (model X.prog X.w) X.A X.xe (evalEach es X.env) acc (fun out s'=>out.length<=sizeLine/\∃H',Inv X pins σ H' s'/\Q out H') s
theorem x6n(hc:X.calm=true):CallR X (.builtin "all") (fun xs H Q=>∃p ys,xs=[.ref p]/\SqL X.K H p ys/\(∀y∈ys,∃b,y=.bl b)/\Q (.bl (ys.all fun y=>decide (y=.bl true))) H):=by
 intro pins s σ H xs us Q I r h;obtain⟨p,ys,rfl,hq,hb,q⟩:=h;obtain⟨u,rfl,rx⟩:=vals1 r;cases rx;obtain⟨its,r',pl,hz⟩:=I.list hq;have hl:=pl.isList;have hlt:p<s.heap.objs.size:=by obtain⟨_,e,_⟩:=hl;exact Heap.lt_size e
 have hh:X.A.in1.handled=none:=I.ok.hd hc;refine call_all_walk (wpAny_pyIter_list hl ⟨s.heap.objs.size,[s.heap.objs.size,p],[s.heap.objs.size],_,_,_,fun i=>decide (ys[i]?=some (.bl true)),rfl,Walks.list hh s.heap.objs.size p (w0p hlt) its.toArray,⟨⟨_,Heap.get?_push_size _ rfl,rfl,rfl⟩,hl.push _⟩,?_,fun h' tk kp=>?_⟩)
 ·intro i v s1 Q1 E1 hv hQ;have hv':its[i]?=some v:=by simpa using hv
  have hi:i<ys.length:=by rw[r'.length];exact(w0b.mp hv').1
  obtain⟨u,hu,ru⟩:=r'.get (w0f hi);rw[hv']at hu;cases hu;obtain⟨b,eb⟩:=hb ys[i] (w3d hi);rw[eb]at ru;cases ru;refine wpAny_truthy_bool ?_
  have e:decide (ys[i]?=some (V.bl true))=b:=by
   rw[w0f hi,eb];cases b<;>simp
  rw[<- e];exact hQ
 ·have e:(List.range its.toArray.size).all (fun i=>decide (ys[i]?=some (V.bl true)))=ys.all fun y=>decide (y=.bl true):=by
   rw[w1i,w0z,w0z];constructor
   ·intro hA y hy;obtain⟨i,hi,rfl⟩:=List.getElem_of_mem hy;have z:=hA i (by rw[w0w,w0c,<- r'.length];exact hi);rw[w0f hi]at z
    simpa using z
   ·intro hA i hi;rw[w0w,w0c,<- r'.length]at hi;have z:=hA ys[i] (w3d hi);rw[w0f hi]
    simpa using z
  refine⟨.bl _,H,I.kept (t':=tk) fun b o hbo=>kp b o (fun z=>?_) (Heap.get?_push_of_some _ hbo),rfl,e ▸ q⟩
  rw[w1j]at z;exact absurd (Heap.lt_size hbo) (by rw[z];exact w1v _)
namespace RevT
variable{I:Addr}{A:Around}{X:Cx}{e:Expr}{h:Heap}{H H':Hp}{es:List Expr}{ps:List Str}{k:Nat}{P prog:Program}{K:PySem.W.Frag}{s:Shared}{EE:St->XK}{x:Str}{t:TA}{E:Value->Shared->Prop}{w:World}
theorem nolen:typeLookup (.type "list_reverseiterator") "__len__"=pure none:=by rw[typeLookup_type,builtinLookup_eq_fast];kernel_rfl
theorem hint:typeLookup (.type "list_reverseiterator") "__length_hint__"=pure (some (.builtin "list_reverseiterator.__length_hint__")):=by rw[typeLookup_type,builtinLookup_eq_fast];kernel_rfl
section
variable{fp wr:List Addr}{G:Array GenState->Array GenState->Prop}{n:Nat}{P:Nat->Value->Prop}{St:Nat->Shared->Prop}
theorem x1s{Q:List Value->Shared->Prop}(W:WalksS prog w A.in1 I fp wr G n P St)(hT:∀i s,St i s->s.TypeIs (.ref I) "list_reverseiterator")(hst:St 0 s)(hfp:∀b∈fp,b<s.heap.objs.size)(hI:I∈fp)
  (hQ:∀s' acc,Moved wr G s s'->ItemsOf P acc n->Q acc.toList s')(hn:n<=sizeLine):wpAny (model prog w) A (collect (.ref I)) Q E s:=by
 have hSf:s.heap.objs.size∉fp:=fun hm=>w1v _ (hfp _ hm)
 have hSI:s.heap.objs.size≠I:=fun e=>hSf (e ▸ hI)
 unfold collect;refine wpAny_bind (wpAny_runValue (codeAny_builtin F.entry_proto_collect ?_));rw[Around.under_plainId F.plain_proto_collect _];show wpAny _ A.in1 (newList [] >>= fun l=>again (.builtin "list.__iadd__" ⟨[l,.ref I],[]⟩)) _ _ s
 refine wpAny_bind (wpAny_newObj_type ?_);refine wpAny_pure ⟨plainId_quiet F.plain_list_iadd _,codeAny_builtin F.entry_list_iadd ?_⟩;rw[Around.under_plainId F.plain_list_iadd _];have hst1:=W.frame 0 s (s.heap.push {cls:=.type "list", data:=.seq ([]:List Value).toArray}) s.toks hst (w0d _) fun b _ o e=>Heap.get?_push_of_some _ e
 have hS1:(s.heap.push {cls:=.type "list", data:=.seq ([]:List Value).toArray}).get? s.heap.objs.size=some {cls:=.type "list", data:=.seq ([]:List Value).toArray}:=Heap.get?_push_size _ rfl;have h1:Builtin.List.listSameRef (.ref s.heap.objs.size) (.ref I)=false:=by simp[Builtin.List.listSameRef,hSI]
 show wpAny _ A.in1 (Builtin.List.listExtendWith (.ref s.heap.objs.size) (.ref I) (.ref s.heap.objs.size)) _ _ _;unfold Builtin.List.listExtendWith;refine wpAny_bind (wpAny_typeOf (hT 0 _ hst1) ?_);rw[if_neg (by rw[h1];decide)];refine wpAny_bind (W.self 0 _ _ _ hst1 ?_);refine wpAny_bind (wpAny_holding ?_);unfold Builtin.List.listLengthHint;refine wpAny_bind (wpAny_specialOf (hT 0 _ hst1) nolen ?_);show wpAny _ A.in1 (specialOf (Value.ref I) (Str.ofString "__length_hint__") >>= _) _ _ _;refine wpAny_bind (wpAny_specialOf (hT 0 _ hst1) hint ?_)
 (generalize hid:("list_reverseiterator.__length_hint__":String)=id0;(fail_if_success (clear hid id0));wp_delta;rw[show splitId id0=some ("list_reverseiterator", "__length_hint__")from by subst hid;decide +kernel];subst hid)
 refine wpAny_bind (wpAny_isInstance (b:=true) (hT 0 _ hst1) (by rw[isSubtype_type];kernel_rfl) ?_);refine wpAny_pure ?_;rw[if_neg (by decide)];refine wpAny_pure ⟨plainId_quiet F.plain_extend_loop _,codeAny_extend_loopS W hn _ hSf _ n 0 _ _ _ rfl (w1h _) hst1 hS1 (ItemsOf.nil P) fun s' acc' c' hm hS' hacc=>?_⟩
 show wpAny _ A (load s.heap.objs.size >>= _) _ _ s';refine wpAny_bind (wpAny_load hS' ?_);exact wpAny_pure (hQ s' acc' (Moved.drop_new (o:={cls:=.type "list", data:=.seq ([]:List Value).toArray}) (tk:=s.toks) hm (w0d _)) hacc)
end
open AutoSeq1 (wpAny_loadPart')
theorem x29{l:Addr}{items:Array Value}{Q:List Value->Shared->Prop}(hh:A.handled=none)(hne:l≠I)(hit:s.heap.IsRevIter I l ((items.size:Int)-1))(hl:s.heap.IsList l items)(hsz:items.size<=sizeLine)
  (hQ:∀s' acc,Moved [I] (fun a b=>b=a) s s'->ItemsOf (fun i v=>items[items.size-1-i]?=some v) acc items.size->Q acc.toList s'):wpAny (model prog w) A (collect (.ref I)) Q E s:=by
 have hlt:∀b∈[I,l],b<s.heap.objs.size:=fun b hb=>by
  rcases w0s.mp hb with z|z
  ·rw[z];obtain⟨_,e,_⟩:=hit;exact Heap.lt_size e
  ·rw[w1j.mp z];obtain⟨_,e,_⟩:=hl;exact Heap.lt_size e
 exact x1s (Walks.listRev (A:=A.in1) hh I l hne items).toS (fun _ _ st=>st.2.1.typeIs) ⟨w1h _,by simpa using hit,hl⟩ hlt w1c hQ hsz
theorem q9t(I l:Addr)(items:Array Value)(hne:l≠I)(hsz:items.size<=sizeLine):
  Meets (Builtin.«tuple.__new__» ⟨[.type "tuple", .ref I],[]⟩)
   (fun A R s=>A.handled=none/\s.heap.IsRevIter I l ((items.size:Int)-1)/\s.heap.IsList l items/\∀(s':Shared)(acc:Array Value),Moved [I] (fun a b=>b=a) s s'->ItemsOf (fun i v=>items[items.size-1-i]?=some v) acc items.size ->
    R (.ok (.ret (.ref s'.heap.objs.size))) {s' with heap:=s'.heap.push {cls:=.type "tuple", data:=.seq acc}}):=
 .of_wp fun prog w A R s h=>by
  obtain⟨hh,hit,hl,h⟩:=h;have hsub:=sub_tuple_self;have hinit:=init_tuple_lookup;have hmh:=madeHere_tuple;have hT:s.TypeIs (.ref I) "list_reverseiterator":=hit.typeIs;have hh1:A.in1.handled=none:=hh
  wp_walk using wpAny_typeOf hT,x29 hh1 hne hit hl hsz
  intro s' acc hm hacc;show wpAny _ _ (Builtin.Tuple.tupleExact acc.toList.toArray >>= fun v=>ret v) _ _ _
  unfold Builtin.Tuple.tupleExact;refine wpAny_bind (wpAny_newObj_type ?_ (show acc.toList.toArray.size<=sizeLine by simp only[Array.toArray_toList];rw[hacc.1];exact hsz));refine wpAny_pure ⟨_,rfl,?_⟩;have e:acc.toList.toArray=acc:=by simp
  rw[e];exact h s' acc hm hacc
theorem call_rev{l:Addr}{items:Array Value}{Q:Value->Shared->Prop}(hh:A.handled=none)(hne:l≠I)(hit:s.heap.IsRevIter I l ((items.size:Int)-1))(hl:s.heap.IsList l items)(hsz:items.size<=sizeLine)
  (h:∀(h':Heap)(tk:Nat)(acc:Array Value),(∀b o,b≠I->s.heap.get? b=some o->h'.get? b=some o)->ItemsOf (fun i v=>items[items.size-1-i]?=some v) acc items.size->Q (.ref h'.objs.size) {s with heap:=h'.push {cls:=.type "tuple", data:=.seq acc},toks:=tk}):
  wpAny (model prog w) A (call (.type "tuple") [.ref I]) Q E s:=by
 refine callType_new F.called_tuple (by decide) (F.typeCall_tuple_1 _) (F.newCall_tuple_1 _) (fun obj=>F.args_object_init_2 obj _) F.entry_tuple_new
  (q9t I l items hne hsz) ⟨hh,hit,hl,fun s' acc hm hacc=>⟨⟨_,Heap.get?_push_size _ rfl,rfl⟩,?_⟩⟩
 rw[Moved.eq_with hm];exact h s'.heap s'.toks acc (fun b o hb e=>hm.heap b o (fun z=>hb (w1j.mp z)) e) hacc
end RevT
def tTupRev(K:PySem.W.Frag)(te:TE):TE:=fun σ H Q=>te σ H fun x H1=>∃p ys,x=.ref p/\SqL K H1 p ys/\∀l,H1 l=none->Q (.ref l) (upd H1 l (.tup ys.reverse))
theorem x4d{te:TE}{p1 p2 pos1 pos2:Pos}(hc:X.calm=true)(hm1:X.mg "tuple"=none)(hm2:X.mg "reversed"=none)(he:PE X e te)(hg1:Gl X "tuple":=by rfl)(hg2:Gl X "reversed":=by rfl)
  (hs1:starEach [.Call (.Name "reversed" p2) [e] [] pos2] X.env=(false,eval (.Call (.Name "reversed" p2) [e] [] pos2) X.env)::starEach [] X.env:=by rfl)(hs2:starEach [e] X.env=(false,eval e X.env)::starEach [] X.env:=by rfl):
  PE X (.Call (.Name "tuple" p1) [.Call (.Name "reversed" p2) [e] [] pos2] [] pos1) (tTupRev X.K te):=by
 intro pins s σ H Q I h;refine wpAny_Call_Name_kw (q3o I hg1 hm1 PyProof.Rows.Boot.«tuple» ?_ (by decide));refine PyProof.Rows.callWith_type1 ?_ hs1 rfl;rw[hs1];show wpAny _ _ (spliced ((false,eval (.Call (.Name "reversed" p2) [e] [] pos2) X.env)::backTo pos1 (starEach [] X.env))) _ _ s;refine Calls.spliced_cons ?_;refine wpAny_Call_Name_kw (q3o I hg2 hm2 PyProof.Rows.Boot.«reversed» ?_ (by decide));refine PyProof.Rows.callWith_type1 ?_ hs2 rfl;rw[hs2];show wpAny _ _ (spliced ((false,eval e X.env)::backTo pos2 (starEach [] X.env))) _ _ s;refine Calls.spliced_cons (thn (he pins s σ H _ I h) fun v s1 ⟨x,H1,I1,rx,p,ys,ex,hq,q⟩=>Calls.spliced_nil ?_)
 subst ex;cases rx;obtain⟨its,r',pl,hz⟩:=I1.list hq;have hl:=pl.isList;have hlt:p<s1.heap.objs.size:=by obtain⟨_,e,_⟩:=hl;exact Heap.lt_size e
 refine call_reversed_list hl ?_;refine Calls.spliced_nil ?_;have hh:X.A.handled=none:=I1.ok.hd hc;refine RevT.call_rev (items:=its.toArray) hh (w0p hlt) ⟨_,Heap.get?_push_size _ rfl,rfl,rfl⟩ (hl.push _) (by simp only[w0c];rw[<- r'.length];exact hz) fun h' tk acc kp hacc=>?_
 have up:∀b o,s1.heap.get? b=some o->h'.get? b=some o:=fun b o hbo=>kp b o (w0p (Heap.lt_size hbo)) (Heap.get?_push_of_some _ hbo)
 have I2:Inv X pins σ H1 {s1 with heap:=h',toks:=tk}:=I1.kept (t':=tk) up
 have ea:acc=its.reverse.toArray:=by
  obtain⟨n1,n2⟩:=hacc;apply Array.ext';apply w2i;intro i
  by_cases hi:i<its.length
  ·have hi':i<acc.size:=by rw[n1];simpa using hi
   have z:=n2 i acc[i] (by simp[hi']);simp only[w0c,List.getElem?_toArray]at z;rw[List.getElem?_reverse hi,z];simp[hi']
  ·rw[w1q (by simp at n1 |-;omega),w1q (by simp;omega)]
 subst ea
 have I3:Inv X pins σ (upd H1 h'.objs.size (.tup ys.reverse)) {s1 with heap:=h'.push {cls:=.type "tuple", data:=.seq its.reverse.toArray},toks:=tk}:=
  I2.laid (t':=tk) (fun b o e=>Heap.get?_push_of_some _ e) (w0d _) (show ObjOk X.prog X.w _ _ _ (.tup ys.reverse)from⟨by rw[w2u];exact hz,its.reverse,r'.reverse,IsTup.new _ _,_,Heap.get?_push_size _ rfl,rfl⟩)
 exact⟨.ref h'.objs.size,_,I3,rfl,q _ (I2.hok.fresh (w0d _))⟩
open PySem PySem.Spec PyProof.Rows
structure ExcCls(K:PySem.W.Frag)(D:Addr):Prop where
 ga:findIn K (.ref D) "__getattribute__"=some (some (.builtin "BaseException.__getattribute__"))
 gt:findIn K (.ref D) "__getattr__"=some none
 cl:findIn K (.ref D) "__class__"=some (some (.builtin "object.__class__"))
 gs:specialIn K (.builtin "object.__class__") "__get__"=some (some (.builtin "getset_descriptor.__get__"))
 tk:takesIn K (.builtin "object.__class__")=some true
 mo:PySem.W.mroIn K D (.type "object")=some true
 mb:PySem.W.mroIn K D (.type "BaseException")=some true
 cd:(PySem.W.clsIn K D).isSome=true
noncomputable def excClsIn(K:PySem.W.Frag)(D:Addr):Bool:=
 findIn K (.ref D) "__getattribute__"==some (some (.builtin "BaseException.__getattribute__"))&&findIn K (.ref D) "__getattr__"==some none &&
 findIn K (.ref D) "__class__"==some (some (.builtin "object.__class__"))&&specialIn K (.builtin "object.__class__") "__get__"==some (some (.builtin "getset_descriptor.__get__")) &&
 takesIn K (.builtin "object.__class__")==some true&&PySem.W.mroIn K D (.type "object")==some true&&PySem.W.mroIn K D (.type "BaseException")==some true&&(PySem.W.clsIn K D).isSome
theorem ExcCls.of{D:Addr}(h:excClsIn K D=true):ExcCls K D:=by
 unfold excClsIn at h;simp only[w0r,beq_iff_eq]at h;obtain⟨⟨⟨⟨⟨⟨⟨h1,h2⟩,h3⟩,h4⟩,h5⟩,h6⟩,h7⟩,h8⟩:=h;exact⟨h1,h2,h3,h4,h5,h6,h7,h8⟩
def ExcAt(e D:Addr)(h:Heap):Prop:=∃o vs,h.get? e=some o/\o.cls=.ref D/\o.data=.fields vs
section
variable{e D:Addr}
open PySem.W Builtin Builtin.ObjectAttr Builtin.Getset_descriptor
theorem q7h{M:Model}(p:ExcAt e D h):Looks M h (typeOf (.ref e)) (.ref D):=by
 obtain⟨o,vs,h1,h2,h3⟩:=p;exact h2 ▸ (Looks.ld h1).andThen .now
theorem x6o{M:Model}(X:K.In h)(C:ExcCls K D):Looks M h (find (.ref e) (.ref D) "__class__") (.bind (.builtin "getset_descriptor.__get__") (.builtin "object.__class__")):=by
 have L1:=looks_findIn (M:=M) X C.cl;have L2:Looks M h (getOf (some (.builtin "object.__class__"))) (some (.builtin "getset_descriptor.__get__")):=looks_specialIn X C.gs;have L3:=looks_takesIn (M:=M) X C.tk;refine L1.andThen (L2.andThen ?_);exact(show Looks M h (dataDescriptor? (some (.builtin "object.__class__")) (some (.builtin "getset_descriptor.__get__"))) (some (.builtin "getset_descriptor.__get__", .builtin "object.__class__"))from L3.andThen .now).andThen (Looks.tag .now)
theorem x8s{tp:Value}{R:Result->Shared->Prop}(X:K.In s.heap)(p:ExcAt e D s.heap)(hm:mroIn K D (.type "object")=some true)
  (h:R (.ok (.ret (.ref D))) s):codeAny (model prog w) A (.call (.builtin "getset_descriptor.__get__") ⟨[.builtin "object.__class__", .ref e,tp],[]⟩) R s:=by
 obtain⟨hh,g,dr,t,os⟩:=s;have L0:=q7h (M:=model prog w) p;have L1:=looks_mroIn (M:=model prog w) X hm;refine codeAny_call_builtin KF.slot_gs.plain KF.entry_gs (KF.slot_gs.check _ _ _ _ _ _ _ _ KF.type_class (KF.args_gs _ _ _) ?_);unfold Builtin.«getset_descriptor.__get__» descrGet;rw[dga_obj];refine wpAny_bind (wpAny_pure ?_);unfold descrGetter descrCheckInstance descrNameAndClass isInstance;simp only[KF.owner_class]
 repeat lk
 refine⟨Code.quiet_builtin _ (by decide +kernel),codeAny_builtin KF.entry_class ?_⟩;unfold Builtin.«object.__class__» shownTypeOf
 repeat lk
 exact h
theorem x4e{M:Model}{nameV:Value}{Q:Unit->Shared->Prop}{g:Array GenState}{d:Drawn}{t:Nat}{os:OsState}(X:K.In h)(p:ExcAt e D h)(hm:mroIn K D (.type "BaseException")=some true)(hq:Q () ⟨h,g,d,t,os⟩):
  wpAny M A (checkBuiltinCall "BaseException.__getattribute__" ⟨[.ref e,nameV],[]⟩) Q E ⟨h,g,d,t,os⟩:=by
 have hk:builtinKind "BaseException.__getattribute__"=some .slot:=by decide +kernel
 have hsplit:splitId "BaseException.__getattribute__"=some ("BaseException", "__getattribute__"):=by decide +kernel
 have L0:=q7h (M:=M) p;have L1:=looks_mroIn (M:=M) X hm;have LI:Looks M h (isInstance (.ref e) (.type "BaseException")) true:=L0.andThen L1;have ha:=PySem.F.args_bexc_ga (.ref e) nameV;simp only[checkBuiltinCall,hk,hsplit];refine wpAny_bind (LI.at ?_);rw[if_neg (by decide)];unfold argsOk at ha;split
 ·rename_i sig hs;rw[hs]at ha;exact wpAny_of_eq ha hq
 ·exact wpAny_pure hq
theorem x4f{Q:Option Value->Shared->Prop}(X:K.In s.heap)(p:ExcAt e D s.heap)(C:ExcCls K D)(h:Q (some (.ref D)) {s with toks:=s.toks+1}):wpAny (model prog w) A (getAttr? (.ref e) "__class__") Q E s:=by
 obtain⟨hh,g,d,t,os⟩:=s;have L0:=q7h (M:=model prog w) p;have L1:=looks_findIn (M:=model prog w) X C.ga;have L2:=looks_findIn (M:=model prog w) X C.gt;have L3:=x6o (M:=model prog w) (e:=e) X C;unfold getAttr? getAttrBy? getAttrBy;refine wpAny_bind (wpAny_mkText (wpAny_bind (wpAny_attempt (wpAny_holding (wpAny_bind (L0.at (wpAny_bind (L1.at ?_))))))));have hx2:(Value.builtin "BaseException.__getattribute__"==Value.builtin "object.__getattribute__")=false:=by decide +kernel
 have hx1:(onTheHeap (Value.ref D)&&Value.builtin "BaseException.__getattribute__"==Value.builtin "object.__getattribute__")=false:=by rw[hx2];rfl
 dsimp only;rw[if_neg (by rw[hx1];decide)];unfold getAttrByItsOwn hookBefore;rw[if_pos (by rfl)];refine wpAny_bind (L2.at ?_);refine wpAny_bind (wpAny_attempt (wpAny_holding ?_));unfold callGetattribute;rw[if_neg (by decide)];unfold boundAndCalled;have f3:=PySem.F.excAttr_ValueError.ga.bind (.ref e);refine wpAny_bind (wpAny_of_eq f3 ?_);refine wpAny_call (codeAny_call_builtin PySem.F.excAttr_ValueError.ga.plain F.entry_bexc_ga (x4e (K:=K) (D:=D) X p C.mb ?_));unfold Builtin.«object.__getattribute__»;refine wpAny_bind (wpAny_of_eq (a:=(Value.ref e,[Value.str (Str.ofString "__class__") t])) (by rfl) ?_);dsimp only;refine wpAny_bind (wpAny_of_eq (a:=Str.ofString "__class__") (by rfl) ?_);refine wpAny_bind (L0.at (wpAny_bind (L3.at ?_)));dsimp only;unfold bindTo;refine wpAny_bind (wpAny_holding (wpAny_call (x8s (K:=K) (D:=D) X p C.mo ?_)));dsimp only;refine wpAny_pure ?_;dsimp only;refine wpAny_of_eq (a:=Value.ref D) (by rfl) ?_;exact wpAny_pure h
theorem x6p(C:ExcCls K D):KitX K (.ref e) (.ref D) (ExcAt e D) where
 ty:=fun _ _ _ p=>q7h p
 it:=fun M h X p=>by
  have hcD:=C.cd;unfold clsIn at hcD;split at hcD
  ·rename_i c' d' cd' sl' ho;intro A' Q' E' s' k q;unfold isType loadHead;exact wpAny_bind (wpAny_loadPart (k _ _ (X _ _ ho)) (wpAny_pure q))
  ·cases hcD
 ne:=fun h tp dd its n sl X htp=>by
  refine w1s.mpr fun q=>?_
  have e1:D=tp:=Value.ref.inj (beq_iff_eq.mp q);subst e1;have hcD:=C.cd;unfold clsIn at hcD;split at hcD
  ·rename_i c' d' cd' sl' ho;have z:=(X _ _ ho).symm.trans htp;cases z
  ·cases hcD
 ca:=fun X p k=>x4f X p C k
end
def ClsV:V->Value->Prop
 |.ty n,c=>c=.type n
 |.ref a,c=>c=.ref a
 |_,_=>False
structure Cal(P:Program)(w:World)(K:PySem.W.Frag)(mg:Str->Option Value)(base:Heap)(k:Nat)(x:Str)(ps:List Str)(sp:Sp):Prop where
 ex:∃f fd,FnOk P w K mg base (CX1 P w) k f fd ps sp/\mg x=some (.ref f)/\keepIn K (.ref f)=true/\Binds K fd ps []
structure CalH(P:Program)(w:World)(K:PySem.W.Frag)(mg:Str->Option Value)(base:Heap)(k:Nat)(x:Str)(ps:List Str)(sp:Sp):Prop where
 ex:∃f fd,FnOkH P w K mg base k f fd ps sp/\mg x=some (.ref f)/\keepIn K (.ref f)=true/\Binds K fd ps []
structure At(K:PySem.W.Frag)(mg:Str->Option Value)(x:Str)(st:Stmt)(ps:List Str):Prop where
 ex:∃f fd,Fun K x x st f fd/\mg x=some (.ref f)/\Binds K fd ps []
section
variable{mg:Str->Option Value}{base:Heap}
theorem At.cal{st:Stmt}{N:List Str}{sp:Sp}(F:At K mg x st ps)(S:FnScope N ps (defScope st))(len:∀vs H Q E,sp vs H Q E->vs.length=ps.length)
  (hbody:∀(f:Addr)(cdv:Value)(A:Around)(outer:List Env)(s:Shared)(H:Hp)(vs:List V)(Q:VK)(E:XK),Room k (A.deeper (envOfC x (defScope st) s.heap.objs.size f cdv))->sp vs H Q E ->
   ∃t,PSs (cxOf (CX1 P w) P w K mg base N x (defScope st) f cdv A outer s H E) (defBody st) t/\t {nx:=fun _ H'=>Q .non H',rt:=Q} (start N vs) H):Cal P w K mg base (k+1) x ps sp:=by
 obtain⟨f,fd,F,m,b⟩:=F.ex;exact⟨f,fd,F.okX S len (hbody f),m,F.kp,b⟩
end
section
variable{sp:Sp}{p pos:Pos}
theorem y1f(C:Cal X.prog X.w X.K X.mg X.base k x ps sp)(hr:Room k X.A)(hx:PassX (CX1 X.prog X.w) X EE)(ha:PA X (e::es) t)(hg:Gl X x:=by rfl)
  (hdb:(x==("__debug__":Str))=false:=by decide)(he:starEach (e::es) X.env=(false,eval e X.env)::starEach es X.env:=by rfl)(hpl:(backTo pos (starEach es X.env)).any (·.1)=false:=by rfl):
  PE X (.Call (.Name x p) (e::es) [] pos) (tCallX sp [] EE t):=by
 obtain⟨f,fd,F,m,kp,b⟩:=C.ex;exact x6l F hr hg m kp b .nil hx ha hdb he hpl
end
section
variable{te:TE}{pos pos' p:Pos}
theorem x3a(i:Nat)(hN:X.N.Nodup)(he:PE X e te)(hi:X.N[i]?=some x:=by rfl)(hx:Loc X.env.scope x:=by walk_at "3")(hs:swapsWith e (some (.Name x pos')) pos.line X.env=pure false:=by rfl)(hf:X.fn x=true\/X.env.scope.names.lookup x=some .local:=by walk_at "2"):
  PS X (.Assign [.Name x pos'] e pos) (tAsg te (gName i)):=y02 hN hi hx he hs hf
theorem q1w(i:Nat)(hN:X.N.Nodup)(hi:X.N[i]?=some x:=by rfl)(hx:Loc X.env.scope x:=by walk_at "3")(hf:X.fn x=true\/X.env.scope.names.lookup x=some .local:=by walk_at "2"):PG X (.Name x pos) (gName i):=x8d hN hi hx hf
theorem y1g{o:Expr}{to:TE}{apos:Pos}(ho:PE X o to)(ha:PA X (e::es) t)(hbase:attributeBase o "append" X.env (eval o X.env)=eval o X.env:=by rfl)
  (hfew:((backTo pos (starEach (e::es) X.env)).all (fun x=>!x.1)&&(backToKw pos (keywordEach [] X.env)).all (fun x=>x.1.isSome)&&decide ((e::es).length+([]:List Keyword).length+(if([]:List Keyword).isEmpty then 0 else 1)<30))=true:=by rfl)
  (hline:(apos.endLine==pos.line)=true:=by rfl)(hs:starEach (e::es) X.env=(false,eval e X.env)::starEach es X.env:=by rfl)(hplain:(backTo pos (starEach es X.env)).any (·.1)=false:=by rfl):
  PE X (.Call (.Attribute o "append" apos) (e::es) [] pos) (tBM X.K "list" rAppend to t):=y37 PySem.F.plainAttrs_list PySem.F.slot_list_append PySem.F.type_list_append q5j ho ha hbase hfew hline hs hplain
end
theorem q25{p:Addr}(h:H p=none)(o:HO):Same H (upd H p o):=fun b u q=>by rw[q0b (q0j q h)];exact q
theorem Same.tup{a:Addr}{xs:List V}(e:Same H H')(h:SqT K H a xs):SqT K H' a xs:=by
 rcases h with(h|⟨o,h⟩)|h
 ·exact .inl (.inl (e _ _ h))
 ·exact .inl (.inr ⟨o,e _ _ h⟩)
 ·exact .inr h
noncomputable abbrev fnO(o:Obj)(q:Str)(c:Addr):HO:=.frz o (.tbl #[.bool false,.str q 0,.ref c])
noncomputable abbrev celO(o:Obj):HO:=.frz o (.ext fun _=>True)
noncomputable abbrev Cs:=List (Addr×Obj)
variable{cs:Cs}
structure LamScope(ps Nf:List Str)(sc:Scope):Prop where
 kind:sc.kind=.function
 co:sc.isCoroutine=false
 gen:sc.isGenerator=false
 nd:ps.Nodup
 nocell:∀y∈sc.names,y.2≠.cell
 par:∀x∈ps,sc.names.lookup x=some .local
 fr:∀y∈Nf,sc.names.lookup y=some .free
structure LamCells(cl:List (Str×Addr))(Nf:List Str)(sc:Scope)(zs:List V)(h:Heap)(cs:Cs):Prop where
 inj:∀x y c,cl.lookup x=some c->cl.lookup y=some c->x=y
 has:∀x,(x,NameKind.free)∈sc.names->∃c,cl.lookup x=some c
 all:∀x c,cl.lookup x=some c->∃o,cs.lookup c=some o
 cel:∀c o,cs.lookup c=some o->h.get? c=some o/\∃v,o.data=.cell v
 val:∀(i:Nat) y z,Nf[i]?=some y->zs[i]?=some z->∃c o u,cl.lookup y=some c/\cs.lookup c=some o/\o.data=.cell (some u)/\RelV z u
def BMain(h:Heap)(mg:Str->Option Value):Prop:=∃bm ob,mg "__builtins__"=some (.ref bm)/\bm≠builtinsNs/\h.get? bm=some ob/\ob.cls=.type "module" /\ ob.dict=some builtinsNs/\ob.data=.plain
structure Maker(X:Cx):Prop where
 ex:∃c P a,X.env.code=.ref c/\PySem.W.codeHdIn X.K c P=true/\(a,markO P (X.env.qual++"<lambda>"))∈X.K
 bm:BMain X.base X.mg
structure CellsOf(clos:List (Str×Addr))(Nf:List Str)(scope:Scope)(js:List Nat)(σ:St)(H:Hp)(cs:Cs):Prop where
 inj:∀x y c,clos.lookup x=some c->clos.lookup y=some c->x=y
 has:∀x,(x,NameKind.free)∈scope.names->∃c,clos.lookup x=some c
 all:∀x c,clos.lookup x=some c->∃o,cs.lookup c=some o
 cel:∀c o,cs.lookup c=some o->H c=none/\∃v,o.data=.cell v
 val:∀(i:Nat) y j z,Nf[i]?=some y->js[i]?=some j->σ[j]?=some (some z)->∃c o u,clos.lookup y=some c/\cs.lookup c=some o/\o.data=.cell (some u)/\RelV z u
end L2
set_option maxHeartbeats 1000000
namespace D
open PySem L2
variable{a:Addr}{X:Cx}{G G' G1 H H' H1:Hp}{es:List Expr}{vs xs:List V}{r:List V->Hp->VK->Prop}{i k:Nat}{b:Option Nat}{p pos pos':Pos}{K:PySem.W.Frag}{σ:St}{EE:St->XK}{st:Stmt}{x:Str}{α:Type}{v:V}
noncomputable abbrev Sv:=Int ⊕ Bool
inductive Dd where
 |k (kvs:List (Key×Sv))
structure Lm where
 qual:Str
 params:Arguments
 body:Expr
 scope:Scope
 nf:List Str
set_option genInjectivity true in
inductive W where
 |non|bl (b:Bool)|int (i:Int)|str (x:Str)|tup (xs:List W)|lst (xs:List W)|exc (c:Value)|dic (kvs:Dd)|dw (fz:Bool) (sh:Sh) (ks:List Kx) (ws:List W)|fn (i:Nat) (l:Lm) (ws:List W)
variable{ws:List W}{w:W}{f:W->W->Option W}
inductive SK where
 |old (w:W)|new (w:W)|acc (ws:List W)|thro (us ws vs:List W)|tn (us:List W) (wss:List (List W))|pt (us ws:List W) (w:W)
inductive S where
 |no|fr (w:W)|own (io:Option Nat) (ws:List W)|dic (kvs:Dd)|thr (us ws vs:List W)|nest (wss:List (List W))|dw (sh:Sh) (ks:List Kx) (ws:List W)|x (k:SK)
variable{e e1:List S}{E:Value->List S->Prop}
noncomputable def SK.plain:SK->Option W
 |.old w=>some w
 |.new w=>some w
 |_=>none
noncomputable def SK.look:SK->Option W
 |.old w=>some w
 |.new w=>some w
 |.acc ws=>some (.lst ws)
 |_=>none
noncomputable def sV:Sv->V
 |.inl i=>.int i
 |.inr b=>.bl b
noncomputable def kvV{κ:Type}(kvs:List (κ×Sv)):List (κ×V):=kvs.map fun p=>(p.1,sV p.2)
noncomputable def dO:Dd->HO
 |.k kvs=>.dK (kvV kvs)
noncomputable def isDic:HO->Bool
 |.dK _=>true
 |_=>false
theorem q29{d:Dd}{u:HO}(h:isDic u=false):dO d≠u:=fun z=>by
 subst z;cases d<;>cases h
def KeysG(G:Hp):List Kx->List Addr->Prop
 |[],[]=>True
 |k::ks,b::bs=>KRep G k (.ref b)/\KeysG G ks bs
 |[],_::_=>False
 |_::_,[]=>False
theorem KeysG.mono(e:Same G G'):∀{ks:List Kx}{bs:List Addr},KeysG G ks bs->KeysG G' ks bs
 |[],[],_=>trivial
 |k::ks,b::bs,h=>⟨KRep.keeps (fun _ _ _ z=>e _ _ z) k h.1,KeysG.mono e h.2⟩
 |[],_::_,h=>h.elim
 |_::_,[],h=>h.elim
def DAt(fz:Bool)(G:Hp)(a:Addr)(sh:Sh)(kvs:List (Kx×V))(kas:List Addr):Prop:=if fz=true then ∃o,G a=some (.frz o (.dT sh kvs kas))else G a=some (.dT sh kvs kas)
theorem DAt.mono{fz:Bool}{sh:Sh}{kvs:List (Kx×V)}{kas:List Addr}(e:Same G G')(h:DAt fz G a sh kvs kas):DAt fz G' a sh kvs kas:=by
 cases fz with
 |true=>obtain⟨o,h⟩:=h;exact⟨o,e _ _ h⟩
 |false=>exact e _ _ h
structure FnCells(G:Hp)(cl:List (Str×Addr))(l:Lm)(zs:List V)(cs:Cs):Prop where
 inj:∀x y c,cl.lookup x=some c->cl.lookup y=some c->x=y
 has:∀x,(x,NameKind.free)∈l.scope.names->∃c,cl.lookup x=some c
 all:∀x c,cl.lookup x=some c->∃o,cs.lookup c=some o
 cel:∀c o,cs.lookup c=some o->G c=some (celO o)/\∃v,o.data=.cell v
 val:∀(i:Nat) y z,l.nf[i]?=some y->zs[i]?=some z->∃c o u,cl.lookup y=some c/\cs.lookup c=some o/\o.data=.cell (some u)/\RelV z u
 len:zs.length=l.nf.length
theorem FnCells.mono{cl:List (Str×Addr)}{l:Lm}{zs:List V}{cs:Cs}(e:Same G G')(h:FnCells G cl l zs cs):FnCells G' cl l zs cs:=⟨h.inj,h.has,h.all,fun c o q=>⟨e _ _ (h.cel c o q).1,(h.cel c o q).2⟩,h.val,h.len⟩
def FnAtG(G:Hp)(l:Lm)(cl:List (Str×Addr))(f:Addr):Prop:=∃pm c' ctv,G f=some (fnO (PySem.W.kla_obj "<lambda>" l.qual l.params l.body l.scope cl pm c' ctv) l.qual c')
inductive RefTo(v:V)(P Q:Addr->List V->Prop):Prop where
 |mk (a:Addr) (xs:List V) (h:v=.ref a) (p:P a xs) (q:Q a xs):RefTo v P Q
inductive ConsOf(xs:List V)(P:V->Prop)(Q:List V->Prop):Prop where
 |mk (x:V) (r:List V) (h:xs=x::r) (p:P x) (q:Q r):ConsOf xs P Q
mutual
def Rep(K:PySem.W.Frag)(G:Hp):W->V->Prop
 |.non,v=>v=.non
 |.bl b,v=>v=.bl b
 |.int i,v=>v=.int i
 |.str x,v=>v=.str x
 |.tup ws,v=>RefTo v (SqT K G) fun _ xs=>Reps K G ws xs
 |.lst ws,v=>RefTo v (SqL K G) fun _ xs=>Reps K G ws xs
 |.exc c,v=>∃e,v=.ref e/\G e=some (excO e c)
 |.dic kvs,v=>∃e,v=.ref e/\G e=some (dO kvs)
 |.dw fz sh ks ws,v=>∃a kvs kas,v=.ref a/\DAt fz G a sh kvs kas/\kvs.map (·.1)=ks/\KeysG G ks kas/\Reps K G ws (kvs.map (·.2))
 |.fn _ l ws,v=>∃f cl zs cs,v=.ref f/\FnAtG G l cl f/\FnCells G cl l zs cs/\Reps K G ws zs
def Reps(K:PySem.W.Frag)(G:Hp):List W->List V->Prop
 |[],xs=>xs=[]
 |w::ws,xs=>ConsOf xs (Rep K G w) (Reps K G ws)
end
mutual
theorem Rep.mono{K:PySem.W.Frag}{G G':Hp}(e:Same G G'):∀(w:W){v:V},Rep K G w v->Rep K G' w v
 |.non,v,h=>h
 |.bl b,v,h=>h
 |.int i,v,h=>h
 |.str x,v,h=>h
 |.tup ws,v,h=>by
  obtain⟨a,xs,rfl,q,r⟩:=h;exact⟨a,xs,rfl,e.tup q,Reps.mono e ws r⟩
 |.lst ws,v,h=>by
  obtain⟨a,xs,rfl,q,r⟩:=h;exact⟨a,xs,rfl,e.seq q,Reps.mono e ws r⟩
 |.exc c,v,h=>by
  obtain⟨a,rfl,q⟩:=h;exact⟨a,rfl,e _ _ q⟩
 |.dic kvs,v,h=>by
  obtain⟨a,rfl,q⟩:=h;exact⟨a,rfl,e _ _ q⟩
 |.dw fz sh ks ws,v,h=>by
  obtain⟨a,kvs,kas,rfl,h1,h2,h3,h4⟩:=h;exact⟨a,kvs,kas,rfl,h1.mono e,h2,h3.mono e,Reps.mono e ws h4⟩
 |.fn i l ws,v,h=>by
  obtain⟨f,cl,zs,cs,rfl,⟨pm,c',ctv,h1⟩,h2,h3⟩:=h;exact⟨f,cl,zs,cs,rfl,⟨pm,c',ctv,e _ _ h1⟩,h2.mono e,Reps.mono e ws h3⟩
theorem Reps.mono{K:PySem.W.Frag}{G G':Hp}(e:Same G G'):∀(ws:List W){xs:List V},Reps K G ws xs->Reps K G' ws xs
 |[],xs,h=>h
 |w::ws,xs,h=>by
  obtain⟨x,r,rfl,h1,h2⟩:=h;exact⟨x,r,rfl,Rep.mono e w h1,Reps.mono e ws h2⟩
end
theorem Reps.length:∀{ws:List W}{xs:List V},Reps K G ws xs->xs.length=ws.length
 |[],xs,h=>by cases h;rfl
 |w::ws,xs,h=>by
  obtain⟨x,r,rfl,_,h2⟩:=h;simp[Reps.length h2]
theorem Reps.get:∀{ws:List W}{xs:List V}{i:Nat}{w:W},Reps K G ws xs->ws[i]?=some w->∃x,xs[i]?=some x/\Rep K G w x
 |[],xs,i,w,h,e=>by simp at e
 |w'::ws,xs,0,w,h,e=>by
  obtain⟨x,r,rfl,h1,h2⟩:=h;simp at e;subst e;exact⟨x,rfl,h1⟩
 |w'::ws,xs,i+1,w,h,e=>by
  obtain⟨x,r,rfl,h1,h2⟩:=h;obtain⟨y,e1,e2⟩:=Reps.get (i:=i) h2 (by simpa using e);exact⟨y,by simpa using e1,e2⟩
theorem Reps.getV:∀{ws:List W}{xs:List V}{i:Nat}{x:V},Reps K G ws xs->xs[i]?=some x->∃w,ws[i]?=some w/\Rep K G w x:=fun {ws xs i x} h e=>by
 have hl:=h.length;have hi:i<xs.length:=(w0b.mp e).1;have e2:ws[i]?=some ws[i]:=w0f (by omega);obtain⟨y,e3,r⟩:=h.get e2;rw[e]at e3;cases e3;exact⟨_,e2,r⟩
theorem Reps.append:∀{ws ws':List W}{xs xs':List V},Reps K G ws xs->Reps K G ws' xs'->Reps K G (ws++ws') (xs++xs')
 |[],ws',xs,xs',h,h'=>by cases h;exact h'
 |w::ws,ws',xs,xs',h,h'=>by
  obtain⟨x,r,rfl,h1,h2⟩:=h;exact⟨x,r++xs',rfl,h1,Reps.append h2 h'⟩
theorem Reps.one{x:V}(h:Rep K G w x):Reps K G [w] [x]:=⟨x,[],rfl,h,rfl⟩
theorem Reps.take:∀(n:Nat){ws:List W}{xs:List V},Reps K G ws xs->Reps K G (ws.take n) (xs.take n)
 |0,_,_,_=>rfl
 |n+1,[],_,h=>by cases h;rfl
 |n+1,w::ws,_,h=>by
  obtain⟨x,r,rfl,h1,h2⟩:=h;exact⟨x,r.take n,rfl,h1,Reps.take n h2⟩
theorem Reps.drop:∀(n:Nat){ws:List W}{xs:List V},Reps K G ws xs->Reps K G (ws.drop n) (xs.drop n)
 |0,_,_,h=>h
 |n+1,[],_,h=>by cases h;rfl
 |n+1,w::ws,_,h=>by
  obtain⟨x,r,rfl,h1,h2⟩:=h;exact Reps.drop n h2
theorem Reps.reverse:∀{ws:List W}{xs:List V},Reps K G ws xs->Reps K G ws.reverse xs.reverse
 |[],_,h=>by cases h;rfl
 |w::ws,_,h=>by
  obtain⟨x,r,rfl,h1,h2⟩:=h;rw[w1o,w1o];exact(Reps.reverse h2).append (.one h1)
structure Zt where
 H:Hp
 G:Hp
 io:List Addr
variable{Z Z':Zt}
def FzAt(Z:Zt)(G H:Hp)(l:Addr)(o:Obj)(ys:List V):Prop:=H l=some (.frz o (.lst ys))/\G l=none/\Z.H l=none
def NestIn(K:PySem.W.Frag)(Z:Zt)(G H:Hp):List Addr->List (List W)->Prop
 |[],[]=>True
 |l::ls,ws::wss=>(∃o ys,FzAt Z G H l o ys/\Reps K G ws ys)/\NestIn K Z G H ls wss
 |[],_::_=>False
 |_::_,[]=>False
inductive NestOk(K:PySem.W.Frag)(Z:Zt)(G H:Hp)(wss:List (List W))(v:Option V):Prop where
 |mk (a:Addr) (ls:List Addr) (h1:v=some (.ref a)) (h2:G a=some (.lst (ls.map V.ref))) (h3:ls.Nodup) (h4:NestIn K Z G H ls wss):NestOk K Z G H wss v
theorem NestIn.move(sg:Same G G')(hf:∀l o ys,H l=some (.frz o (.lst ys))->G l=none->Z.H l=none->H' l=some (.frz o (.lst ys))/\G' l=none/\Z'.H l=none):∀{ls:List Addr}{wss:List (List W)},NestIn K Z G H ls wss->NestIn K Z' G' H' ls wss
 |[],[],_=>trivial
 |l::ls,ws::wss,⟨⟨o,ys,⟨h1,h2,h3⟩,h4⟩,h⟩=>⟨⟨o,ys,hf l o ys h1 h2 h3,Reps.mono sg ws h4⟩,h.move sg hf⟩
 |[],_::_,h=>h.elim
 |_::_,[],h=>h.elim
theorem NestOk.move{wss:List (List W)}{v:Option V}(q:NestOk K Z G H wss v)(sg:Same G G')(hf:∀l o ys,H l=some (.frz o (.lst ys))->G l=none->Z.H l=none->H' l=some (.frz o (.lst ys))/\G' l=none/\Z'.H l=none):NestOk K Z' G' H' wss v:=by
 obtain⟨a,ls,h1,h2,h3,h4⟩:=q;exact⟨a,ls,h1,sg _ _ h2,h3,h4.move sg hf⟩
inductive DwOk(K:PySem.W.Frag)(Z:Zt)(G H:Hp)(sh:Sh)(ks:List Kx)(ws:List W)(v:Option V):Prop where
 |mk (a:Addr) (kvs:List (Kx×V)) (kas:List Addr) (h1:v=some (.ref a)) (h2:H a=some (.dT sh kvs kas)) (h3:G a=none) (h4:Z.H a=none) (h5:kvs.map (·.1)=ks) (h6:KeysG G ks kas) (h7:Reps K G ws (kvs.map (·.2))):DwOk K Z G H sh ks ws v
theorem DwOk.move{sh:Sh}{ks:List Kx}{v:Option V}(q:DwOk K Z G H sh ks ws v)(sg:Same G G')(hf:∀a kvs kas,H a=some (.dT sh kvs kas)->G a=none->Z.H a=none->H' a=some (.dT sh kvs kas)/\G' a=none/\Z'.H a=none):DwOk K Z' G' H' sh ks ws v:=by
 obtain⟨a,kvs,kas,h1,h2,h3,h4,h5,h6,h7⟩:=q;obtain⟨k1,k2,k3⟩:=hf a kvs kas h2 h3 h4;exact⟨a,kvs,kas,h1,k1,k2,k3,h5,h6.mono sg,Reps.mono sg ws h7⟩
mutual
def RepN(K:PySem.W.Frag)(Z:Zt)(G:Hp):W->V->Prop
 |.non,v=>v=.non
 |.bl b,v=>v=.bl b
 |.int i,v=>v=.int i
 |.str x,v=>v=.str x
 |.tup ws,v=>RefTo v (SqT K G) fun _ xs=>RepNs K Z G ws xs
 |.lst ws,v=>RefTo v (fun a xs=>G a=some (.lst xs)) fun a xs=>Z.H a=none/\RepNs K Z G ws xs
 |.exc _,_=>False
 |.dic _,_=>False
 |.dw _ _ _ _,_=>False
 |.fn _ _ _,_=>False
def RepNs(K:PySem.W.Frag)(Z:Zt)(G:Hp):List W->List V->Prop
 |[],xs=>xs=[]
 |w::ws,xs=>ConsOf xs (RepN K Z G w) (RepNs K Z G ws)
end
mutual
theorem RepN.rep{K:PySem.W.Frag}{Z:Zt}{G:Hp}:∀(w:W){v:V},RepN K Z G w v->Rep K G w v
 |.non,_,h=>h
 |.bl _,_,h=>h
 |.int _,_,h=>h
 |.str _,_,h=>h
 |.tup ws,_,⟨a,xs,e,q,r⟩=>⟨a,xs,e,q,RepNs.reps ws r⟩
 |.lst ws,_,⟨a,xs,e,q,_,r⟩=>⟨a,xs,e,.inl (.inl q),RepNs.reps ws r⟩
 |.exc _,_,h=>h.elim
 |.dic _,_,h=>h.elim
 |.dw _ _ _ _,_,h=>h.elim
 |.fn _ _ _,_,h=>h.elim
theorem RepNs.reps{K:PySem.W.Frag}{Z:Zt}{G:Hp}:∀(ws:List W){vs:List V},RepNs K Z G ws vs->Reps K G ws vs
 |[],_,h=>h
 |w::ws,_,⟨x,r,e,p,q⟩=>⟨x,r,e,RepN.rep w p,RepNs.reps ws q⟩
end
mutual
theorem RepN.move{K:PySem.W.Frag}{Z Z':Zt}{G G':Hp}(sg:Same G G')(hz:∀a xs,G a=some (.lst xs)->Z.H a=none->Z'.H a=none):∀(w:W){v:V},RepN K Z G w v->RepN K Z' G' w v
 |.non,_,h=>h
 |.bl _,_,h=>h
 |.int _,_,h=>h
 |.str _,_,h=>h
 |.tup ws,_,⟨a,xs,e,q,r⟩=>⟨a,xs,e,sg.tup q,RepNs.move sg hz ws r⟩
 |.lst ws,_,⟨a,xs,e,q,n,r⟩=>⟨a,xs,e,sg _ _ q,hz _ _ q n,RepNs.move sg hz ws r⟩
 |.exc _,_,h=>h.elim
 |.dic _,_,h=>h.elim
 |.dw _ _ _ _,_,h=>h.elim
 |.fn _ _ _,_,h=>h.elim
theorem RepNs.move{K:PySem.W.Frag}{Z Z':Zt}{G G':Hp}(sg:Same G G')(hz:∀a xs,G a=some (.lst xs)->Z.H a=none->Z'.H a=none):∀(ws:List W){vs:List V},RepNs K Z G ws vs->RepNs K Z' G' ws vs
 |[],_,h=>h
 |w::ws,_,⟨x,r,e,p,q⟩=>⟨x,r,e,RepN.move sg hz w p,RepNs.move sg hz ws q⟩
end
inductive AccOk(K:PySem.W.Frag)(Z:Zt)(G H:Hp)(ws:List W)(v:Option V):Prop where
 |mk (a:Addr) (o:Obj) (xs:List V) (h1:v=some (.ref a)) (h2:FzAt Z G H a o xs) (h3:RepNs K Z G ws xs):AccOk K Z G H ws v
inductive ThroOk(K:PySem.W.Frag)(Z:Zt)(G H:Hp)(us ws vs:List W)(v:Option V):Prop where
 |mk (t l:Addr) (o:Obj) (xs ys zs:List V) (h1:v=some (.ref t)) (h2:Z.G t=some (.tup (xs++.ref l::zs))) (h3:G t=some (.tup (xs++.ref l::zs))) (h4:FzAt Z G H l o ys) (h5:Reps K Z.G us xs/\Reps K Z.G ws ys/\Reps K Z.G vs zs) (h6:Reps K G us xs/\Reps K G ws ys/\Reps K G vs zs):ThroOk K Z G H us ws vs v
inductive TnOk(K:PySem.W.Frag)(Z:Zt)(G H:Hp)(us:List W)(wss:List (List W))(v:Option V):Prop where
 |mk (t l:Addr) (o:Obj) (ls:List Addr) (xs:List V) (h1:v=some (.ref t)) (h2:G t=some (.tup (xs++[.ref l]))) (h3:FzAt Z G H l o (ls.map V.ref)) (h4:ls.Nodup/\l∉ls) (h5:Reps K G us xs) (h6:NestIn K Z G H ls wss):TnOk K Z G H us wss v
inductive PtOk(K:PySem.W.Frag)(Z:Zt)(G H:Hp)(us ws:List W)(w:W)(v:Option V):Prop where
 |mk (p t l:Addr) (o:Obj) (xs ys:List V) (x:V) (h1:v=some (.ref p)) (h2:G p=some (.tup [.ref t,x])) (h3:G t=some (.tup (xs++[.ref l]))) (h4:FzAt Z G H l o ys) (h5:Reps K G us xs) (h6:Reps K G ws ys) (h7:Rep K G w x):PtOk K Z G H us ws w v
def XOk(K:PySem.W.Frag)(Z:Zt)(G H:Hp):SK->Option V->Prop
 |.old w,v=>∃u,v=some u/\Rep K Z.G w u/\Rep K G w u
 |.new w,v=>∃u,v=some u/\RepN K Z G w u
 |.acc ws,v=>AccOk K Z G H ws v
 |.thro us ws vs,v=>ThroOk K Z G H us ws vs v
 |.tn us wss,v=>TnOk K Z G H us wss v
 |.pt us ws w,v=>PtOk K Z G H us ws w v
theorem XOk.move{k:SK}{v:Option V}(q:XOk K Z G H k v)(sg:Same G G')(hf:∀l o ys,H l=some (.frz o (.lst ys))->G l=none->Z.H l=none->H' l=some (.frz o (.lst ys))/\G' l=none/\Z.H l=none):XOk K Z G' H' k v:=by
 cases k with
 |old w=>obtain⟨u,h1,h2,h3⟩:=q;exact⟨u,h1,h2,Rep.mono sg w h3⟩
 |new w=>obtain⟨u,h1,h2⟩:=q;exact⟨u,h1,RepN.move sg (fun _ _ _ z=>z) w h2⟩
 |acc ws=>obtain⟨a,o,xs,h1,⟨h2,h3,h4⟩,h5⟩:=q;exact⟨a,o,xs,h1,hf _ _ _ h2 h3 h4,RepNs.move sg (fun _ _ _ z=>z) ws h5⟩
 |tn us wss=>obtain⟨t,l,o,ls,xs,h1,h2,⟨h3,h4,h5⟩,h6,h7,h8⟩:=q;exact⟨t,l,o,ls,xs,h1,sg _ _ h2,hf _ _ _ h3 h4 h5,h6,Reps.mono sg us h7,h8.move sg hf⟩
 |pt us ws w=>obtain⟨p,t,l,o,xs,ys,x,h1,h2,h3,⟨h4,h5,h6⟩,h7,h8,h9⟩:=q;exact⟨p,t,l,o,xs,ys,x,h1,sg _ _ h2,sg _ _ h3,hf _ _ _ h4 h5 h6,Reps.mono sg us h7,Reps.mono sg ws h8,Rep.mono sg w h9⟩
 |thro us ws vs=>obtain⟨t,l,o,xs,ys,zs,h1,h2,h3,⟨h4,h5,h6⟩,h7,h8,h9,h10⟩:=q;exact⟨t,l,o,xs,ys,zs,h1,h2,sg _ _ h3,hf _ _ _ h4 h5 h6,h7,Reps.mono sg us h8,Reps.mono sg ws h9,Reps.mono sg vs h10⟩
def IoOk(Z:Zt):Option Nat->Addr->Prop
 |none,a=>Z.H a=none
 |some j,a=>Z.io[j]?=some a
theorem IoOk.io(h:IoOk Z b a):a∈Z.io\/Z.H a=none:=by
 cases b with
 |none=>exact .inr h
 |some j=>exact .inl (w0u h)
inductive OwnOk(K:PySem.W.Frag)(Z:Zt)(G H:Hp)(b:Option Nat)(ws:List W)(v:Option V):Prop where
 |mk (a:Addr) (xs:List V) (h1:v=some (.ref a)) (h2:H a=some (.lst xs)) (h3:G a=none) (h4:IoOk Z b a) (h5:Reps K G ws xs):OwnOk K Z G H b ws v
inductive DicOk(Z:Zt)(G H:Hp)(kvs:Dd)(v:Option V):Prop where
 |mk (a:Addr) (h1:v=some (.ref a)) (h2:H a=some (dO kvs)) (h3:G a=none) (h4:Z.H a=none):DicOk Z G H kvs v
inductive ThrOk(K:PySem.W.Frag)(Z:Zt)(G H:Hp)(us ws vs:List W)(v:Option V):Prop where
 |mk (t l:Addr) (o:Obj) (xs ys zs:List V) (h1:v=some (.ref t)) (h2:G t=some (.tup (xs++.ref l::zs))) (h3:H l=some (.frz o (.lst ys))) (h4:G l=none) (h5:Z.H l=none) (h6:Reps K G us xs/\Reps K G ws ys/\Reps K G vs zs):ThrOk K Z G H us ws vs v
def SlotOk(K:PySem.W.Frag)(Z:Zt)(G H:Hp):S->Option V->Prop
 |.no,_=>True
 |.fr w,v=>∃u,v=some u/\Rep K G w u
 |.own b ws,v=>OwnOk K Z G H b ws v
 |.dic kvs,v=>DicOk Z G H kvs v
 |.thr us ws vs,v=>ThrOk K Z G H us ws vs v
 |.nest wss,v=>NestOk K Z G H wss v
 |.dw sh ks ws,v=>DwOk K Z G H sh ks ws v
 |.x k,v=>XOk K Z G H k v
structure Rel(K:PySem.W.Frag)(Z:Zt)(G:Hp)(σ:St)(H:Hp)(e:List S):Prop where
 sub:Same G H
 slot:∀(i:Nat)(s:S),e[i]?=some s->SlotOk K Z G H s (σ[i]?.getD none)
 len:e.length=σ.length
 dis:∀(i j:Nat)(b b':Option Nat)(ws ws':List W)(a:Addr),e[i]?=some (.own b ws)->e[j]?=some (.own b' ws')->σ[i]?=some (some (.ref a))->σ[j]?=some (some (.ref a))->i=j
 ent:∀a o,Z.H a=some o->a∉Z.io->H a=some o
 ion:∀a∈Z.io,H a≠none
 gen:∀a,Z.H a≠none->G a=Z.G a
inductive AtG(K:PySem.W.Frag)(Z:Zt)(σ:St)(H:Hp)(P:Hp->List S->Prop):Prop where
 |mk (G:Hp) (e:List S) (r:Rel K Z G σ H e) (h:P G e):AtG K Z σ H P
structure Grow(G H G' H':Hp):Prop where
 hh:Same H H'
 gg:Same G G'
 sub:Same G' H'
 new:∀a,H a≠none->G' a=G a
theorem Grow.refl(s:Same G H):Grow G H G H:=⟨.refl _,.refl _,s,fun _ _=>rfl⟩
theorem x4g(e:Same H H')(h:H a≠none):H' a≠none:=by
 cases q:H a with
 |none=>exact absurd q h
 |some o=>rw[e a o q];simp
theorem Grow.laid(s:Same G H){D:Addr}(h:H D=none)(o:HO):Grow G H (upd G D o) (upd H D o) where
 hh:=q25 h o
 gg:=q25 (s.free h) o
 sub:=fun b u e=>by
  by_cases hb:b=D
  ·subst hb;rw[q0g]at e |-;exact e
  ·rw[q0b hb]at e |-;exact s b u e
 new:=fun a ha=>by rw[q0b (fun z=>ha (by rw[z];exact h))]
theorem Grow.hid(s:Same G H){D:Addr}(h:H D=none)(o:HO):Grow G H G (upd H D o) where
 hh:=q25 h o
 gg:=.refl _
 sub:=fun b u e=>by
  have:=s b u e;rw[q0b (q0j this h)];exact this
 new:=fun a ha=>rfl
theorem Rel.grow(r:Rel K Z G σ H e)(g:Grow G H G' H'):Rel K Z G' σ H' e where
 sub:=g.sub
 slot:=fun i s h=>by
  have q:=r.slot i s h;cases s with
  |no=>trivial
  |fr w=>
   obtain⟨u,h1,h2⟩:=q;exact⟨u,h1,Rep.mono g.gg w h2⟩
  |own b ws=>
   obtain⟨a,xs,h1,h2,h3,h4,h5⟩:=q;exact⟨a,xs,h1,g.hh _ _ h2,by rw[g.new a (by rw[h2];simp)];exact h3,h4,Reps.mono g.gg ws h5⟩
  |dic kvs=>
   obtain⟨a,h1,h2,h3,h4⟩:=q;exact⟨a,h1,g.hh _ _ h2,by rw[g.new a (by rw[h2];simp)];exact h3,h4⟩
  |thr us ws vs=>
   obtain⟨t,l,o,xs,ys,zs,h1,h2,h3,h4,h5,h6,h7,h8⟩:=q;exact⟨t,l,o,xs,ys,zs,h1,g.gg _ _ h2,g.hh _ _ h3,by rw[g.new l (by rw[h3];simp)];exact h4,h5,Reps.mono g.gg us h6,Reps.mono g.gg ws h7,Reps.mono g.gg vs h8⟩
  |nest wss=>exact NestOk.move q g.gg fun l o ys h1 h2 h3=>⟨g.hh _ _ h1,by rw[g.new l (by rw[h1];simp)];exact h2,h3⟩
  |x k=>exact XOk.move q g.gg fun l o ys h1 h2 h3=>⟨g.hh _ _ h1,by rw[g.new l (by rw[h1];simp)];exact h2,h3⟩
  |dw sh ks ws=>exact DwOk.move q g.gg fun l o ys h1 h2 h3=>⟨g.hh _ _ h1,by rw[g.new l (by rw[h1];simp)];exact h2,h3⟩
 len:=r.len
 dis:=r.dis
 ent:=fun a o h n=>g.hh _ _ (r.ent a o h n)
 ion:=fun a h=>x4g g.hh (r.ion a h)
 gen:=fun a h=>by
  have:H a≠none:=by
   cases q:Z.H a with
   |none=>exact absurd q h
   |some o=>
    by_cases hi:a∈Z.io
    ·exact r.ion a hi
    ·rw[r.ent a o q hi];simp
  rw[g.new a this];exact r.gen a h
theorem Rel.own(r:Rel K Z G σ H e)(h:e[i]?=some (.own b ws)):∃a xs,σ[i]?=some (some (.ref a))/\H a=some (.lst xs)/\G a=none/\(IoOk Z b a)/\Reps K G ws xs:=by
 obtain⟨a,xs,h1,h2,h3,h4,h5⟩:=r.slot i _ h;refine⟨a,xs,?_,h2,h3,h4,h5⟩;cases q:σ[i]? with
 |none=>rw[q]at h1;cases h1
 |some z=>rw[q]at h1;rw[show z=some (V.ref a)from h1]
theorem Rel.fr(r:Rel K Z G σ H e)(h:e[i]?=some (.fr w)):∃v,σ[i]?=some (some v)/\Rep K G w v:=by
 obtain⟨v,h1,h2⟩:=r.slot i _ h;refine⟨v,?_,h2⟩;cases q:σ[i]? with
 |none=>rw[q]at h1;cases h1
 |some z=>rw[q]at h1;rw[show z=some v from h1]
theorem Rel.at(r:Rel K Z G σ H e){s:S}(h:e[i]?=some s)(hs:SlotOk K Z G H s (σ[i]?.getD none)->σ[i]?.getD none=some v):σ[i]?=some (some v):=by
 have h1:=hs (r.slot i _ h);cases q:σ[i]? with
 |none=>rw[q]at h1;cases h1
 |some z=>rw[q]at h1;rw[show z=some v from h1]
theorem Rel.plain(r:Rel K Z G σ H e){k:SK}(h:e[i]?=some (.x k))(hk:k.plain=some w):∃v,σ[i]?=some (some v)/\Rep K G w v:=by
 have q:=r.slot i _ h;cases k with
 |old w'=>cases hk;obtain⟨v,h1,_,h2⟩:=q;exact⟨v,r.at h fun _=>h1,h2⟩
 |new w'=>cases hk;obtain⟨v,h1,h2⟩:=q;exact⟨v,r.at h fun _=>h1,RepN.rep _ h2⟩
 |_=>cases hk
theorem Rel.mut(r:Rel K Z G σ H e){ws':List W}{xs':List V}(h:e[i]?=some (.own b ws))(ha:σ[i]?=some (some (.ref a)))(q:Reps K G ws' xs'):Rel K Z G σ (upd H a (.lst xs')) (e.set i (.own b ws')):=by
 obtain⟨a',xs,h1,h2,h3,h4,h5⟩:=r.own h;rw[ha]at h1;cases h1;have hi:i<e.length:=(w0b.mp h).1;refine⟨fun c o z=>?_,fun j s z=>?_,by simpa using r.len,fun j k b1 b2 w1 w2 c z1 z2 z3 z4=>?_,fun c o z n=>?_,fun c z=>?_,r.gen⟩
 ·rw[q0b (q0j z h3)];exact r.sub c o z
 ·by_cases hj:j=i
  ·subst hj;rw[w0i hi]at z;cases z;exact⟨a,xs',by rw[ha];rfl,q0g,h3,h4,q⟩
  ·rw[w0g (fun z=>hj z.symm)]at z
   have y:=r.slot j s z;cases s with
   |no=>trivial
   |fr w=>exact y
   |own b2 w2=>
    obtain⟨c,ys,y1,y2,y3,y4,y5⟩:=y;refine⟨c,ys,y1,?_,y3,y4,y5⟩;rw[q0b];exact y2;rintro rfl;obtain⟨c',_,z1,_⟩:=r.own z;rw[z1]at y1;cases y1;exact hj (r.dis j i _ _ _ _ _ z h z1 ha)
   |dic kvs=>
    obtain⟨c,y1,y2,y3,y4⟩:=y;refine⟨c,y1,?_,y3,y4⟩;rw[q0b (q0p y2 h2 (q29 rfl))];exact y2
   |thr us w2 vs=>
    obtain⟨t,l,o,xs2,ys,zs,y1,y2,y3,y4,y5,y6⟩:=y;refine⟨t,l,o,xs2,ys,zs,y1,y2,?_,y4,y5,y6⟩;rw[q0b (q0p y3 h2 (fun z=>nomatch z))];exact y3
   |nest wss=>exact NestOk.move y (.refl _) fun l o ys k1 k2 k3=>⟨by rw[q0b (q0p k1 h2 (fun z=>nomatch z))];exact k1,k2,k3⟩
   |x k=>exact XOk.move y (.refl _) fun l o ys k1 k2 k3=>⟨by rw[q0b (q0p k1 h2 (fun z=>nomatch z))];exact k1,k2,k3⟩
   |dw sh ks ws=>exact DwOk.move y (.refl _) fun l o ys k1 k2 k3=>⟨by rw[q0b (q0p k1 h2 (fun z=>nomatch z))];exact k1,k2,k3⟩
 ·have old:∀(k:Nat)(bb:Option Nat)(ww:List W),(e.set i (S.own b ws'))[k]?=some (.own bb ww)->∃b' w',e[k]?=some (.own b' w'):=fun k bb ww z=>by
   by_cases hk:k=i
   ·subst hk;exact⟨_,_,h⟩
   ·rw[w0g (fun z=>hk z.symm)]at z;exact⟨_,_,z⟩
  obtain⟨_,_,q1⟩:=old _ _ _ z1;obtain⟨_,_,q2⟩:=old _ _ _ z2;exact r.dis _ _ _ _ _ _ _ q1 q2 z3 z4
 ·by_cases hc:c=a
  ·subst hc;exfalso;rcases h4.io with h4|h4
   ·exact n h4
   ·rw[h4]at z;cases z
  ·rw[q0b hc];exact r.ent c o z n
 ·by_cases hc:c=a
  ·subst hc;rw[q0g];simp
  ·rw[q0b hc];exact r.ion c z
theorem Rel.freeze(r:Rel K Z G σ H e)(h:e[i]?=some (.own none ws)):∃v G',σ[i]?=some (some v)/\Same G G'/\Rep K G' (.lst ws) v/\Rel K Z G' σ H (e.set i (.fr (.lst ws))):=by
 obtain⟨a,xs,h1,h2,h3,h4,h5⟩:=r.own h;have h4:Z.H a=none:=h4;have sg:Same G (upd G a (.lst xs)):=q25 h3 _;have hi:i<e.length:=(w0b.mp h).1;have rp:Rep K (upd G a (.lst xs)) (.lst ws) (.ref a):=⟨a,xs,rfl,SqL.of q0g,Reps.mono sg ws h5⟩;refine⟨.ref a,upd G a (.lst xs),h1,sg,rp,⟨fun c o z=>?_,fun j s z=>?_,by simpa using r.len,fun j k b1 b2 w1 w2 c z1 z2 z3 z4=>?_,r.ent,r.ion,fun c z=>?_⟩⟩
 ·by_cases hc:c=a
  ·subst hc;rw[q0g]at z;cases z;exact h2
  ·rw[q0b hc]at z;exact r.sub c o z
 ·by_cases hj:j=i
  ·subst hj;rw[w0i hi]at z;cases z;exact⟨.ref a,by rw[h1];rfl,rp⟩
  ·rw[w0g (fun z=>hj z.symm)]at z
   have y:=r.slot j s z;cases s with
   |no=>trivial
   |fr w=>
    obtain⟨u,y1,y2⟩:=y;exact⟨u,y1,Rep.mono sg w y2⟩
   |own b2 w2=>
    obtain⟨c,ys,y1,y2,y3,y4,y5⟩:=y;refine⟨c,ys,y1,y2,?_,y4,Reps.mono sg w2 y5⟩;rw[q0b];exact y3;rintro rfl;obtain⟨c',_,z1,_⟩:=r.own z;rw[z1]at y1;cases y1;exact hj (r.dis j i _ _ _ _ _ z h z1 h1)
   |dic kvs=>
    obtain⟨c,y1,y2,y3,y4⟩:=y;refine⟨c,y1,y2,?_,y4⟩;rw[q0b (q0p y2 h2 (q29 rfl))];exact y3
   |thr us w2 vs=>
    obtain⟨t,l,o,xs2,ys,zs,y1,y2,y3,y4,y5,y6,y7,y8⟩:=y;refine⟨t,l,o,xs2,ys,zs,y1,sg _ _ y2,y3,?_,y5,Reps.mono sg us y6,Reps.mono sg w2 y7,Reps.mono sg vs y8⟩;rw[q0b (q0p y3 h2 (fun z=>nomatch z))];exact y4
   |nest wss=>exact NestOk.move y sg fun l o ys k1 k2 k3=>⟨k1,by rw[q0b (q0p k1 h2 (fun z=>nomatch z))];exact k2,k3⟩
   |x k=>exact XOk.move y sg fun l o ys k1 k2 k3=>⟨k1,by rw[q0b (q0p k1 h2 (fun z=>nomatch z))];exact k2,k3⟩
   |dw sh ks ws=>exact DwOk.move y sg fun l o ys k1 k2 k3=>⟨k1,by rw[q0b (q0p k1 h2 (fun z=>nomatch z))];exact k2,k3⟩
 ·have old:∀(k:Nat)(bb:Option Nat)(ww:List W),(e.set i (S.fr (W.lst ws)))[k]?=some (.own bb ww)->e[k]?=some (.own bb ww):=fun k bb ww z=>by
   by_cases hk:k=i
   ·subst hk;rw[w0i hi]at z;cases z
   ·rw[w0g (fun z=>hk z.symm)]at z;exact z
  exact r.dis _ _ _ _ _ _ _ (old _ _ _ z1) (old _ _ _ z2) z3 z4
 ·by_cases hc:c=a
  ·subst hc;exact absurd h4 z
  ·rw[q0b hc];exact r.gen c z
def Free(σ:St)(e:List S)(a:Addr):Prop:=∀(j:Nat)(b:Option Nat)(ws:List W),e[j]?=some (.own b ws)->σ[j]?≠some (some (.ref a))
theorem Rel.set(r:Rel K Z G σ H e){v:V}(q:Rep K G w v):Rel K Z G (σ.set i (some v)) H (e.set i (.fr w)):=by
 refine⟨r.sub,fun j s z=>?_,by simpa using r.len,fun j k b1 b2 w1 w2 c z1 z2 z3 z4=>?_,r.ent,r.ion,r.gen⟩
 ·by_cases hj:j=i
  ·subst hj
   have hi:j<e.length:=by
    have:=(w0b.mp z).1;simpa using this
   rw[w0i hi]at z;cases z;rw[w0i (by rw[<- r.len];exact hi)];exact⟨v,rfl,q⟩
  ·rw[w0g (fun z=>hj z.symm)]at z |-
   exact r.slot j s z
 ·have old:∀(k:Nat)(bb:Option Nat)(ww:List W),(e.set i (S.fr w))[k]?=some (.own bb ww)->k≠i/\e[k]?=some (.own bb ww):=fun k bb ww z=>by
   by_cases hk:k=i
   ·subst hk
    have hi:k<e.length:=by
     have:=(w0b.mp z).1;simpa using this
    rw[w0i hi]at z;cases z
   ·rw[w0g (fun z=>hk z.symm)]at z;exact⟨hk,z⟩
  obtain⟨n1,q1⟩:=old _ _ _ z1;obtain⟨n2,q2⟩:=old _ _ _ z2;rw[w0g (fun z=>n1 z.symm)]at z3
  rw[w0g (fun z=>n2 z.symm)]at z4
  exact r.dis _ _ _ _ _ _ _ q1 q2 z3 z4
theorem Rel.setOwn(r:Rel K Z G σ H e)(h2:H a=some (.lst xs))(h3:G a=none)(h4:Z.H a=none)(hf:Free σ e a)(q:Reps K G ws xs):Rel K Z G (σ.set i (some (.ref a))) H (e.set i (.own none ws)):=by
 refine⟨r.sub,fun j s z=>?_,by simpa using r.len,fun j k b1 b2 w1 w2 c z1 z2 z3 z4=>?_,r.ent,r.ion,r.gen⟩
 ·by_cases hj:j=i
  ·subst hj
   have hi:j<e.length:=by
    have:=(w0b.mp z).1;simpa using this
   rw[w0i hi]at z;cases z;rw[w0i (by rw[<- r.len];exact hi)];exact⟨a,xs,rfl,h2,h3,h4,q⟩
  ·rw[w0g (fun z=>hj z.symm)]at z |-
   exact r.slot j s z
 ·have both:∀(k:Nat)(bb:Option Nat)(ww:List W),(e.set i (S.own none ws))[k]?=some (.own bb ww)->(σ.set i (some (.ref a)))[k]?=some (some (.ref c))->(k=i/\c=a)\/(k≠i/\e[k]?=some (.own bb ww)/\σ[k]?=some (some (.ref c))/\c≠a):=fun k bb ww z y=>by
   by_cases hk:k=i
   ·subst hk
    have hi:k<e.length:=by
     have:=(w0b.mp z).1;simpa using this
    rw[w0i (by rw[<- r.len];exact hi)]at y;cases y;exact .inl ⟨rfl,rfl⟩
   ·rw[w0g (fun z=>hk z.symm)]at z y
    exact .inr ⟨hk,z,y,fun e=>hf k bb ww z (by rw[y,e])⟩
  rcases both _ _ _ z1 z3 with⟨e1,c1⟩|⟨n1,q1,p1,c1⟩<;>rcases both _ _ _ z2 z4 with⟨e2,c2⟩|⟨n2,q2,p2,c2⟩
  ·rw[e1,e2]
  ·exact absurd c1 c2
  ·exact absurd c2 c1
  ·exact r.dis _ _ _ _ _ _ _ q1 q2 p1 p2
theorem Rel.forget(r:Rel K Z G σ H e){e':List S}(hl:e'.length=e.length)(h:∀(i:Nat)(s:S),e'[i]?=some s->s=.no\/e[i]?=some s):Rel K Z G σ H e':=by
 refine⟨r.sub,fun j s z=>?_,by rw[hl];exact r.len,fun j k b1 b2 w1 w2 c z1 z2 z3 z4=>?_,r.ent,r.ion,r.gen⟩
 ·rcases h j s z with rfl|q
  ·trivial
  ·exact r.slot j s q
 ·rcases h _ _ z1 with q1|q1
  ·cases q1
  ·rcases h _ _ z2 with q2|q2
   ·cases q2
   ·exact r.dis _ _ _ _ _ _ _ q1 q2 z3 z4
inductive R(α:Type) where
 |ok (a:α) (e:List S)|ex (c:Value) (e:List S)|no
noncomputable abbrev Den(α:Type):=List S->R α
variable{dA:Den (List W)}
noncomputable def R.bind{β:Type}:R α->(α->List S->R β)->R β
 |.ok a e,k=>k a e
 |.ex c e,_=>.ex c e
 |.no,_=>.no
def R.holds(r:R α)(P:α->List S->Prop)(E:Value->List S->Prop):Prop:=match r with
 |.ok a e=>P a e
 |.ex c e=>E c e
 |.no=>False
theorem R.holds_bind{β:Type}{r:R α}{k:α->List S->R β}{P:β->List S->Prop}:(r.bind k).holds P E↔r.holds (fun a e=>(k a e).holds P E) E:=by
 cases r<;>rfl
theorem R.holds.imp{r:R α}{P P':α->List S->Prop}{E':Value->List S->Prop}(h:r.holds P E)(p:∀a e,P a e->P' a e)(x:∀c e,E c e->E' c e):r.holds P' E':=by
 cases r with
 |ok a e=>exact p a e h
 |ex c e=>exact x c e h
 |no=>exact h
noncomputable def ofOpt(o:Option α)(e:List S):R α:=match o with
 |some a=>.ok a e
 |none=>.no
theorem ofOpt_holds{o:Option α}{P:α->List S->Prop}:(ofOpt o e).holds P E↔∃a,o=some a/\P a e:=by
 cases o with
 |none=>exact⟨fun h=>h.elim,fun⟨_,h,_⟩=>nomatch h⟩
 |some a=>exact⟨fun h=>⟨a,rfl,h⟩,fun⟨_,h,q⟩=>by cases h;exact q⟩
inductive SR where
 |nx (e:List S)|rt (s:S) (e:List S)|bk (e:List S)|ct (e:List S)|ex (c:Value) (e:List S)|no
section
variable(K:PySem.W.Frag)(Z:Zt)(EE:St->XK)
abbrev XH(σ:St)(G:Hp):Value->List S->Prop:=fun c e'=>∀G' H',Rel K Z G' σ H' e'->Same G G'->EE σ c none H'
def liftE(d:Den W):TE:=fun σ H Q=>AtG K Z σ H fun G e=>(d e).holds (fun w e'=>∀G' v H',Rel K Z G' σ H' e'->Same G G'->Rep K G' w v->Q v H') (XH K Z EE σ G)
def liftA(d:Den (List W)):TA:=fun σ H Q=>AtG K Z σ H fun G e=>(d e).holds (fun ws e'=>∀G' vs H',Rel K Z G' σ H' e'->Same G G'->Reps K G' ws vs->Q vs H') (XH K Z EE σ G)
def liftT(d:Den Bool):TT:=fun σ H Q=>AtG K Z σ H fun G e=>(d e).holds (fun b e'=>∀G' H',Rel K Z G' σ H' e'->Same G G'->Q b H') (XH K Z EE σ G)
def liftF(d:Den (List W)):TE:=fun σ H Q=>AtG K Z σ H fun G e=>(d e).holds (fun ws e'=>∀G' a xs H',Rel K Z G' σ H' e'->Same G G'->H' a=some (.lst xs)->G' a=none->Z.H a=none->Free σ e' a->Reps K G' ws xs->Q (.ref a) H') (XH K Z EE σ G)
def PostS(D:Ends)(G:Hp):SR->Prop
 |.nx e'=>∀G' σ' H',Rel K Z G' σ' H' e'->Same G G'->D.nx σ' H'
 |.bk e'=>∀G' σ' H',Rel K Z G' σ' H' e'->Same G G'->D.bk σ' H'
 |.ct e'=>∀G' σ' H',Rel K Z G' σ' H' e'->Same G G'->D.ct σ' H'
 |.rt s e'=>∀G' σ' v H',Rel K Z G' σ' H' e'->Same G G'->SlotOk K Z G' H' s (some v)->D.rt v H'
 |.ex c e'=>∀G' σ' H',Rel K Z G' σ' H' e'->Same G G'->EE σ' c none H'
 |.no=>False
def liftS(d:List S->SR):TS:=fun D σ H=>AtG K Z σ H fun G e=>PostS K Z EE D G (d e)
end
section
variable(Z:Zt)(X:Cx)(EE:St->XK)
def DE(e:Expr)(d:Den W):Prop:=PE X e (liftE X.K Z EE d)
def DF(e:Expr)(d:Den (List W)):Prop:=PE X e (liftF X.K Z EE d)
def DT(e:Expr)(d:Den Bool):Prop:=PT X e (liftT X.K Z EE d)
def DW(e:Expr)(d:Den Bool):Prop:=PW X e (liftT X.K Z EE d)
def DA(es:List Expr)(d:Den (List W)):Prop:=PA X es (liftA X.K Z EE d)
def DS(st:Stmt)(d:List S->SR):Prop:=PS X st (liftS X.K Z EE d)
def DSs(sts:List Stmt)(d:List S->SR):Prop:=PSs X sts (liftS X.K Z EE d)
end
theorem PE.mono{e:Expr}{t t':TE}(h:PE X e t)(i:∀σ H Q,t' σ H Q->t σ H Q):PE X e t':=fun pins s σ H Q I q=>h pins s σ H Q I (i σ H Q q)
theorem PT.mono{e:Expr}{t t':TT}(h:PT X e t)(i:∀σ H Q,t' σ H Q->t σ H Q):PT X e t':=fun pins s σ H Q I q=>h pins s σ H Q I (i σ H Q q)
theorem PW.mono{e:Expr}{t t':TT}(h:PW X e t)(i:∀σ H Q,t' σ H Q->t σ H Q):PW X e t':=fun wh pins s σ H Q I q=>h wh pins s σ H Q I (i σ H Q q)
theorem PA.mono{t t':TA}(h:PA X es t)(i:∀σ H Q,t' σ H Q->t σ H Q):PA X es t':=fun p pins s σ H Q I q=>h p pins s σ H Q I (i σ H Q q)
theorem PS.mono{t t':TS}(h:PS X st t)(i:∀D σ H,t' D σ H->t D σ H):PS X st t':=fun pins s σ H D I q=>h pins s σ H D I (i D σ H q)
theorem PSs.mono{st:List Stmt}{t t':TS}(h:PSs X st t)(i:∀D σ H,t' D σ H->t D σ H):PSs X st t':=fun pins s σ H D I q=>h pins s σ H D I (i D σ H q)
section
variable(K:PySem.W.Frag)
def Op2(r:R2)(f:W->W->Option W):Prop:=∀(G H:Hp)(x y:V)(wx wy w:W)(Q:VK),Same G H->Rep K G wx x->Rep K G wy y->f wx wy=some w->(∀G' v H',Grow G H G' H'->Rep K G' w v->Q v H')->r x y H Q
def Op1(r:V->Hp->VK->Prop)(f:W->Option W):Prop:=∀(G H:Hp)(x:V)(wx w:W)(Q:VK),Same G H->Rep K G wx x->f wx=some w->(∀G' v H',Grow G H G' H'->Rep K G' w v->Q v H')->r x H Q
def OpN(r:List V->Hp->VK->Prop)(f:List W->Option W):Prop:=∀(G H:Hp)(xs:List V)(ws:List W)(w:W)(Q:VK),Same G H->Reps K G ws xs->f ws=some w->(∀G' v H',Grow G H G' H'->Rep K G' w v->Q v H')->r xs H Q
end
noncomputable def dC(w:W):Den W:=fun e=>.ok w e
noncomputable def dVar(i:Nat):Den W:=fun e=>match e[i]? with
 |some (.fr w)=>.ok w e
 |some (.own none ws)=>.ok (.lst ws) (e.set i (.fr (.lst ws)))
 |some (.x k)=>match k.plain with
  |some w=>.ok w e
  |none=>.no
 |_=>.no
noncomputable def dOp(f:W->W->Option W)(da db:Den W):Den W:=fun e=>(da e).bind fun x e1=>(db e1).bind fun y e2=>ofOpt (f x y) e2
noncomputable def dUn(f:W->Option W)(da:Den W):Den W:=fun e=>(da e).bind fun x e1=>ofOpt (f x) e1
noncomputable def dTest(da:Den W):Den Bool:=fun e=>(da e).bind fun x e1=>match x with
 |.bl k=>.ok k e1
 |_=>.no
noncomputable def truW:W->Option Bool
 |.non=>some false
 |.bl b=>some b
 |.int i=>some (i != 0)
 |.str x=>if x.length<=16777216 then some ((x.length:Int) != 0)else none
 |.tup xs=>some (!xs.isEmpty)
 |.lst xs=>some (!xs.isEmpty)
 |.exc _=>none
 |.dic _=>none
 |.dw _ _ _ _=>none
 |.fn _ _ _=>none
noncomputable def dTru(da:Den W):Den Bool:=fun e=>(da e).bind fun x e1=>ofOpt (truW x) e1
noncomputable def dAnd(a b:Den Bool):Den Bool:=fun e=>(a e).bind fun x e1=>if x=true then b e1 else .ok false e1
noncomputable def dOr(a b:Den Bool):Den Bool:=fun e=>(a e).bind fun x e1=>if x=true then .ok true e1 else b e1
noncomputable def dNot(a:Den Bool):Den Bool:=fun e=>(a e).bind fun x e1=>.ok (!x) e1
noncomputable def dAndV(a b:Den W):Den W:=fun e=>(a e).bind fun x e1=>match x with
 |.bl true=>b e1
 |.bl false=>.ok (.bl false) e1
 |_=>.no
noncomputable def dOrV(a b:Den W):Den W:=fun e=>(a e).bind fun x e1=>match x with
 |.bl true=>.ok (.bl true) e1
 |.bl false=>b e1
 |_=>.no
noncomputable def dNotV(a:Den W):Den W:=fun e=>(a e).bind fun x e1=>match x with
 |.bl k=>.ok (.bl (!k)) e1
 |_=>.no
noncomputable def dIf(c:Den Bool)(a b:Den W):Den W:=fun e=>(c e).bind fun x e1=>if x=true then a e1 else b e1
noncomputable def dNil:Den (List W):=fun e=>.ok [] e
noncomputable def dCons(a:Den W)(r:Den (List W)):Den (List W):=fun e=>(a e).bind fun x e1=>(r e1).bind fun xs e2=>.ok (x::xs) e2
noncomputable def dLst(a:Den (List W)):Den (List W):=fun e=>(a e).bind fun xs e1=>if xs.length<=16777216 then .ok xs e1 else .no
noncomputable def dFz(a:Den (List W)):Den W:=fun e=>(a e).bind fun xs e1=>.ok (.lst xs) e1
noncomputable def dFn(f:List W->Option W)(a:Den (List W)):Den W:=fun e=>(a e).bind fun xs e1=>ofOpt (f xs) e1
section
variable{a b c e:Expr}{da db:Den W}{dc ta tb:Den Bool}
theorem XH.trans(s:Same G G1){c:Value}{e:List S}(h:XH K Z EE σ G c e):XH K Z EE σ G1 c e:=fun G' H' r q=>h G' H' r (s.trans q)
theorem q0d{i:Int}{j pos}:DE Z X EE (.Constant (.int i) j pos) (dC (.int i)):=PE.mono x30 fun σ H Q ⟨G,e,r,h⟩=>h G (.int i) H r (.refl _) rfl
theorem q0k{i:Bool}{j pos}:DE Z X EE (.Constant (.bool i) j pos) (dC (.bl i)):=PE.mono y3y fun σ H Q ⟨G,e,r,h⟩=>h G (.bl i) H r (.refl _) rfl
theorem q2z{j pos}:DE Z X EE (.Constant .none j pos) (dC .non):=PE.mono y0u fun σ H Q ⟨G,e,r,h⟩=>h G .non H r (.refl _) rfl
theorem x0e{i:Str}{j pos}:DE Z X EE (.Constant (.str i) j pos) (dC (.str i)):=PE.mono y0v fun σ H Q ⟨G,e,r,h⟩=>h G (.str i) H r (.refl _) rfl
theorem x6q:∀σ H Q,liftE K Z EE (dVar i) σ H Q->tVar i σ H Q:=by
 rintro σ H Q ⟨G,e,r,h⟩;unfold dVar at h;split at h
 ·rename_i w hw;obtain⟨v,h1,h2⟩:=r.fr hw;exact⟨v,h1,h G v H r (.refl _) h2⟩
 ·rename_i ws hw;obtain⟨v,G',h1,h2,h3,h4⟩:=r.freeze hw;exact⟨v,h1,h G' v H h4 h2 h3⟩
 ·rename_i k hw;cases q:k.plain with
  |some w=>
   rw[q]at h;obtain⟨v,h1,h2⟩:=r.plain hw q;exact⟨v,h1,h G v H r (.refl _) h2⟩
  |none=>rw[q]at h;exact h.elim
 ·exact h.elim
theorem dv(i:Nat)(hN:X.N[i]?=some x:=by rfl)(hv:Vis X.env.scope x:=by walk_at "1")(hd:(x==("__debug__":Str))=false:=by decide)
  (hcd:(x==("__classdict__":Str))=false:=by decide):DE Z X EE (.Name x pos) (dVar i):=PE.mono (pv i hN hv hd hcd) x6q
theorem q52{r:R2}(hf:Op2 K r f):∀σ H Q,liftE K Z EE (dOp f da db) σ H Q->tOp r (liftE K Z EE da) (liftE K Z EE db) σ H Q:=by
 rintro σ H Q ⟨G,e,rel,h⟩;simp only[dOp,R.holds_bind,ofOpt_holds]at h;refine⟨G,e,rel,h.imp (fun x e1 h G1 v1 H1 r1 s1 p1=>?_) fun _ _ h=>h⟩
 refine⟨G1,e1,r1,h.imp (fun y e2 h G2 v2 H2 r2 s2 p2=>?_) fun _ _ h=>XH.trans s1 h⟩
 obtain⟨w,hw,h⟩:=h;exact hf G2 H2 v1 v2 x y w Q r2.sub (Rep.mono s2 x p1) p2 hw fun G' v H' g p=>h G' v H' (r2.grow g) ((s1.trans s2).trans g.gg) p
theorem q53{op:Operator}{r:R2}(ho:OpR X (binaryOp op) r)(hf:Op2 X.K r f)(ha:DE Z X EE a da)(hb:DE Z X EE b db):DE Z X EE (.BinOp a op b pos) (dOp f da db):=PE.mono (y32 ho ha hb) (q52 hf)
theorem x0f{op:CmpOp}{r:R2}(ho:OpR X (compareOp op) r)(hf:Op2 X.K r f)(ha:DE Z X EE a da)(hb:DE Z X EE b db)(hm:behindInMarks op b=false):DE Z X EE (.Compare a [op] [b] pos) (dOp f da db):=PE.mono (x8h ho ha hb hm) (q52 hf)
theorem x4h{Q:Bool->Hp->Prop}(h:liftT K Z EE (dTest da) σ H Q):liftE K Z EE da σ H (fun x H'=>∃k,x=.bl k/\Q k H'):=by
 obtain⟨G,e,rel,h⟩:=h;simp only[dTest,R.holds_bind]at h;refine⟨G,e,rel,h.imp (fun x e1 h G1 v1 H1 r1 s1 p1=>?_) fun _ _ h=>h⟩
 cases x with
 |bl k=>
  cases(show v1=V.bl k from p1);exact⟨k,rfl,h G1 H1 r1 s1⟩
 |_=>exact h.elim
theorem q4i{op:CmpOp}{r:R2}(ho:OpR X (compareOp op) r)(hf:Op2 X.K r f)(ha:DE Z X EE a da)(hb:DE Z X EE b db)(hm:behindInMarks op b=false):DT Z X EE (.Compare a [op] [b] pos) (dTest (dOp f da db)):=
 PT.mono (x8i ho ha hb hm) fun σ H Q h=>q52 hf σ H _ (x4h h)
theorem x2g{r:V->Hp->VK->Prop}{f:W->Option W}(hf:Op1 K r f):∀σ H Q,liftE K Z EE (dUn f da) σ H Q->tUn r (liftE K Z EE da) σ H Q:=by
 rintro σ H Q ⟨G,e,rel,h⟩;simp only[dUn,R.holds_bind,ofOpt_holds]at h;refine⟨G,e,rel,h.imp (fun x e1 h G1 v1 H1 r1 s1 p1=>?_) fun _ _ h=>h⟩
 obtain⟨w,hw,h⟩:=h;exact hf G1 H1 v1 x w Q r1.sub p1 hw fun G' v H' g p=>h G' v H' (r1.grow g) (s1.trans g.gg) p
theorem y38{op:UnaryOp}{r:V->Hp->VK->Prop}{f:W->Option W}(ho:UnR X (unaryOp op) r)(hf:Op1 X.K r f)(ha:DE Z X EE a da):DE Z X EE (.UnaryOp op a pos) (dUn f da):=PE.mono (y33 ho ha) (x2g hf)
theorem y1h(s:Same G H){k:Bool}(h:Rep K G w v)(e:truW w=some k):TruV K v H k:=by
 cases w with
 |non=>cases(show v=.non from h);cases e;rfl
 |bl b=>cases(show v=.bl b from h);cases e;rfl
 |int i=>cases(show v=.int i from h);cases e;rfl
 |str x=>
  cases(show v=.str x from h);simp only[truW]at e;split at e
  ·cases e;exact⟨by rw[sizeLine_eq];assumption,rfl⟩
  ·cases e
 |tup ws=>
  obtain⟨p,xs,rfl,q,r⟩:=h;cases e;refine .inr (.inl ⟨xs,s.tup q,?_⟩);have:=r.length;cases ws<;>cases xs<;>simp_all
 |lst ws=>
  obtain⟨p,xs,rfl,q,r⟩:=h;cases e;refine .inl ⟨xs,s.seq q,?_⟩;have:=r.length;cases ws<;>cases xs<;>simp_all
 |exc _=>cases e
 |dic _=>cases e
 |dw _ _ _ _=>cases e
 |fn _ _ _=>cases e
theorem q4j(ha:DE Z X EE a da)(he:∀whole,isTrue a X.env whole=(do let v <- whole;standAt a.pos;holding [v] (truthy v)):=by intro _;rfl):DT Z X EE a (dTru da):=by
 refine PT.mono (x6f ha he) ?_;rintro σ H Q ⟨G,e,rel,h⟩;simp only[dTru,R.holds_bind,ofOpt_holds]at h;refine⟨G,e,rel,h.imp (fun x e1 h G1 v1 H1 r1 s1 p1=>?_) fun _ _ h=>h⟩
 obtain⟨k,hk,h⟩:=h;exact⟨k,y1h r1.sub p1 hk,h G1 H1 r1 s1⟩
theorem x6r:∀σ H Q,liftT K Z EE (dAnd ta tb) σ H Q->tAnd (liftT K Z EE ta) (liftT K Z EE tb) σ H Q:=by
 rintro σ H Q ⟨G,e,rel,h⟩;simp only[dAnd,R.holds_bind]at h;refine⟨G,e,rel,h.imp (fun x e1 h G1 H1 r1 s1=>?_) fun _ _ h=>h⟩
 cases x with
 |true=>exact⟨G1,e1,r1,R.holds.imp (show(tb e1).holds _ _ from h) (fun y e2 h G2 H2 r2 s2=>h G2 H2 r2 (s1.trans s2)) fun _ _ h=>XH.trans s1 h⟩
 |false=>exact(show ∀G' H',_->_->Q false H' from h) G1 H1 r1 s1
theorem x8t:∀σ H Q,liftT K Z EE (dOr ta tb) σ H Q->tOr (liftT K Z EE ta) (liftT K Z EE tb) σ H Q:=by
 rintro σ H Q ⟨G,e,rel,h⟩;simp only[dOr,R.holds_bind]at h;refine⟨G,e,rel,h.imp (fun x e1 h G1 H1 r1 s1=>?_) fun _ _ h=>h⟩
 cases x with
 |false=>exact⟨G1,e1,r1,R.holds.imp (show(tb e1).holds _ _ from h) (fun y e2 h G2 H2 r2 s2=>h G2 H2 r2 (s1.trans s2)) fun _ _ h=>XH.trans s1 h⟩
 |true=>exact(show ∀G' H',_->_->Q true H' from h) G1 H1 r1 s1
theorem x2h(ha:DT Z X EE a ta):DW Z X EE (.BoolOp .And [a] pos) ta:=x8a ha
theorem x0g(ha:DT Z X EE a ta):DW Z X EE (.BoolOp .Or [a] pos) ta:=y0w ha
theorem x4i{rest:List Expr}(ha:DT Z X EE a ta)(hb:DW Z X EE (.BoolOp .And (b::rest) pos) tb):DW Z X EE (.BoolOp .And (a::b::rest) pos) (dAnd ta tb):=PW.mono (y0x ha hb) x6r
theorem q90{rest:List Expr}(ha:DT Z X EE a ta)(hb:DW Z X EE (.BoolOp .Or (b::rest) pos) tb):DW Z X EE (.BoolOp .Or (a::b::rest) pos) (dOr ta tb):=PW.mono (y3z ha hb) x8t
theorem dt_w(h:DW Z X EE a ta):DT Z X EE a ta:=PW.pt h
theorem x0h(ha:DT Z X EE a ta):DT Z X EE (.UnaryOp .Not a pos) (dNot ta):=by
 refine PT.mono (y0y ha) ?_;rintro σ H Q ⟨G,e,rel,h⟩;simp only[dNot,R.holds_bind]at h;exact⟨G,e,rel,h.imp (fun x e1 h G1 H1 r1 s1=>h G1 H1 r1 s1) fun _ _ h=>h⟩
theorem y1i{op}(h:DE Z X EE a da):DE Z X EE (.BoolOp op [a] pos) da:=y0z h
theorem y39{rest:List Expr}(ha:DE Z X EE a da)(hb:DE Z X EE (.BoolOp .Or (b::rest) pos) db):DE Z X EE (.BoolOp .Or (a::b::rest) pos) (dOrV da db):=by
 refine PE.mono (y30 ha hb) ?_;rintro σ H Q ⟨G,e,rel,h⟩;simp only[dOrV,R.holds_bind]at h;refine⟨G,e,rel,h.imp (fun x e1 h G1 v1 H1 r1 s1 p1=>?_) fun _ _ h=>h⟩
 cases x with
 |bl k=>
  cases(show v1=V.bl k from p1);cases k with
  |false=>exact⟨false,rfl,⟨G1,e1,r1,R.holds.imp (show(db e1).holds _ _ from h) (fun y e2 h G2 v2 H2 r2 s2 p2=>h G2 v2 H2 r2 (s1.trans s2) p2) fun _ _ h=>XH.trans s1 h⟩⟩
  |true=>exact⟨true,rfl,(show ∀G' v H',_->_->v=V.bl true->Q v H' from h) G1 _ H1 r1 s1 rfl⟩
 |_=>exact h.elim
theorem y1j(ha:DE Z X EE a da):DE Z X EE (.UnaryOp .Not a pos) (dNotV da):=by
 refine PE.mono (y00 ha) ?_;rintro σ H Q ⟨G,e,rel,h⟩;simp only[dNotV,R.holds_bind]at h;refine⟨G,e,rel,h.imp (fun x e1 h G1 v1 H1 r1 s1 p1=>?_) fun _ _ h=>h⟩
 cases x with
 |bl k=>
  cases(show v1=V.bl k from p1);exact⟨k,rfl,(show ∀G' v H',_->_->v=V.bl (!k)->Q v H' from h) G1 _ H1 r1 s1 rfl⟩
 |_=>exact h.elim
theorem y4a(hc:DT Z X EE c dc)(ha:DE Z X EE a da)(hb:DE Z X EE b db):DE Z X EE (.IfExp c a b pos) (dIf dc da db):=by
 refine PE.mono (x6b hc ha hb) ?_;rintro σ H Q ⟨G,e,rel,h⟩;simp only[dIf,R.holds_bind]at h;refine⟨G,e,rel,h.imp (fun x e1 h G1 H1 r1 s1=>?_) fun _ _ h=>h⟩
 cases x with
 |true=>exact⟨G1,e1,r1,R.holds.imp (show(da e1).holds _ _ from h) (fun y e2 h G2 v2 H2 r2 s2 p2=>h G2 v2 H2 r2 (s1.trans s2) p2) fun _ _ h=>XH.trans s1 h⟩
 |false=>exact⟨G1,e1,r1,R.holds.imp (show(db e1).holds _ _ from h) (fun y e2 h G2 v2 H2 r2 s2 p2=>h G2 v2 H2 r2 (s1.trans s2) p2) fun _ _ h=>XH.trans s1 h⟩
theorem q0c:DA Z X EE [] dNil:=PA.mono q96 fun σ H Q ⟨G,e,r,h⟩=>h G [] H r (.refl _) rfl
theorem q0a(ha:DE Z X EE e da)(hr:DA Z X EE es dA)(hs:starEach (e::es) X.env=(false,eval e X.env)::starEach es X.env:=by rfl):DA Z X EE (e::es) (dCons da dA):=by
 refine PA.mono (q4g ha hr hs) ?_;rintro σ H Q ⟨G,e,rel,h⟩;simp only[dCons,R.holds_bind]at h;refine⟨G,e,rel,h.imp (fun x e1 h G1 v1 H1 r1 s1 p1=>?_) fun _ _ h=>h⟩
 refine⟨G1,e1,r1,h.imp (fun xs e2 h G2 vs H2 r2 s2 p2=>?_) fun _ _ h=>XH.trans s1 h⟩
 exact h G2 (v1::vs) H2 r2 (s1.trans s2) ⟨v1,vs,rfl,Rep.mono s2 x p1,p2⟩
theorem q3i{e:List S}(r:Rel K Z G σ H e){p:Addr}(hp:H p=none):Free σ e p:=fun j b ws h q=>by
 obtain⟨a,xs,h1,h2,_⟩:=r.own h;rw[q]at h1;cases h1;rw[hp]at h2;cases h2
theorem q20{e:List S}(r:Rel K Z G σ H e){p:Addr}(hp:H p=none):Z.H p=none:=by
 cases q:Z.H p with
 |none=>rfl
 |some o=>
  by_cases hi:p∈Z.io
  ·exact absurd hp (r.ion p hi)
  ·rw[r.ent p o q hi]at hp;cases hp
theorem q6y{e:List S}{Q:VK}{G0:Hp}(r:Rel K Z G σ H e)(s:Same G0 G)(p1:Reps K G ws vs)
  (h:∀G' a xs H',Rel K Z G' σ H' e->Same G0 G'->H' a=some (.lst xs)->G' a=none->Z.H a=none->Free σ e a->Reps K G' ws xs->Q (.ref a) H'):∀p,H p=none->Q (.ref p) (upd H p (.lst vs)):=fun p hp=>by
 have g:=Grow.hid r.sub hp (.lst vs);exact h G p vs _ (r.grow g) s q0g (r.sub.free hp) (q20 r hp) (q3i r hp) p1
theorem q0n(h:DA Z X EE es dA):DF Z X EE (.List es pos) (dLst dA):=by
 refine PE.mono (x37 h) ?_;rintro σ H Q ⟨G,e,rel,h⟩;simp only[dLst,R.holds_bind]at h;refine⟨G,e,rel,h.imp (fun ws e1 h G1 vs H1 r1 s1 p1=>?_) fun _ _ h=>h⟩
 split at h
 ·rename_i hl;exact⟨by rw[p1.length,sizeLine_eq];exact hl,q6y r1 s1 p1 h⟩
 ·exact h.elim
theorem Rel.seen{e:List S}(r:Rel K Z G σ H e){a:Addr}(h:H a=some (.lst xs))(hg:G a=none)(hz:Z.H a=none)(hf:Free σ e a):Same G (upd G a (.lst xs))/\Rel K Z (upd G a (.lst xs)) σ H e:=by
 have sg:Same G (upd G a (.lst xs)):=q25 hg _;refine⟨sg,⟨fun c o z=>?_,fun j s z=>?_,r.len,r.dis,r.ent,r.ion,fun c z=>?_⟩⟩
 ·by_cases hc:c=a
  ·subst hc;rw[q0g]at z;cases z;exact h
  ·rw[q0b hc]at z;exact r.sub c o z
 ·have y:=r.slot j s z;cases s with
  |no=>trivial
  |fr w=>
   obtain⟨u,y1,y2⟩:=y;exact⟨u,y1,Rep.mono sg w y2⟩
  |own b2 w2=>
   obtain⟨c,ys,y1,y2,y3,y4,y5⟩:=y;refine⟨c,ys,y1,y2,?_,y4,Reps.mono sg w2 y5⟩;rw[q0b];exact y3;rintro rfl;obtain⟨c',_,z1,_⟩:=r.own z;rw[z1]at y1;cases y1;exact hf j b2 w2 z z1
  |dic kvs=>
   obtain⟨c,y1,y2,y3,y4⟩:=y;refine⟨c,y1,y2,?_,y4⟩;rw[q0b (q0p y2 h (q29 rfl))];exact y3
  |thr us w2 vs=>
   obtain⟨t,l,o,xs2,ys,zs,y1,y2,y3,y4,y5,y6,y7,y8⟩:=y;refine⟨t,l,o,xs2,ys,zs,y1,sg _ _ y2,y3,?_,y5,Reps.mono sg us y6,Reps.mono sg w2 y7,Reps.mono sg vs y8⟩;rw[q0b (q0p y3 h (fun z=>nomatch z))];exact y4
  |nest wss=>exact NestOk.move y sg fun l o ys k1 k2 k3=>⟨k1,by rw[q0b (q0p k1 h (fun z=>nomatch z))];exact k2,k3⟩
  |x k=>exact XOk.move y sg fun l o ys k1 k2 k3=>⟨k1,by rw[q0b (q0p k1 h (fun z=>nomatch z))];exact k2,k3⟩
  |dw sh ks ws=>exact DwOk.move y sg fun l o ys k1 k2 k3=>⟨k1,by rw[q0b (q0p k1 h (fun z=>nomatch z))];exact k2,k3⟩
 ·by_cases hc:c=a
  ·subst hc;exact absurd hz z
  ·rw[q0b hc];exact r.gen c z
theorem q0q(h:DF Z X EE e dA):DE Z X EE e (dFz dA):=by
 refine PE.mono h ?_;rintro σ H Q ⟨G,e,rel,h⟩;simp only[dFz,R.holds_bind]at h;refine⟨G,e,rel,h.imp (fun ws e1 h G1 a xs H1 r1 s1 q1 q2 q3 q4 p1=>?_) fun _ _ h=>h⟩
 obtain⟨sg,rg⟩:=r1.seen q1 q2 q3 q4;exact(show ∀G' v H',_->_->Rep X.K G' (.lst ws) v->Q v H' from h) _ (.ref a) _ rg (s1.trans sg) ⟨a,xs,rfl,SqL.of q0g,Reps.mono sg ws p1⟩
theorem x2i{f:List W->Option W}(hf:OpN K r f):∀σ H Q,liftE K Z EE (dFn f dA) σ H Q->tCB r (liftA K Z EE dA) σ H Q:=by
 rintro σ H Q ⟨G,e,rel,h⟩;simp only[dFn,R.holds_bind,ofOpt_holds]at h;refine⟨G,e,rel,h.imp (fun ws e1 h G1 vs H1 r1 s1 p1=>?_) fun _ _ h=>h⟩
 obtain⟨w,hw,h⟩:=h;exact hf G1 H1 vs ws w Q r1.sub p1 hw fun G' v H' g p=>h G' v H' (r1.grow g) (s1.trans g.gg) p
theorem x0i{id:String}{f:List W->Option W}(hc:CallR X (.builtin id) r)(hf:OpN X.K r f)(hv:bootBuiltins x=some (.builtin id))(hm:X.mg x=none)(ha:DA Z X EE (e::es) dA)(hg:Gl X x:=by rfl)(hn:x≠"__name__":=by decide)(hdb:(x==("__debug__":Str))=false:=by decide)
  (he:starEach (e::es) X.env=(false,eval e X.env)::starEach es X.env:=by rfl)(hpl:(backTo pos (starEach es X.env)).any (·.1)=false:=by rfl):DE Z X EE (.Call (.Name x p) (e::es) [] pos) (dFn f dA):=
 PE.mono (q98 hc hg hm hv ha hn hdb he hpl) (x2i hf)
theorem x4j{T:String}{f:List W->Option W}(hc:CallR X (.type T) r)(hf:OpN X.K r f)(hv:bootBuiltins x=some (.type T))(hm:X.mg x=none)(ha:DA Z X EE (e::es) dA)(hg:Gl X x:=by rfl)(hn:x≠"__name__":=by decide)(hdb:(x==("__debug__":Str))=false:=by decide)
  (he:starEach (e::es) X.env=(false,eval e X.env)::starEach es X.env:=by rfl)(hpl:(backTo pos (starEach es X.env)).any (·.1)=false:=by rfl):DE Z X EE (.Call (.Name x p) (e::es) [] pos) (dFn f dA):=
 PE.mono (q82 hc hg hm hv ha hn hdb he hpl) (x2i hf)
end
noncomputable def dNx:List S->SR:=fun e=>.nx e
noncomputable def dSeq(a b:List S->SR):List S->SR:=fun e=>match a e with
 |.nx e'=>b e'
 |r=>r
noncomputable def R.stm(r:R α)(k:α->List S->SR):SR:=match r with
 |.ok a e=>k a e
 |.ex c e=>.ex c e
 |.no=>.no
noncomputable def dDrop(d:Den W):List S->SR:=fun e=>(d e).stm fun _ e'=>.nx e'
noncomputable def dRet(d:Den W):List S->SR:=fun e=>(d e).stm fun w e'=>.rt (.fr w) e'
noncomputable def dRetF(d:Den (List W)):List S->SR:=fun e=>(d e).stm fun ws e'=>.rt (.own none ws) e'
noncomputable def dRetO(i:Nat):List S->SR:=fun e=>match e[i]? with
 |some (.own none ws)=>.rt (.own none ws) e
 |some (.fr w)=>.rt (.fr w) e
 |_=>.no
noncomputable def dIfS(c:Den Bool)(a b:List S->SR):List S->SR:=fun e=>(c e).stm fun x e1=>if x=true then a e1 else b e1
noncomputable def dSet(i:Nat)(d:Den W):List S->SR:=fun e=>(d e).stm fun w e'=>.nx (e'.set i (.fr w))
noncomputable def dSetO(i:Nat)(d:Den (List W)):List S->SR:=fun e=>(d e).stm fun ws e'=>.nx (e'.set i (.own none ws))
noncomputable def forD(i:Nat)(b:List S->SR):List W->List S->SR
 |[],e=>.nx e
 |w::ws,e=>match b (e.set i (.fr w))with
  |.nx e'=>forD i b ws e'
  |.ct e'=>forD i b ws e'
  |.bk e'=>.nx e'
  |.rt s e'=>.rt s e'
  |.ex c e'=>.ex c e'
  |.no=>.no
noncomputable def seqW:W->Option (List W)
 |.tup ws=>some ws
 |.lst ws=>some ws
 |_=>none
noncomputable def dFor(i:Nat)(d:Den W)(b:List S->SR):List S->SR:=fun e=>(d e).stm fun w e1=>match seqW w with
 |some ws=>forD i b ws e1
 |none=>.no
noncomputable def rangeW(lo hi:Int):List W:=(List.range (hi-lo).toNat).map fun k=>.int (lo+(k:Nat))
noncomputable def okI(j:Int):Bool:=Nat.ble j.natAbs 4611686018427387903
theorem q7i{j:Int}(h:okI j=true):-(2^62)<=j/\j<2^62:=by
 have z:j.natAbs<=4611686018427387903:=w3j h;have e:(2:Int)^62=4611686018427387904:=by decide
 rw[e];omega
theorem q2a{j:Int}(h1:-1000000000<=j)(h2:j<=1000000000):okI j=true:=Nat.ble_eq_true_of_le (by omega)
noncomputable def rng1:List W->Option (List W)
 |[.int j]=>if okI j=true then some (rangeW 0 j)else none
 |_=>none
noncomputable def rng2:List W->Option (List W)
 |[.int i,.int j]=>if okI i=true/\okI j=true then some (rangeW i j)else none
 |_=>none
noncomputable def dForR(i:Nat)(g:List W->Option (List W))(d:Den (List W))(b:List S->SR):List S->SR:=fun e=>(d e).stm fun w e1=>match g w with
 |some ws=>forD i b ws e1
 |none=>.no
section
variable{a c e tg:Expr}{rest body:List Stmt}{d:Den W}{dc:Den Bool}{s1 s2:List S->SR}
theorem PostS.trans{D:Ends}(s:Same G G1):∀{r:SR},PostS K Z EE D G r->PostS K Z EE D G1 r
 |.nx e',h=>fun G' σ' H' r q=>h G' σ' H' r (s.trans q)
 |.bk e',h=>fun G' σ' H' r q=>h G' σ' H' r (s.trans q)
 |.ct e',h=>fun G' σ' H' r q=>h G' σ' H' r (s.trans q)
 |.rt w e',h=>fun G' σ' v H' r q=>h G' σ' v H' r (s.trans q)
 |.ex c e',h=>fun G' σ' H' r q=>h G' σ' H' r (s.trans q)
 |.no,h=>h
theorem q15{D:Ends}{r:R α}{k:α->List S->SR}(h:PostS K Z EE D G (r.stm k)):r.holds (fun a e'=>PostS K Z EE D G (k a e')) (XH K Z EE σ G):=by
 cases r with
 |ok a e=>exact h
 |ex c e=>exact fun G' H' r q=>h G' σ H' r q
 |no=>exact h
theorem q08:DSs Z X EE [] dNx:=PSs.mono x8b fun D σ H ⟨G,e,r,h⟩=>h G σ H r (.refl _)
theorem x6s:∀D σ H,liftS K Z EE (dSeq s1 s2) D σ H->tSeq (liftS K Z EE s1) (liftS K Z EE s2) D σ H:=by
 rintro D σ H ⟨G,e,rel,h⟩;refine⟨G,e,rel,?_⟩;unfold dSeq at h;cases q:s1 e with
 |nx e'=>rw[q]at h;exact fun G' σ' H' r s=>⟨G',e',r,PostS.trans s h⟩
 |bk e'=>rw[q]at h;exact h
 |ct e'=>rw[q]at h;exact h
 |rt w e'=>rw[q]at h;exact h
 |ex c e'=>rw[q]at h;exact h
 |no=>rw[q]at h;exact h
theorem q0e(h1:DS Z X EE st s1)(h2:DSs Z X EE rest s2):DSs Z X EE (st::rest) (dSeq s1 s2):=PSs.mono (x6c h1 h2) x6s
theorem q0f(h1:DS Z X EE st s1):DSs Z X EE [st] s1:=x8c h1
theorem x2j(he:DE Z X EE e d)(hs:swapsWith e none pos.line X.env=pure false:=by rfl):DS Z X EE (.Expr e pos) (dDrop d):=by
 refine PS.mono (q8b he hs) ?_;rintro D σ H ⟨G,e,rel,h⟩;exact⟨G,e,rel,(q15 h).imp (fun w e1 h G1 v1 H1 r1 s1 p1=>h G1 σ H1 r1 s1) fun _ _ h=>h⟩
theorem q0t(he:DE Z X EE e d):DS Z X EE (.Return (some e) pos) (dRet d):=by
 refine PS.mono (q94 he) ?_;rintro D σ H ⟨G,e,rel,h⟩;exact⟨G,e,rel,(q15 h).imp (fun w e1 h G1 v1 H1 r1 s1 p1=>h G1 σ v1 H1 r1 s1 ⟨v1,rfl,p1⟩) fun _ _ h=>h⟩
theorem q3x(he:DF Z X EE e dA):DS Z X EE (.Return (some e) pos) (dRetF dA):=by
 refine PS.mono (q94 he) ?_;rintro D σ H ⟨G,e,rel,h⟩;exact⟨G,e,rel,(q15 h).imp (fun w e1 h G1 a xs H1 r1 s1 q1 q2 q3 q4 p1=>h G1 σ (.ref a) H1 r1 s1 ⟨a,xs,rfl,q1,q2,q3,p1⟩) fun _ _ h=>h⟩
theorem x8u(i:Nat)(hN:X.N[i]?=some x:=by rfl)(hv:Vis X.env.scope x:=by walk_at "1")(hd:(x==("__debug__":Str))=false:=by decide)
  (hcd:(x==("__classdict__":Str))=false:=by decide):DS Z X EE (.Return (some (.Name x p)) pos) (dRetO i):=by
 refine PS.mono (q94 (pv i hN hv hd hcd)) ?_;rintro D σ H ⟨G,e,rel,h⟩;unfold dRetO at h;split at h
 ·rename_i ws hw;obtain⟨a,xs,h1,h2,h3,h4,h5⟩:=rel.own hw;exact⟨.ref a,h1,h G σ _ H rel (.refl _) ⟨a,xs,rfl,h2,h3,h4,h5⟩⟩
 ·rename_i w hw;obtain⟨v,h1,h2⟩:=rel.fr hw;exact⟨v,h1,h G σ _ H rel (.refl _) ⟨v,rfl,h2⟩⟩
 ·exact h.elim
theorem x6t:∀D σ H,liftS K Z EE (dIfS dc s1 s2) D σ H->tIfS (liftT K Z EE dc) (liftS K Z EE s1) (liftS K Z EE s2) D σ H:=by
 rintro D σ H ⟨G,e,rel,h⟩;refine⟨G,e,rel,(q15 h).imp (fun x e1 h G1 H1 r1 q1=>?_) fun _ _ h=>h⟩
 cases x with
 |true=>exact⟨G1,e1,r1,PostS.trans q1 h⟩
 |false=>exact⟨G1,e1,r1,PostS.trans q1 h⟩
theorem q1s{p q:List Stmt}(hc:DT Z X EE c dc)(ha:DSs Z X EE p s1)(hb:DSs Z X EE q s2):DS Z X EE (.If c p q pos) (dIfS dc s1 s2):=PS.mono (y31 hc ha hb) x6t
theorem q0l(i:Nat)(hN:X.N.Nodup)(he:DE Z X EE e d)(hi:X.N[i]?=some x:=by rfl)(hx:Loc X.env.scope x:=by walk_at "3")(hs:swapsWith e (some (.Name x pos')) pos.line X.env=pure false:=by rfl)(hf:X.fn x=true\/X.env.scope.names.lookup x=some .local:=by walk_at "2"):
  DS Z X EE (.Assign [.Name x pos'] e pos) (dSet i d):=by
 refine PS.mono (x3a i hN he hi hx hs hf) ?_;rintro D σ H ⟨G,e,rel,h⟩;exact⟨G,e,rel,(q15 h).imp (fun w e1 h G1 v1 H1 r1 q1 p1=>h G1 _ H1 (r1.set p1) q1) fun _ _ h=>h⟩
theorem x4k(i:Nat)(hN:X.N.Nodup)(he:DF Z X EE e dA)(hi:X.N[i]?=some x:=by rfl)(hx:Loc X.env.scope x:=by walk_at "3")(hs:swapsWith e (some (.Name x pos')) pos.line X.env=pure false:=by rfl)(hf:X.fn x=true\/X.env.scope.names.lookup x=some .local:=by walk_at "2"):
  DS Z X EE (.Assign [.Name x pos'] e pos) (dSetO i dA):=by
 refine PS.mono (x3a i hN he hi hx hs hf) ?_;rintro D σ H ⟨G,e,rel,h⟩;exact⟨G,e,rel,(q15 h).imp (fun w e1 h G1 a xs H1 r1 s1 q1 q2 q3 q4 p1=>h G1 _ H1 (r1.setOwn q1 q2 q3 q4 p1) s1) fun _ _ h=>h⟩
theorem x6u{D:Ends}{x:V}{N:St->Hp->Prop}(r1:Rel K Z G1 σ H e1)(q1:Same G G1)(p:Rep K G1 w x)(h:PostS K Z EE D G (forD i s1 (w::ws) e1))
  (hN:∀G' σ' H' e',Rel K Z G' σ' H' e'->Same G G'->PostS K Z EE D G (forD i s1 ws e')->N σ' H'):gName i x σ H fun σ2 H2=>liftS K Z EE s1 {D with nx:=N,ct:=N,bk:=D.nx} σ2 H2:=by
 refine⟨G1,e1.set i (.fr w),r1.set p,?_⟩;unfold forD at h;cases q:s1 (e1.set i (.fr w))with
 |nx e'=>rw[q]at h;exact fun G' σ' H' r s=>hN G' σ' H' e' r (q1.trans s) h
 |ct e'=>rw[q]at h;exact fun G' σ' H' r s=>hN G' σ' H' e' r (q1.trans s) h
 |bk e'=>rw[q]at h;exact fun G' σ' H' r s=>h G' σ' H' r (q1.trans s)
 |rt w e'=>rw[q]at h;exact fun G' σ' v H' r s=>h G' σ' v H' r (q1.trans s)
 |ex c e'=>rw[q]at h;exact fun G' σ' H' r s=>h G' σ' H' r (q1.trans s)
 |no=>rw[q]at h;exact h
def iSeq(K:PySem.W.Frag)(tl:TE):TI:=fun σ H R=>tl σ H fun x H1=>∃a,x=.ref a/\(((∃xs,SqL K H1 a xs)/\R (Itl K a) H1)\/((∃xs,SqT K H1 a xs)/\R (Itt K a) H1))
theorem x0j{l:Expr}{tl:TE}(hl:PE X l tl):PI X tg l (iSeq X.K tl):=by
 intro pins s σ H R I h;refine thn (hl pins s σ H _ I h) fun v s1 ⟨x,H1,I1,r1,q1⟩=>?_
 obtain⟨a,e,q⟩:=q1;subst e;cases r1;rcases q with⟨⟨xs,hq⟩,q⟩|⟨⟨xs,hq⟩,q⟩
 ·obtain⟨its,rv,p,hz⟩:=I1.list hq;refine wpAny_pyIter_list p.isList ?_;refine⟨s1.heap.objs.size,[s1.heap.objs.size],_,_,H1,rfl,I1.kept (t':=s1.toks) fun b o e=>Heap.get?_push_of_some _ e,x31 a _,⟨_,Heap.get?_push_size _ rfl,rfl,rfl⟩,fun b hb=>?_,q⟩
  have e:b=s1.heap.objs.size:=by simpa using hb
  subst e;exact I1.fpOk (w0d _) (I1.hok.fresh (w0d _))
 ·obtain⟨its,rv,p,hz⟩:=I1.tuple hq;refine wpAny_pyIter_tuple (show s1.heap.IsTuple a its.toArray from p) ?_;refine⟨s1.heap.objs.size,[s1.heap.objs.size],_,_,H1,rfl,I1.kept (t':=s1.toks) fun b o e=>Heap.get?_push_of_some _ e,x23 a _,⟨_,Heap.get?_push_size _ rfl,rfl,rfl⟩,fun b hb=>?_,q⟩
  have e:b=s1.heap.objs.size:=by simpa using hb
  subst e;exact I1.fpOk (w0d _) (I1.hok.fresh (w0d _))
theorem q88{ws:List α}{w:α}(h:ws[k]?=some w):ws.drop k=w::ws.drop (k+1):=by
 obtain⟨hk,rfl⟩:=w0b.mp h;exact w2z hk
theorem x2k{i:Nat}{D:Ends}(r1:Rel K Z G1 σ H1 e1)(rp:Reps K G1 ws xs)(h:PostS K Z EE D G1 (forD i s1 ws e1))(SQ:Hp->Prop)(hSQ:∀G' H',Same G1 G'->Same G' H'->SQ H'):
  ∃Pv:Nat->St->Hp->Prop,Pv 0 σ H1/\(∀j σ H,j<=xs.length->Pv j σ H->SQ H)/\(∀(j:Nat) x σ H,xs[j]?=some x->Pv j σ H->gName i x σ H fun σ2 H2=>liftS K Z EE s1 {D with nx:=Pv (j+1),ct:=Pv (j+1),bk:=D.nx} σ2 H2)/\∀σ H,Pv xs.length σ H->D.nx σ H:=by
 refine⟨fun j σ' H'=>∃G' e',Rel K Z G' σ' H' e'/\Same G1 G'/\PostS K Z EE D G1 (forD i s1 (ws.drop j) e'),⟨G1,e1,r1,.refl _,h⟩,?_,?_,?_⟩
 ·rintro j σ' H' _ ⟨G',e',r',s',_⟩;exact hSQ G' H' s' r'.sub
 ·rintro j x σ' H' hx ⟨G',e',r',s',h⟩;obtain⟨w,hw,pw⟩:=rp.getV hx;rw[q88 hw]at h;exact x6u r' s' (Rep.mono s' w pw) h fun G'' σ'' H'' e'' r'' s'' h''=>⟨G'',e'',r'',s'',h''⟩
 ·rintro σ' H' ⟨G',e',r',s',h⟩;rw[rp.length,w3e]at h;exact h G' σ' H' r' s'
theorem q7j(i:Nat)(hN:X.N.Nodup)(hp:PassesOwn (model X.prog X.w) X.A X.env X.xe)(hc:X.calm=true)(hl:DE Z X EE e d)(hb:DSs Z X EE body s1)
  (hi:X.N[i]?=some x:=by rfl)(hx:Loc X.env.scope x:=by walk_at "3")(hf:X.fn x=true\/X.env.scope.names.lookup x=some .local:=by walk_at "2")(hs:∀x,foldedSetIterable e X.env x=pure x:=by intro _;rfl):
  DS Z X EE (.For (.Name x pos') e body [] pos) (dFor i d s1):=by
 refine PS.mono (x33 hp hc (x0j hl) (q1w i hN hi hx hf) hb hs) ?_;rintro D σ H ⟨G,e,rel,h⟩;refine⟨G,e,rel,(q15 h).imp (fun w e1 h G1 v1 H1 r1 q1 p1=>?_) fun _ _ h=>h⟩
 have key:=fun ws xs (rp:Reps X.K G1 ws xs) (h:PostS X.K Z EE D G (forD i s1 ws e1))=>x2k (i:=i) (D:=D) r1 rp (PostS.trans q1 h)
 cases w with
 |tup ws=>
  obtain⟨a,xs,rfl,hq,rp⟩:=p1;refine⟨a,rfl,.inr ⟨⟨xs,r1.sub.tup hq⟩,?_⟩⟩;obtain⟨Pv,h0,h1,h2,h3⟩:=key ws xs rp h (fun H'=>SqT X.K H' a xs) (fun G' H' s s'=>Same.tup s' (Same.tup s hq))
  exact x8f Pv h0 h1 h2 h3
 |lst ws=>
  obtain⟨a,xs,rfl,hq,rp⟩:=p1;refine⟨a,rfl,.inl ⟨⟨xs,r1.sub.seq hq⟩,?_⟩⟩;obtain⟨Pv,h0,h1,h2,h3⟩:=key ws xs rp h (fun H'=>SqL X.K H' a xs) (fun G' H' s s'=>Same.seq s' (Same.seq s hq))
  exact x6e Pv h0 h1 h2 h3
 |_=>exact h.elim
theorem q7k{lo hi:Int}:Reps K G (rangeW lo hi) ((List.range (hi-lo).toNat).map fun k=>V.int (lo+(k:Nat))):=by
 unfold rangeW;generalize List.range (hi-lo).toNat=l
 induction l with
 |nil=>rfl
 |cons k l ih=>exact⟨_,_,rfl,rfl,ih⟩
theorem x8v{i:Nat}{D:Ends}{lo hi:Int}(r1:Rel K Z G1 σ H1 e1)(h:PostS K Z EE D G1 (forD i s1 (rangeW lo hi) e1)):
  ∃W:Nat->Nat->St->Hp->Prop,(∃m,W 0 m σ H1)/\∀j m σ H,W j m σ H ->
   ((Itr lo (hi-lo).toNat).stop j H/\D.nx σ H)\/((Itr lo (hi-lo).toNat).go j H/\∃N:St->Hp->Prop,(∀σ' H',N σ' H'->∃m',m'<m/\W (j+1) m' σ' H')/\∀x H',(Itr lo (hi-lo).toNat).yld j H x H'->gName i x σ H' fun σ2 H2=>liftS K Z EE s1 {D with nx:=N,ct:=N,bk:=D.nx} σ2 H2):=by
 obtain⟨Pv,h0,h1,h2,h3⟩:=x2k (i:=i) (D:=D) r1 (q7k (lo:=lo) (hi:=hi)) h (fun _=>True) (fun _ _ _ _=>trivial)
 refine x34 Pv h0 (fun j σ' H' hj p=>h2 j _ σ' H' ?_ p) (fun σ' H' p=>h3 σ' H' (by simpa using p))
 simp[hj]
theorem q4k(i:Nat){p1 p2:Pos}(hN:X.N.Nodup)(hp:PassesOwn (model X.prog X.w) X.A X.env X.xe)(hc:X.calm=true)(hm:X.mg "range"=none)(ha:DA Z X EE [a] dA)(hb:DSs Z X EE body s1)
  (hi:X.N[i]?=some x:=by rfl)(hx:Loc X.env.scope x:=by walk_at "3")(hf:X.fn x=true\/X.env.scope.names.lookup x=some .local:=by walk_at "2")(hg:Gl X "range":=by rfl)(hs1:starEach [a] X.env=[(false,eval a X.env)]:=by rfl)(hs:∀x,foldedSetIterable (.Call (.Name "range" p1) [a] [] p2) X.env x=pure x:=by intro _;rfl):
  DS Z X EE (.For (.Name x p) (.Call (.Name "range" p1) [a] [] p2) body [] pos) (dForR i rng1 dA s1):=by
 refine PS.mono (x33 hp hc (q5i hg hm ha hs1) (q1w i hN hi hx hf) hb hs) ?_;rintro D σ H ⟨G,e,rel,h⟩;refine⟨G,e,rel,(q15 h).imp (fun ws e1 h G1 vs H1 r1 q1 p1=>?_) fun _ _ h=>h⟩
 unfold rng1 at h;split at h
 ·rename_i hh;split at hh
  ·rename_i j;split at hh
   ·rename_i hj;cases hh;obtain⟨y,r,rfl,e1,e2⟩:=p1;cases(show y=V.int j from e1);cases(show r=[]from e2);refine⟨j,rfl,(q7i hj).1,(q7i hj).2,?_⟩;have z:=x8v (i:=i) (D:=D) r1 (PostS.trans q1 h)
    rwa [w4b]at z
   ·cases hh
  ·cases hh
 ·exact h.elim
end
open PyProof.Rows (envOfC)
inductive FR where
 |ok (s:S)|ex (c:Value)|no
variable{F:List W->FR}
noncomputable def spF(K:PySem.W.Frag)(F:List W->FR):Sp:=fun vs H Q E=>∃G ws,Same G H/\Reps K G ws vs/\match F ws with
 |.ok s=>∀G' H' v,Grow G H G' H'->SlotOk K ⟨H,G,[]⟩ G' H' s (some v)->Q v H'
 |.ex c=>∀H',Same H H'->E c none H'
 |.no=>False
noncomputable def SR.fn:SR->FR
 |.nx _=>.ok (.fr .non)
 |.rt s _=>.ok s
 |.ex c _=>.ex c
 |_=>.no
noncomputable def init(n:Nat)(ws:List W):List S:=ws.map .fr++List.replicate (n-ws.length) .no
theorem q6z{N:List Str}(s:Same G H)(r:Reps K G ws vs):Rel K ⟨H,G,[]⟩ G (L2.start N vs) H (init N.length ws):=by
 have hl:=r.length
 have hfr:∀(i:Nat)(s:S),(init N.length ws)[i]?=some s->(s=.no)\/∃w,s=.fr w/\ws[i]?=some w:=fun i s h=>by
  unfold init at h;rw[List.getElem?_append]at h;split at h
  ·rw[w1a]at h;obtain⟨w,h1,rfl⟩:=w0m.mp h;exact .inr ⟨w,rfl,h1⟩
  ·rw[w1m]at h;split at h
   ·cases h;exact .inl rfl
   ·cases h
 refine⟨s,fun i t h=>?_,?_,fun i j b b' w1 w2 a h1 h2 _ _=>?_,fun a o h _=>h,(fun a h=>nomatch h),fun a _=>rfl⟩
 ·rcases hfr i t h with rfl|⟨w,rfl,h1⟩
  ·trivial
  ·obtain⟨v,h2,h3⟩:=r.get h1;refine⟨v,?_,h3⟩;have hi:i<vs.length:=(w0b.mp h2).1;unfold L2.start;rw[w2f (by simpa using hi),w1a,h2];rfl
 ·unfold init L2.start;simp[hl]
 ·rcases hfr i _ h1 with z|⟨w,z,_⟩<;>cases z
theorem Rel.toGrow(r:Rel K ⟨H,G,[]⟩ G' σ H' e)(s:Same G G'):Grow G H G' H':=
 ⟨fun a o h=>r.ent a o h (by simp),s,r.sub,fun a h=>r.gen a h⟩
section
variable{P:Program}{w:World}{mg:Str->Option Value}{base:Heap}
theorem q7l{Q:VK}{E:XK}(h:spF K F vs H Q E):∃G ws,F ws≠.no/\Reps K G ws vs:=by
 obtain⟨G,ws,_,r,h⟩:=h;refine⟨G,ws,fun z=>?_,r⟩
 rw[z]at h;exact h
theorem q8e{Q:VK}{E:XK}{r:SR}(he:r.fn=F ws)(h:match F ws with
  |.ok s=>∀G' H' v,Grow G H G' H'->SlotOk K ⟨H,G,[]⟩ G' H' s (some v)->Q v H'
  |.ex c=>∀H',Same H H'->E c none H'
  |.no=>False):PostS K ⟨H,G,[]⟩ (fun _=>E) {nx:=fun _ H'=>Q .non H',rt:=Q} G r:=by
 rw[<- he]at h;cases r with
 |nx e=>exact fun G' σ' H' r s=>h G' H' .non (r.toGrow s) ⟨.non,rfl,rfl⟩
 |rt s e=>exact fun G' σ' v H' r q p=>h G' H' v (r.toGrow q) p
 |ex c e=>exact fun G' σ' H' r s=>h H' (r.toGrow s).hh
 |bk e=>exact h.elim
 |ct e=>exact h.elim
 |no=>exact h.elim
theorem con{N ps:List Str}(A:At K mg x st ps)(sc:FnScope N ps (defScope st))(len:∀ws,F ws≠.no->ws.length=ps.length)
  (hb:∀ws,F ws≠.no->∀(f:Addr)(cdv:Value)(A:Around)(outer:List Env)(s:Shared)(H:Hp)(E:XK)(Z:Zt),Room k (A.deeper (envOfC x (defScope st) s.heap.objs.size f cdv)) ->
   ∃d,DSs Z (cxOf (CX1 P w) P w K mg base N x (defScope st) f cdv A outer s H E) (fun _=>E) (defBody st) d/\(d (init N.length ws)).fn=F ws):Cal P w K mg base (k+1) x ps (spF K F):=by
 refine A.cal sc (fun vs H Q E h=>?_) (fun f cdv A outer s H vs Q E hr h=>?_)
 ·obtain⟨G,ws,hn,r⟩:=q7l h;rw[r.length];exact len ws hn
 ·have hn0:=h;obtain⟨G,ws,sg,rp,h⟩:=h;have hn:F ws≠.no:=fun z=>by rw[z]at h;exact h
  obtain⟨d,hd,he⟩:=hb ws hn f cdv A outer s H E ⟨H,G,[]⟩ hr;exact⟨_,hd,G,init N.length ws,q6z sg rp,q8e he h⟩
end
noncomputable def dCall(F:List W->FR)(dA:Den (List W)):Den W:=fun e=>(dA e).bind fun ws e1=>match F ws with
 |.ok (.fr w)=>.ok w e1
 |.ok (.own none ws')=>.ok (.lst ws') e1
 |.ok (.dic kvs)=>.ok (.dic kvs) e1
 |.ok (.thr us ws vs)=>.ok (.tup (us++.lst ws::vs)) e1
 |.ok (.x (.new w))=>.ok w e1
 |.ok (.x (.tn us wss))=>.ok (.tup (us++[.lst (wss.map .lst)])) e1
 |.ex c=>.ex c e1
 |_=>.no
section
variable{e:Expr}{ps:List Str}
theorem x0k{s:S}(r1:Rel K Z G1 σ H1 e1)(g:Grow G1 H1 G' H')(q:SlotOk K ⟨H1,G1,[]⟩ G' H' s (some v))(hs:s=.fr w\/∃ws,s=.own none ws/\w=.lst ws):
  ∃G'',Rel K Z G'' σ H' e1/\Same G1 G''/\Rep K G'' w v:=by
 rcases hs with rfl|⟨ws,rfl,rfl⟩
 ·obtain⟨u,h1,h2⟩:=q;cases h1;exact⟨G',r1.grow g,g.gg,h2⟩
 ·obtain⟨a,xs,h1,h2,h3,h4,h5⟩:=q;cases h1;have hn:H1 a=none:=h4;obtain⟨sg,rg⟩:=(r1.grow g).seen h2 h3 (q20 r1 hn) (q3i r1 hn);exact⟨_,rg,g.gg.trans sg,⟨a,xs,rfl,SqL.of q0g,Reps.mono sg ws h5⟩⟩
theorem x4l{kvs:Dd}(r1:Rel K Z G1 σ H1 e1)(g:Grow G1 H1 G' H')(q:SlotOk K ⟨H1,G1,[]⟩ G' H' (.dic kvs) (some v)):
  ∃G'',Rel K Z G'' σ H' e1/\Same G1 G''/\Rep K G'' (.dic kvs) v:=by
 obtain⟨a,h1,h2,h3,h4⟩:=q;cases h1;have hn:H1 a=none:=h4;have r:=r1.grow g;have sg:Same G' (upd G' a (dO kvs)):=q25 h3 _;refine⟨upd G' a (dO kvs),⟨fun c o z=>?_,fun j s z=>?_,r.len,r.dis,r.ent,r.ion,fun c z=>?_⟩,g.gg.trans sg,⟨a,rfl,q0g⟩⟩
 ·by_cases hc:c=a
  ·subst hc;rw[q0g]at z;cases z;exact h2
  ·rw[q0b hc]at z;exact r.sub c o z
 ·have y:=r.slot j s z;have y1:=r1.slot j s z;cases s with
  |no=>trivial
  |fr w=>
   obtain⟨u,y1,y2⟩:=y;exact⟨u,y1,Rep.mono sg w y2⟩
  |own b2 w2=>
   obtain⟨c,ys,x1,x2,x3,x4,x5⟩:=y;refine⟨c,ys,x1,x2,?_,x4,Reps.mono sg w2 x5⟩;rw[q0b (q0p x2 h2 (fun z=>q29 rfl z.symm))];exact x3
  |dic kv=>
   obtain⟨c,x1,x2,x3,x4⟩:=y;obtain⟨c',w1,w2,_⟩:=y1;rw[x1]at w1;cases w1;refine⟨c,x1,x2,?_,x4⟩;rw[q0b (q0j w2 hn)];exact x3
  |thr us w2 vs=>
   obtain⟨t,l,o,xs2,ys,zs,x1,x2,x3,x4,x5,x6,x7,x8⟩:=y;refine⟨t,l,o,xs2,ys,zs,x1,sg _ _ x2,x3,?_,x5,Reps.mono sg us x6,Reps.mono sg w2 x7,Reps.mono sg vs x8⟩;rw[q0b (q0p x3 h2 (fun z=>q29 rfl z.symm))];exact x4
  |nest wss=>exact NestOk.move y sg fun l o ys k1 k2 k3=>⟨k1,by rw[q0b (q0p k1 h2 (fun z=>q29 rfl z.symm))];exact k2,k3⟩
  |x k=>exact XOk.move y sg fun l o ys k1 k2 k3=>⟨k1,by rw[q0b (q0p k1 h2 (fun z=>q29 rfl z.symm))];exact k2,k3⟩
  |dw sh ks ws=>exact DwOk.move y sg fun l o ys k1 k2 k3=>⟨k1,by rw[q0b (q0p k1 h2 (fun z=>q29 rfl z.symm))];exact k2,k3⟩
 ·by_cases hc:c=a
  ·subst hc;exact absurd (q20 r1 hn) z
  ·rw[q0b hc];exact r.gen c z
theorem x4m{us vs:List W}(r1:Rel K Z G1 σ H1 e1)(g:Grow G1 H1 G' H')(q:SlotOk K ⟨H1,G1,[]⟩ G' H' (.thr us ws vs) (some v)):
  ∃G'',Rel K Z G'' σ H' e1/\Same G1 G''/\Rep K G'' (.tup (us++.lst ws::vs)) v:=by
 obtain⟨t,l,o,xs,ys,zs,h1,h2,h3,h4,h5,h6,h7,h8⟩:=q;cases h1;have hn:H1 l=none:=h5;have r:=r1.grow g;have sg:Same G' (upd G' l (.frz o (.lst ys))):=q25 h4 _;refine⟨upd G' l (.frz o (.lst ys)),⟨fun c u z=>?_,fun j s z=>?_,r.len,r.dis,r.ent,r.ion,fun c z=>?_⟩,g.gg.trans sg,⟨t,_,rfl,SqT.of (sg _ _ h2),(Reps.mono sg us h6).append ⟨.ref l,zs,rfl,⟨l,ys,rfl,.inl (.inr ⟨o,q0g⟩),Reps.mono sg ws h7⟩,Reps.mono sg vs h8⟩⟩⟩
 ·by_cases hc:c=l
  ·subst hc;rw[q0g]at z;cases z;exact h3
  ·rw[q0b hc]at z;exact r.sub c u z
 ·have y:=r.slot j s z;have y1:=r1.slot j s z;cases s with
  |no=>trivial
  |fr w=>
   obtain⟨u,y1,y2⟩:=y;exact⟨u,y1,Rep.mono sg w y2⟩
  |own b2 w2=>
   obtain⟨c,ys,x1,x2,x3,x4,x5⟩:=y;refine⟨c,ys,x1,x2,?_,x4,Reps.mono sg w2 x5⟩;rw[q0b (q0p x2 h3 (fun z=>nomatch z))];exact x3
  |dic kv=>
   obtain⟨c,x1,x2,x3,x4⟩:=y;refine⟨c,x1,x2,?_,x4⟩;rw[q0b (q0p x2 h3 (q29 rfl))];exact x3
  |thr us w2 vs=>
   obtain⟨t1,l1,o1,xs1,ys1,zs1,w1,w2',w3,w4,w5,w6,w7,w8⟩:=y1;have sg2:=g.gg.trans sg;refine⟨t1,l1,o1,xs1,ys1,zs1,w1,sg2 _ _ w2',g.hh _ _ w3,?_,w5,Reps.mono sg2 us w6,Reps.mono sg2 w2 w7,Reps.mono sg2 vs w8⟩;rw[q0b (q0j w3 hn),g.new l1 (by rw[w3];simp)];exact w4
  |nest wss=>exact NestOk.move y1 (g.gg.trans sg) fun l1 o ys k1 k2 k3=>⟨g.hh _ _ k1,by rw[q0b (q0j k1 hn),g.new l1 (by rw[k1];simp)];exact k2,k3⟩
  |x k=>exact XOk.move y1 (g.gg.trans sg) fun l1 o ys k1 k2 k3=>⟨g.hh _ _ k1,by rw[q0b (q0j k1 hn),g.new l1 (by rw[k1];simp)];exact k2,k3⟩
  |dw sh ks ws=>exact DwOk.move y1 (g.gg.trans sg) fun l1 o ys k1 k2 k3=>⟨g.hh _ _ k1,by rw[q0b (q0j k1 hn),g.new l1 (by rw[k1];simp)];exact k2,k3⟩
 ·by_cases hc:c=l
  ·subst hc;exact absurd (q20 r1 hn) z
  ·rw[q0b hc];exact r.gen c z
theorem NestIn.mem0:∀{ls:List Addr}{wss:List (List W)},NestIn K Z G H ls wss->∀l∈ls,∃o ys,FzAt Z G H l o ys
 |[],_,_,_,hl=>nomatch hl
 |l::ls,ws::wss,⟨⟨o,ys,h1,_⟩,h⟩,c,hc=>by
  rcases w0s.mp hc with rfl|hc
  ·exact⟨o,ys,h1⟩
  ·exact h.mem0 c hc
 |_::_,[],h,_,_=>h.elim
theorem NestIn.reps0(sg:Same G G'):∀{ls:List Addr}{wss:List (List W)},(∀l∈ls,G' l=H l)->NestIn K Z G H ls wss->Reps K G' (wss.map W.lst) (ls.map V.ref)
 |[],[],_,_=>rfl
 |l::ls,ws::wss,hf,⟨⟨o,ys,h1,h4⟩,h⟩=>⟨.ref l,ls.map V.ref,rfl,⟨l,ys,rfl,.inl (.inr ⟨o,by rw[hf l (by simp)];exact h1.1⟩),Reps.mono sg ws h4⟩,h.reps0 sg fun c hc=>hf c (by simp[hc])⟩
 |[],_::_,_,h=>h.elim
 |_::_,[],_,h=>h.elim
theorem Rel.addNew(r1:Rel K Z G1 σ H1 e1)(g:Grow G1 H1 G' H')(As:List Addr) [DecidablePred (·∈As)](hA:∀c∈As,(∃o ys,H' c=some (.frz o (.lst ys)))/\G' c=none/\H1 c=none):
  Same G' (fun c=>if c∈As then H' c else G' c)/\Rel K Z (fun c=>if c∈As then H' c else G' c) σ H' e1:=by
 have sg:Same G' (fun c=>if c∈As then H' c else G' c):=fun c o z=>by
  show(if c∈As then H' c else G' c)=some o;rw[if_neg (fun m=>by rw[(hA c m).2.1]at z;cases z)];exact z
 refine⟨sg,r1.grow ⟨g.hh,g.gg.trans sg,fun c o z=>?_,fun c hc=>?_⟩⟩
 ·have z:(if c∈As then H' c else G' c)=some o:=z;split at z
  ·exact z
  ·exact g.sub c o z
 ·show(if c∈As then H' c else G' c)=G1 c;rw[if_neg (fun m=>hc (hA c m).2.2)];exact g.new c hc
theorem x6v{us:List W}{wss:List (List W)}(r1:Rel K Z G1 σ H1 e1)(g:Grow G1 H1 G' H')(q:SlotOk K ⟨H1,G1,[]⟩ G' H' (.x (.tn us wss)) (some v)):
  ∃G'',Rel K Z G'' σ H' e1/\Same G1 G''/\Rep K G'' (.tup (us++[.lst (wss.map .lst)])) v:=by
 classical
 obtain⟨t,l,o,ls,xs,h1,h2,⟨h3,h4,h5⟩,⟨h6,h7⟩,h8,h9⟩:=q;cases h1
 obtain⟨sg,r2⟩:=r1.addNew g (l::ls) fun c hc=>by
  rcases w0s.mp hc with rfl|hc
  ·exact⟨⟨o,_,h3⟩,h4,h5⟩
  ·obtain⟨o',ys,k1,k2,k3⟩:=h9.mem0 c hc;exact⟨⟨o',ys,k1⟩,k2,k3⟩
 refine⟨_,r2,g.gg.trans sg,t,_,rfl,SqT.of (sg _ _ h2),(Reps.mono sg us h8).append ⟨.ref l,[],rfl,⟨l,_,rfl,.inl (.inr ⟨o,?_⟩),h9.reps0 sg fun c hc=>if_pos (w0t _ hc)⟩,rfl⟩⟩
 show(if l∈l::ls then H' l else G' l)=_;rw[if_pos (w1c ..)];exact h3
theorem y4b{c:Value}(r1:Rel K Z G1 σ H1 e1)(s1:Same G G1)(h:XH K Z EE σ G c e1):∀H',Same H1 H'->EE σ c none H':=fun H' sh=>
 h G1 H' (r1.grow ⟨sh,.refl _,r1.sub.trans sh,fun _ _=>rfl⟩) s1
theorem q0i(C:Cal X.prog X.w X.K X.mg X.base k x ps (spF X.K F))(hr:Room k X.A)(hx:PassX (CX1 X.prog X.w) X EE)(ha:DA Z X EE (e::es) dA)(hg:Gl X x:=by rfl)
  (hdb:(x==("__debug__":Str))=false:=by decide)(he:starEach (e::es) X.env=(false,eval e X.env)::starEach es X.env:=by rfl)(hpl:(backTo pos (starEach es X.env)).any (·.1)=false:=by rfl):
  DE Z X EE (.Call (.Name x p) (e::es) [] pos) (dCall F dA):=by
 refine PE.mono (y1f C hr hx ha hg hdb he hpl) ?_;rintro σ H Q ⟨G,e,rel,h⟩;simp only[dCall,R.holds_bind]at h;refine⟨G,e,rel,h.imp (fun ws e1 h G1 vs H1 r1 s1 p1=>?_) fun _ _ h=>h⟩
 refine⟨G1,ws,r1.sub,by rw[w2t];exact p1,?_⟩;cases q:F ws with
 |ok s=>
  rw[q]at h;intro G' H' v g sl;cases s with
  |no=>exact h.elim
  |fr w=>
   obtain⟨G'',r2,s2,p2⟩:=x0k r1 g sl (.inl rfl);exact(show ∀G' v H',_->_->Rep X.K G' w v->Q v H' from h) G'' v H' r2 (s1.trans s2) p2
  |own b ws'=>
   cases b with
   |some _=>exact h.elim
   |none=>
    obtain⟨G'',r2,s2,p2⟩:=x0k r1 g sl (.inr ⟨ws',rfl,rfl⟩);exact(show ∀G' v H',_->_->Rep X.K G' (.lst ws') v->Q v H' from h) G'' v H' r2 (s1.trans s2) p2
  |dic kvs=>
   obtain⟨G'',r2,s2,p2⟩:=x4l r1 g sl;exact(show ∀G' v H',_->_->Rep X.K G' (.dic kvs) v->Q v H' from h) G'' v H' r2 (s1.trans s2) p2
  |thr us ws' vs'=>
   obtain⟨G'',r2,s2,p2⟩:=x4m r1 g sl;exact(show ∀G' v H',_->_->Rep X.K G' (.tup (us++.lst ws'::vs')) v->Q v H' from h) G'' v H' r2 (s1.trans s2) p2
  |nest _=>exact h.elim
  |x k=>
   cases k with
   |new w=>
    obtain⟨u,h1,h2⟩:=sl;cases h1;exact(show ∀G' v H',_->_->Rep X.K G' w v->Q v H' from h) G' _ H' (r1.grow g) (s1.trans g.gg) (RepN.rep _ h2)
   |tn us wss=>
    obtain⟨G'',r2,s2,p2⟩:=x6v r1 g sl;exact(show ∀G' v H',_->_->Rep X.K G' (.tup (us++[.lst (wss.map .lst)])) v->Q v H' from h) G'' v H' r2 (s1.trans s2) p2
   |_=>exact h.elim
  |dw _ _ _=>exact h.elim
 |ex c=>
  rw[q]at h;exact y4b r1 s1 h
 |no=>rw[q]at h;exact h.elim
noncomputable def dRaise(C:Addr)(d:Den (List W)):List S->SR:=fun e=>(d e).stm fun ws e1=>if ws.length<=16777216 then .ex (.ref C) e1 else .no
theorem q60{C Ac:Addr}{np cpos:Pos}(hx:RaisX X EE)(hC:excIn X.K C Ac=true)(hm:X.mg x=some (.ref C))(hc:X.calm=true)(ha:DA Z X EE (e::es) dA)(hg:Gl X x:=by rfl)
  (hdb:(x==("__debug__":Str))=false:=by decide)(he:starEach (e::es) X.env=(false,eval e X.env)::starEach es X.env:=by rfl)(hpl:(backTo cpos (starEach es X.env)).any (·.1)=false:=by rfl):
  DS Z X EE (.Raise (some (.Call (.Name x np) (e::es) [] cpos)) none pos) (dRaise C dA):=by
 refine PS.mono (x6m hx hc hg hm hC ha hdb he hpl) ?_;rintro D σ H ⟨G,e,rel,h⟩;refine⟨G,e,rel,(q15 h).imp (fun ws e1 h G1 vs H1 r1 s1 p1=>?_) fun _ _ h=>h⟩
 split at h
 ·rename_i hl;exact⟨by rw[p1.length,sizeLine_eq];exact hl,h G1 σ H1 r1 s1⟩
 ·exact h.elim
noncomputable def dTry(K:PySem.W.Frag)(c:Addr)(i n:Nat)(b h:List S->SR):List S->SR:=fun e=>match b e with
 |.ex cls e'=>if exmOne K cls (.ref c)=some true then(match h (e'.set i (.fr (.exc cls)))with
  |.nx _=>.nx (List.replicate n .no)
  |.bk _=>.bk (List.replicate n .no)
  |.ct _=>.ct (List.replicate n .no)
  |.rt s e''=>.rt s e''
  |_=>.no)else .no
 |r=>r
theorem Rel.blank{e:List S}(r:Rel K Z G σ H e)(n:Nat):Rel K Z G (List.replicate n none) H (List.replicate n .no):=by
 have hno:∀(i:Nat)(s:S),(List.replicate n S.no)[i]?=some s->s=.no:=fun i s h=>by
  rw[w1m]at h;split at h
  ·cases h;rfl
  ·cases h
 refine⟨r.sub,fun i s h=>?_,by simp,fun i j b b' w1 w2 a h1 h2 _ _=>?_,r.ent,r.ion,r.gen⟩
 ·rw[hno i s h];trivial
 ·cases hno _ _ h1
theorem y1k{body suite:List Stmt}{b₀:Stmt}{c n:Str}{Cc:Addr}{np hpos:Pos}{dB dH:List S->SR}
  (hm:X.mg c=some (.ref Cc))(hN:X.N.Nodup)(hi:X.N[i]?=some n)(hx:X.env.scope.names.lookup n=some .local)
  (hb:∀(EE:St->XK)(pn:List (Addr×Obj))(xe:Value->Shared->Prop),PassX (CX1 X.prog X.w) (X.tr pn xe) EE->DSs Z (X.tr pn xe) EE body dB)
  (hh:∀e:Addr,DSs Z (X.hn e) (fun _=>E0) (b₀::suite) dH)(hg:Gl X c:=by rfl)
  (hs:X.stack=X.env::X.outer:=by rfl)(hf:X.env.frame=some X.env.locals:=by rfl)(hdb:(c==("__debug__":Str))=false:=by decide):
  DS Z X EE (.Try body [.ExceptHandler (some (.Name c np)) (some n) (b₀::suite) hpos] [] [] pos) (dTry X.K Cc i X.N.length dB dH):=by
 refine PS.mono (y1d (tb:=fun EE=>liftS X.K Z EE dB) (th:=liftS X.K Z (fun _=>E0) dH) hg hm hN hi hx hb hh hs hf hdb) ?_
 rintro D σ H ⟨G,e,rel,h⟩;refine⟨G,e,rel,?_⟩;unfold dTry at h;cases q:dB e with
 |nx e'=>rw[q]at h;exact h
 |bk e'=>rw[q]at h;exact h
 |ct e'=>rw[q]at h;exact h
 |rt w e'=>rw[q]at h;exact h
 |no=>rw[q]at h;exact h
 |ex cls e'=>
  rw[q]at h;intro G1 σ1 H1 r1 s1;dsimp only at h;split at h
  ·rename_i hq;refine⟨hq,fun ex hex=>?_⟩
   have g:=Grow.laid r1.sub hex (excO ex cls);refine⟨_,e'.set i (.fr (.exc cls)),(r1.grow g).set (v:=.ref ex) ⟨ex,rfl,q0g⟩,?_⟩;have sg:=s1.trans g.gg;cases q2:dH (e'.set i (.fr (.exc cls)))with
   |nx e2=>rw[q2]at h;exact fun G2 σ2 H2 r2 s2=>h G2 _ H2 (r2.blank _) (sg.trans s2)
   |bk e2=>rw[q2]at h;exact fun G2 σ2 H2 r2 s2=>h G2 _ H2 (r2.blank _) (sg.trans s2)
   |ct e2=>rw[q2]at h;exact fun G2 σ2 H2 r2 s2=>h G2 _ H2 (r2.blank _) (sg.trans s2)
   |rt w e2=>rw[q2]at h;exact fun G2 σ2 v H2 r2 s2 p2=>h G2 σ2 v H2 r2 (sg.trans s2) p2
   |ex c2 e2=>rw[q2]at h;exact h.elim
   |no=>rw[q2]at h;exact h.elim
  ·exact h.elim
end
end D
namespace L2
open PySem PySem.Spec PyProof.Rows
section
variable{X:Cx}{elt target iter:Expr}{ifs:List Expr}{scope:Scope}{pos:Pos}{wi:TI}{g:TG}{tc:TT}{te:TE}
theorem x6w{Nl Nf:List Str}{js:List Nat}{y:Str}{py spos:Pos}{gy:TG}(hc:X.calm=true)(hi:PI X target iter wi)
  (hk:scope.kind=.function)(hcell:∀y∈scope.names,y.2≠.cell)(hnames:∀x∈scope.names,x.2=.local->scope.names.lookup x.1=some .local)
  (hfree:∀x∈scope.names,x.2=.free->X.env.kindOf x.1=some .cell\/X.env.kindOf x.1=some .free)
  (hj:∀(i j:Nat) y,Nf[i]?=some y->js[i]?=some j->X.N[j]?=some y)(hlen:js.length=Nf.length)
  (hNf:∀y∈Nf,(y,NameKind.free)∈scope.names/\Vis X.env.scope y/\X.env.kindOf y≠some .local)
  (hvis:∀y∈Nf,(relabel scope X.env).names.lookup y=some .cell\/(relabel scope X.env).names.lookup y=some .free)
  (hg:∀cl C s₀ H₀ ex,PG (X.cp (Nl++Nf) scope cl C s₀ H₀ ex) target g)(ht:∀cl C s₀ H₀ ex,PTs (X.cp (Nl++Nf) scope cl C s₀ H₀ ex) ifs tc)(he:∀cl C s₀ H₀ ex,PE (X.cp (Nl++Nf) scope cl C s₀ H₀ ex) elt te)
  (hgy:PG X (.Name y py) gy)(hsw:swapsWith (.ListComp elt [⟨target,iter,ifs,0⟩] scope pos) (some (.Name y py)) spos.line X.env=pure true)
  (hs:∀x,foldedSetIterable iter X.env x=pure x:=by intro _;rfl):
  PS X (.Assign [.Name y py] (.ListComp elt [⟨target,iter,ifs,0⟩] scope pos) spos) (tAsg (tComp wi Nl.length js g tc te) gy):=by
 intro pins s σ H D I h;obtain⟨cl,hclos,hcl,hcf⟩:=q7g (scope:=scope) (env:=X.env) fun x hx hf=>I.ok.has x.1 (hfree x hx hf)
 rw[exec_Assign_Name_used _ _ _ _ hsw];refine wpAny_bind (wpAny_standAt (wpAny_bind ?_));show wpAny _ _ (do let _ <- comprehension _ _ _ _ _ _ _ _) _ _ _;refine wpAny_bind (wpAny_comprehension_free (Q:=fun _ s''=>wpAny (model X.prog X.w) X.A (pure ()) (fun _ s3=>wpAny (model X.prog X.w) X.A (pure Flow.next) (SP X pins D) X.xe s3) X.xe s'') (use:=some (assign (.Name y py) X.env)) rfl hs hclos hk hnames (thn (hi pins s σ H _ I h) fun v s1 h1=>thn h1 fun itv s2 h2=>?_))
 obtain⟨it,fp,tn,J,H2,e,I2,T,st2,f2,rd⟩:=h2;subst e;refine wpAny_newObj_type (wpAny_newFunctionEnv hcell (by intro y hy;simp at hy) (fun h₁ hns₁ hsb₁=>?_) hk)
 dsimp only at hns₁ hsb₁ |-
 have szp:(s2.heap.push {cls:=.type "list", dict:=none,data:=.seq ([]:List Value).toArray}).objs.size=s2.heap.objs.size+1:=Heap.size_push ..;rw[szp]at hns₁ hsb₁ |-
 have fD:H2 s2.heap.objs.size=none:=I2.hok.fresh (w0d _);obtain⟨W,⟨m0,w0⟩,turn⟩:=rd s2.heap.objs.size fD;have obj2:=T.obj 0 s2.heap st2;have IS:=x0d (Nl:=Nl) (Nf:=Nf) (js:=js) (cl:=cl) (tk:=s2.toks+([]:List (Str×Value)).length) I2 f2 obj2 hk hcell hcl hcf hj hlen hNf hvis hns₁ hsb₁
 have upS:∀b u,s2.heap.get? b=some u->h₁.get? b=some u:=fun b u q=>by
  have hlt:=Heap.lt_size q;exact(hsb₁.2 b (w0p (w2k hlt))).trans (Heap.get?_push_of_some _ (Heap.get?_push_of_some _ q))
 have stS:tn 0 h₁:=T.keep 0 s2.heap h₁ st2 fun b hb o q=>upS b o q
 have noD:∀b∈fp,upd H2 s2.heap.objs.size (.lst []) b=none:=fun b hb=>by
  obtain⟨o,q,_⟩:=obj2 b hb;rw[q0b (w0p (Heap.lt_size q))];exact(f2 b hb).1
 have stat:∀{H':Hp},(∀b∈fp,H' b=none)->∀b∈fp,FpOk (X.cp (Nl++Nf) scope cl (s2.heap.objs.size+1) {s2 with heap:=s2.heap.push {cls:=.type "list", dict:=none,data:=.seq ([]:List Value).toArray}} (upd H2 s2.heap.objs.size (.lst [])) fp) [] H' b:=fun hn b hb=>by
  refine⟨hn b hb,(IS.ok.exf b hb).1,IS.ok.exfs b hb,.inl hb,(IS.ok.exf b hb).2,fun p hp=>(by cases hp)⟩
 have loop:∀s4:Shared,s4={s2 with heap:=h₁,toks:=s2.toks+([]:List (Str×Value)).length} ->
   codeAny (model X.prog X.w) X.A (.compLoop (.ListComp elt [⟨target,iter,ifs,0⟩] scope pos) 0 (.ref it) (.ref s2.heap.objs.size) (compEnvC scope cl (s2.heap.objs.size+1) X.env))
    (compPost (model X.prog X.w) X.A X.xe (some (assign (.Name y py) X.env)) (fun _ s''=>wpAny (model X.prog X.w) X.A (pure ()) (fun _ s3=>wpAny (model X.prog X.w) X.A (pure Flow.next) (SP X pins D) X.xe s3) X.xe s'') (.ref s2.heap.objs.size) (s2.heap.objs.size+1)) s4:=by
  rintro s4 rfl;refine q87 (fun n s'=>∃i H',Inv (X.cp (Nl++Nf) scope cl (s2.heap.objs.size+1) {s2 with heap:=s2.heap.push {cls:=.type "list", dict:=none,data:=.seq ([]:List Value).toArray}} (upd H2 s2.heap.objs.size (.lst [])) fp) [] (List.replicate Nl.length none++pj js σ) H' s'/\tn i s'.heap/\(∀b∈fp,H' b=none)/\W i n H') ?_ m0 ⟨0,_,IS,stS,noD,w0⟩
  rintro n s3 ⟨i,H3,I3,st3,fr3,w3⟩;rcases turn i n H3 w3 with⟨stop,qn⟩|⟨go,step⟩
  ·refine thn (T.done (X.cp (Nl++Nf) scope cl (s2.heap.objs.size+1) {s2 with heap:=s2.heap.push {cls:=.type "list", dict:=none,data:=.seq ([]:List Value).toArray}} (upd H2 s2.heap.objs.size (.lst [])) fp) rfl rfl rfl hc i [] s3 _ H3 _ I3 (stat fr3) st3 stop) fun r s5 ⟨hr,I5⟩=>?_
   subst hr;obtain⟨m5,hn5,_⟩:=I5.loc;obtain⟨o5,es5,ep5,ho5,hd5,hk5,hf5⟩:=id hn5;have J5:Inv X pins σ H3 s5:=x4c I2 f2 I5 (h':=s5.heap) ⟨rfl,fun _ _=>rfl⟩
   have fC:FpOk X pins H3 (s2.heap.objs.size+1):=I2.fpOk (w3o _) I5.free;have f1:∀b∈[s2.heap.objs.size+1],FpOk X pins H3 b:=fun b hb=>by rw[w1j.mp hb];exact fC
   have J6:=J5.pinned f1 (fun b hb=>by rw[w1j.mp hb];exact⟨o5,ho5,fun v z=>by rw[hd5]at z;cases z⟩)
   refine thn (hgy _ s5 σ H3 (.ref s2.heap.objs.size) _ _ J6 rfl qn) fun _ s6 ⟨σ6,H6,I6,q6⟩=>?_
   have pC:=I6.pin (s2.heap.objs.size+1,o5) (w0h _ (w0h _ (q2h (w1j.mpr rfl) ho5)));refine⟨m5,⟨o5,es5,ep5,pC.1,hd5,hk5,hf5⟩,fun h' hs'=>wpAny_pure (wpAny_pure ⟨σ6,H6,?_,q6⟩)⟩
   obtain⟨g0,g1,g2,g3,g4,g5⟩:=fC;exact I6.unpinned.turned (t':=s6.toks) (fun b o hb e=>(hs'.2 b hb).trans e) pC.2.1 g1 g3 g4 g5
  ·refine thn (T.item (X.cp (Nl++Nf) scope cl (s2.heap.objs.size+1) {s2 with heap:=s2.heap.push {cls:=.type "list", dict:=none,data:=.seq ([]:List Value).toArray}} (upd H2 s2.heap.objs.size (.lst [])) fp) rfl rfl rfl hc i [] s3 _ H3 _ I3 (stat fr3) st3 go) fun r s5 ⟨u,hr,h5⟩=>?_
   subst hr;refine thn h5 fun _ s6 ⟨x,H6,I6,r6,y6,st6,fr6⟩=>?_
   have I6':=I6.pinned (stat fr6) (T.obj _ _ st6);refine thn (hg _ _ _ _ _ _ s6 _ H6 x u _ I6' r6 (step x H6 y6)) fun _ s7 ⟨σ7,H7,I7,kp,q7⟩=>?_
   refine thn (ht _ _ _ _ _ _ s7 σ7 H7 _ I7 q7) fun ok s8 ⟨H8,I8,q8⟩=>?_
   have again:∀{σ9:St}{H9:Hp}{s9:Shared},Inv (X.cp (Nl++Nf) scope cl (s2.heap.objs.size+1) {s2 with heap:=s2.heap.push {cls:=.type "list", dict:=none,data:=.seq ([]:List Value).toArray}} (upd H2 s2.heap.objs.size (.lst [])) fp) ([]++pinsAt fp s6.heap) σ9 H9 s9 ->
     Kp (List.replicate Nl.length none++pj js σ) σ9->(∃m',m'<n/\W (i+1) m' H9)->∃m,m<n/\∃i H',Inv (X.cp (Nl++Nf) scope cl (s2.heap.objs.size+1) {s2 with heap:=s2.heap.push {cls:=.type "list", dict:=none,data:=.seq ([]:List Value).toArray}} (upd H2 s2.heap.objs.size (.lst [])) fp) [] (List.replicate Nl.length none++pj js σ) H' s9/\tn i s9.heap/\(∀b∈fp,H' b=none)/\W i m H':=fun {σ9 H9 s9} I9 hw ⟨m',hm,w9⟩=>by
    refine⟨m',hm,i+1,H9,I9.unpinned.weak (by rw[I9.len,<- IS.len]) hw,T.keep _ _ _ st6 fun b hb o q=>(I9.pin (b,o) (w0h _ (w0h _ (q2h hb q)))).1,fun b hb=>?_,w9⟩
    obtain⟨o,q,d⟩:=T.obj _ _ st6 b hb;exact(I9.pin (b,o) (w0h _ (w0h _ (q2h hb q)))).2.1
   cases ok with
   |false=>exact again I8 kp (by simpa using q8)
   |true=>
    have q8':=by simpa only[if_true]using q8
    refine thn (he _ _ _ _ _ _ s8 σ7 H8 _ I8 q8') fun y s9 ⟨yv,H9,I9,r9,ys,hD,hz,q9⟩=>?_
    refine thn (q5j _ s9 σ7 H9 (.ref s2.heap.objs.size) [yv] (.ref s2.heap.objs.size) [y] (fun v H'=>v=.non/\H'=upd H9 s2.heap.objs.size (.lst (ys++[yv]))) I9 rfl (.cons r9 .nil) ⟨_,ys,yv,rfl,rfl,hD,hz,rfl,rfl⟩) fun _ s10 ⟨_,H10,I10,_,_,e10⟩=>?_
    subst e10;exact again I10 kp q9
 exact codeAny_compStart_list (loop _ rfl) (T.self X.A 0 _ _ _ stS (loop _ rfl))
end
variable{X:Cx}
theorem q89{y:Str}{py spos:Pos}{gy:TG}{elt target iter:Expr}{ifs:List Expr}{scope sc:Scope}{pos:Pos}{wi:TI}{g:TG}{tc:TT}{te:TE}{Nl Nf N:List Str}{js:List Nat}(hc:X.calm=true)(hi:PI X target iter wi)
  (ok:compOk sc scope N Nf js=true)
  (hg:∀cl C s₀ H₀ ex,PG (X.cp (Nl++Nf) scope cl C s₀ H₀ ex) target g)(ht:∀cl C s₀ H₀ ex,PTs (X.cp (Nl++Nf) scope cl C s₀ H₀ ex) ifs tc)(he:∀cl C s₀ H₀ ex,PE (X.cp (Nl++Nf) scope cl C s₀ H₀ ex) elt te)
  (hgy:PG X (.Name y py) gy)(hsw:swapsWith (.ListComp elt [⟨target,iter,ifs,0⟩] scope pos) (some (.Name y py)) spos.line X.env=pure true)
  (hsc:X.env.scope=sc:=by rfl)(hN:X.N=N:=by rfl)(hs:∀x,foldedSetIterable iter X.env x=pure x:=by intro _;rfl):
  PS X (.Assign [.Name y py] (.ListComp elt [⟨target,iter,ifs,0⟩] scope pos) spos) (tAsg (tComp wi Nl.length js g tc te) gy):=by
 unfold compOk at ok;simp only[w0r,w0z,beq_iff_eq,bne_iff_ne,Bool.or_eq_true,w0w]at ok;obtain⟨⟨⟨⟨⟨⟨k1,k2⟩,k3⟩,k4⟩,k5⟩,k6⟩,k7⟩:=ok;have kind:∀x,X.env.kindOf x=sc.names.lookup x:=fun x=>by rw[<- hsc];rfl
 refine x6w hc hi k1 k2 (fun x hx hl=>(k3 x hx).resolve_left fun z=>z hl) (fun x hx hf=>?_) (fun i j y e1 e2=>?_) k5 (fun y hy=>?_) (fun y hy=>?_) hg ht he hgy hsw hs
 ·rw[kind];rcases k4 x hx with(z|z)|z
  ·exact absurd hf z
  ·exact .inl z
  ·exact .inr z
 ·have hlt:i<js.length:=(w0b.mp e2).1;have z:=k6 i hlt;rw[e1,e2]at z;rw[hN]
  simpa using z
 ·obtain⟨z1,z2⟩:=k7 y hy;refine⟨PySem.mem_of_lookup z1,?_,?_⟩
  ·rw[hsc];rcases z2 with z|z
   ·exact .inr (.inl z)
   ·exact .inr (.inr z)
  ·rw[kind];rcases z2 with z|z<;>(rw[z];decide)
 ·exact q31 (k7 y hy).1
def rCatS(K:PySem.W.Frag):R2:=fun x y H Q=>∃l b xs zs,x=.ref l/\y=.ref b/\SqL K H l xs/\SqL K H b zs/\xs.length+zs.length<=sizeLine/\∀p,H p=none->Q (.ref p) (upd H p (.lst (xs++zs)))
theorem x8w:OpR X (binaryOp .Add) (rCatS X.K):=by
 intro pins s σ H x y v u Q I rx ry h;obtain⟨l,b,xs,zs,rfl,rfl,h1,h2,hz,q⟩:=h;cases rx;cases ry;obtain⟨its,r1,p1,_⟩:=I.list h1;obtain⟨its2,r2,p2,_⟩:=I.list h2;obtain⟨⟨cls,dd,data,sl⟩,ho,hc,n,hd⟩:=id p1.isList;obtain⟨⟨cls2,dd2,data2,sl2⟩,ho2,hc2,n2,hd2⟩:=id p2.isList;simp only at hc hd hc2 hd2;subst hc hd hc2 hd2;have l1:=r1.length;have l2:=r2.length;refine concat_meets ⟨_,ho,rfl⟩ ⟨_,ho2,rfl⟩ noFill_list_add seq_list_add PySem.F.slot_list_add PySem.F.entry_list_add (PySem.F.args_list_add_2 _ _) (list_addW l b its.toArray its2.toArray n n2 dd dd2 sl sl2 (by simp only[w0c];omega)) ⟨ho,ho2,?_⟩;have ea:its.toArray++its2.toArray=(its++its2).toArray:=by simp
 rw[ea];exact⟨.ref _,_,I.lnew (t':=s.toks) (r1.append r2) (by rw[w0k];omega),rfl,q _ I.fresh⟩
end L2
namespace D
open PySem L2
variable{a j:Addr}{A:Around}{vs ys:Array Value}{b t:Bool}{X:Cx}{dA p:Den (List W)}{c cc:Den Bool}{d da db:Den W}{h':Heap}{G G1 H:Hp}{lo:Int}{pins:List (Addr×Obj)}{ps:List (W×W)}{elts es:List Expr}{js:List Nat}{e pe:List S}{h q:List S->SR}{xs:List V}{out us ws:List W}{F:List W->FR}{i k kt n:Nat}{p1 p2 pos:Pos}{P:Program}{K:PySem.W.Frag}{s:Shared}{σ:St}{EE:St->XK}{x y:Str}{α:Type}{v v':V}{cv u u':Value}{w w':W}{Z:Zt}
noncomputable def addW:W->W->Option W
 |.int i,.int j=>some (.int (i+j))
 |.str x,.str y=>if x.length+y.length<=16777216 then some (.str (x++y))else none
 |.tup xs,.tup ys=>if xs≠[]/\xs.length+ys.length<=16777216 then some (.tup (xs++ys))else none
 |.lst xs,.lst ys=>if xs.length+ys.length<=16777216 then some (.lst (xs++ys))else none
 |_,_=>none
noncomputable def subW:W->W->Option W
 |.int i,.int j=>some (.int (i-j))
 |_,_=>none
noncomputable def mulW:W->W->Option W
 |.int i,.int j=>if(-(2^64)<i/\i<2^64)\/(-(2^64)<j/\j<2^64)then some (.int (i*j))else none
 |_,_=>none
noncomputable def fdivW:W->W->Option W
 |.int i,.int j=>if 0<j/\j<1073741824 then some (.int (i / j))else none
 |_,_=>none
noncomputable def modW:W->W->Option W
 |.int i,.int j=>if 0<j then some (.int (i%j))else none
 |_,_=>none
noncomputable def ltW:W->W->Option W
 |.int i,.int j=>some (.bl (decide (i<j)))
 |_,_=>none
noncomputable def gtW:W->W->Option W
 |.int i,.int j=>some (.bl (decide (j<i)))
 |_,_=>none
noncomputable def negW:W->Option W
 |.int i=>some (.int (-i))
 |_=>none
theorem y1l:Op2 K (fun x y H Q=>rI0 (fun i j=>.int (i+j)) x y H Q\/((∃i j,x=.str i/\y=.str j/\i.length+j.length<=sizeLine/\Q (.str (i++j)) H)\/(rCatT K x y H Q\/rCatS K x y H Q))) addW:=by
 intro G H x y wx wy w Q s px py hf h;unfold addW at hf;split at hf
 ·cases hf;cases px;cases py;exact .inl ⟨_,_,rfl,rfl,h G _ H (.refl s) rfl⟩
 ·split at hf
  ·rename_i hl;cases hf;cases px;cases py;exact .inr (.inl ⟨_,_,rfl,rfl,by rw[sizeLine_eq];exact hl,h G _ H (.refl s) rfl⟩)
  ·cases hf
 ·rename_i us ws;split at hf
  ·rename_i hl;cases hf;obtain⟨a,xs,rfl,ha,ra⟩:=px;obtain⟨b,ys,rfl,hb,rb⟩:=py;have l1:=ra.length;have l2:=rb.length;refine .inr (.inr (.inl ⟨a,b,xs,ys,rfl,rfl,s.tup ha,s.tup hb,fun z=>hl.1 ?_,by rw[l1,l2,sizeLine_eq];exact hl.2,fun z=>?_,fun z p hp=>?_⟩))
   ·subst z;cases us with
    |nil=>rfl
    |cons _ _=>simp at l1
   ·subst z
    have:ws=[]:=by cases ws with
     |nil=>rfl
     |cons _ _=>simp at l2
    subst this;exact h G _ H (.refl s) ⟨a,xs,rfl,ha,by simpa using ra⟩
   ·have g:=Grow.laid s hp (.tup (xs++ys));exact h _ _ _ g ⟨p,_,rfl,SqT.of q0g,Reps.append (Reps.mono g.gg _ ra) (Reps.mono g.gg _ rb)⟩
  ·cases hf
 ·split at hf
  ·rename_i hl;cases hf;obtain⟨a,xs,rfl,ha,ra⟩:=px;obtain⟨b,ys,rfl,hb,rb⟩:=py;have l1:=ra.length;have l2:=rb.length;refine .inr (.inr (.inr ⟨a,b,xs,ys,rfl,rfl,s.seq ha,s.seq hb,by rw[l1,l2,sizeLine_eq];exact hl,fun p hp=>?_⟩))
   have g:=Grow.laid s hp (.lst (xs++ys));exact h _ _ _ g ⟨p,_,rfl,SqL.of q0g,Reps.append (Reps.mono g.gg _ ra) (Reps.mono g.gg _ rb)⟩
  ·cases hf
 ·cases hf
theorem y1m:Op2 K (rI0 fun i j=>.int (i-j)) subW:=by
 intro G H x y wx wy w Q s px py hf h;unfold subW at hf;split at hf
 ·cases hf;cases px;cases py;exact⟨_,_,rfl,rfl,h G _ H (.refl s) rfl⟩
 ·cases hf
theorem y1n:Op2 K (rI CMul fun i j=>.int (i*j)) mulW:=by
 intro G H x y wx wy w Q s px py hf h;unfold mulW at hf;split at hf
 ·split at hf
  ·rename_i hc;cases hf;cases px;cases py;exact⟨_,_,rfl,rfl,hc,h G _ H (.refl s) rfl⟩
  ·cases hf
 ·cases hf
theorem x8x:Op2 K (rI CDiv fun i j=>.int (i / j)) fdivW:=by
 intro G H x y wx wy w Q s px py hf h;unfold fdivW at hf;split at hf
 ·split at hf
  ·rename_i hc;cases hf;cases px;cases py;exact⟨_,_,rfl,rfl,hc,h G _ H (.refl s) rfl⟩
  ·cases hf
 ·cases hf
theorem y1o:Op2 K (rI (fun _ j=>0<j) fun i j=>.int (i%j)) modW:=by
 intro G H x y wx wy w Q s px py hf h;unfold modW at hf;split at hf
 ·split at hf
  ·rename_i hc;cases hf;cases px;cases py;exact⟨_,_,rfl,rfl,hc,h G _ H (.refl s) rfl⟩
  ·cases hf
 ·cases hf
theorem y4c:Op2 K (rI0 fun i j=>.bl (decide (i<j))) ltW:=by
 intro G H x y wx wy w Q s px py hf h;unfold ltW at hf;split at hf
 ·cases hf;cases px;cases py;exact⟨_,_,rfl,rfl,h G _ H (.refl s) rfl⟩
 ·cases hf
theorem y4d:Op2 K (rI0 fun i j=>.bl (decide (j<i))) gtW:=by
 intro G H x y wx wy w Q s px py hf h;unfold gtW at hf;split at hf
 ·cases hf;cases px;cases py;exact⟨_,_,rfl,rfl,h G _ H (.refl s) rfl⟩
 ·cases hf
theorem y1p:Op1 K (rU fun i=>.int (-i)) negW:=by
 intro G H x wx w Q s px hf h;unfold negW at hf;split at hf
 ·cases hf;cases px;exact⟨_,rfl,h G _ H (.refl s) rfl⟩
 ·cases hf
mutual
noncomputable def eqW:W->W->Option Bool
 |.non,.non=>some true
 |.non,.bl _=>some false|.non,.int _=>some false|.non,.str _=>some false|.non,.tup _=>some false|.non,.lst _=>some false
 |.bl a,.bl b=>some (a==b)
 |.bl a,.int b=>some ((if a then 1 else 0)==b)
 |.bl _,.non=>some false|.bl _,.str _=>some false|.bl _,.tup _=>some false|.bl _,.lst _=>some false
 |.int a,.int b=>some (a==b)
 |.int a,.bl b=>some (a==(if b then 1 else 0))
 |.int _,.non=>some false|.int _,.str _=>some false|.int _,.tup _=>some false|.int _,.lst _=>some false
 |.str a,.str b=>some (a==b)
 |.str _,.non=>some false|.str _,.bl _=>some false|.str _,.int _=>some false|.str _,.tup _=>some false|.str _,.lst _=>some false
 |.tup _,.non=>some false|.tup _,.bl _=>some false|.tup _,.int _=>some false|.tup _,.str _=>some false|.tup _,.lst _=>some false
 |.lst _,.non=>some false|.lst _,.bl _=>some false|.lst _,.int _=>some false|.lst _,.str _=>some false|.lst _,.tup _=>some false
 |.tup xs,.tup ys=>eqWs xs ys
 |.lst xs,.lst ys=>eqWs xs ys
 |.exc _,_=>none
 |_,.exc _=>none
 |.dic _,_=>none
 |_,.dic _=>none
 |.dw _ _ _ _,_=>none
 |.fn _ _ _,_=>none
 |_,.dw _ _ _ _=>none
 |_,.fn _ _ _=>none
noncomputable def eqWs:List W->List W->Option Bool
 |[],[]=>some true
 |[],_::_=>some false
 |_::_,[]=>some false
 |x::xs,y::ys=>match eqW x y,eqWs xs ys with
  |some a,some b=>some (a&&b)
  |_,_=>none
end
noncomputable def ixW:W->W->Option W
 |.tup ws,.int i=>atI ws i
 |.lst ws,.int i=>atI ws i
 |.str z,.int i=>if z.length<=16777216 then(atI z.cps.toList i).map fun c=>.str ⟨#[c]⟩else none
 |_,_=>none
theorem Reps.atI{i:Int}(r:Reps K G ws xs)(h:L2.atI ws i=some w):∃x,L2.atI xs i=some x/\Rep K G w x:=by
 unfold L2.atI at h |-
 rw[r.length];cases q:ixN ws.length i with
 |none=>rw[q]at h;cases h
 |some j=>
  rw[q]at h;exact r.get h
theorem x70:Op2 K (rIx K) ixW:=by
 intro G H x y wx wy w Q s px py hf h;unfold ixW at hf;split at hf
 ·obtain⟨a,xs,rfl,ha,ra⟩:=px;cases py;obtain⟨v,hv,rv⟩:=ra.atI hf;exact .inr (.inl ⟨a,xs,_,v,rfl,rfl,s.tup ha,hv,h G v H (.refl s) rv⟩)
 ·obtain⟨a,xs,rfl,ha,ra⟩:=px;cases py;obtain⟨v,hv,rv⟩:=ra.atI hf;exact .inl ⟨a,xs,_,v,rfl,rfl,s.seq ha,hv,h G v H (.refl s) rv⟩
 ·cases px;cases py;split at hf
  ·rename_i hl;obtain⟨c,hc,rfl⟩:=w0m.mp hf;exact .inr (.inr ⟨_,_,c,rfl,rfl,by rw[sizeLine_eq];exact hl,hc,h G _ H (.refl s) rfl⟩)
  ·cases hf
 ·cases hf
noncomputable def S.look:S->Option W
 |.fr w=>some w
 |.own _ ws=>some (.lst ws)
 |.no=>none
 |.dic _=>none
 |.thr _ _ _=>none
 |.nest _=>none
 |.x k=>k.look
 |.dw _ _ _=>none
noncomputable def dIxV(i:Nat)(d:Den W):Den W:=fun e=>match e[i]?.bind S.look with
 |none=>.no
 |some _=>(d e).bind fun k e1=>match e1[i]?.bind S.look with
  |none=>.no
  |some w=>ofOpt (ixW w k) e1
noncomputable def lenW:W->Option W
 |.str z=>if z.length<=16777216 then some (.int z.length)else none
 |.tup ws=>some (.int ws.length)
 |.lst ws=>some (.int ws.length)
 |_=>none
noncomputable def len1:List W->Option W
 |[w]=>lenW w
 |_=>none
theorem y1q:OpN K (fun xs H Q=>∃x n,xs=[x]/\LenV K x H n/\Q (.int n) H) len1:=by
 intro G H xs ws w Q s pr hf h;unfold len1 at hf;split at hf
 ·obtain⟨x,r,rfl,px,pr⟩:=pr;cases(show r=[]from pr);unfold lenW at hf;split at hf
  ·split at hf
   ·rename_i hl;cases hf;cases px;exact⟨_,_,rfl,⟨by rw[sizeLine_eq];exact hl,rfl⟩,h G _ H (.refl s) rfl⟩
   ·cases hf
  ·cases hf;obtain⟨a,xs,rfl,ha,ra⟩:=px;exact⟨_,_,rfl,.inr ⟨xs,s.tup ha,rfl⟩,h G _ H (.refl s) (by rw[ra.length];rfl)⟩
  ·cases hf;obtain⟨a,xs,rfl,ha,ra⟩:=px;exact⟨_,_,rfl,.inl ⟨xs,s.seq ha,rfl⟩,h G _ H (.refl s) (by rw[ra.length];rfl)⟩
  ·cases hf
 ·cases hf
noncomputable def scalW:W->Bool
 |.non=>true|.bl _=>true|.int _=>true|.str _=>true|_=>false
section
variable{a b e:Expr}{p:Pos}
theorem q2i(ha:DE Z X EE a d)(hb:DE Z X EE b db)(hs:PlainIx b:=by intro _ _;rfl):DE Z X EE (.Subscript a b pos) (dOp ixW d db):=PE.mono (x28 x39 ha hb hs) (q52 x70)
theorem Rel.look{e:List S}(r:Rel K Z G σ H e)(h:e[i]?.bind S.look=some w):∃v,σ[i]?=some (some v) /\
  (Rep K G w v\/∃ws a xs u,(∀z,e[i]?≠some (.fr z))/\w=.lst ws/\v=.ref a/\H a=some u/\(u=.lst xs\/∃o,u=.frz o (.lst xs))/\G a=none/\Reps K G ws xs):=by
 obtain⟨s,h1,h2⟩:=Option.bind_eq_some_iff.mp h;cases s with
 |no=>cases h2
 |dic _=>cases h2
 |thr _ _ _=>cases h2
 |nest _=>cases h2
 |dw _ _ _=>cases h2
 |fr w'=>
  cases h2;obtain⟨v,h3,h4⟩:=r.fr h1;exact⟨v,h3,.inl h4⟩
 |x k=>
  have q:=r.slot i _ h1;cases k with
  |old w'=>cases h2;obtain⟨v,h1',h3⟩:=r.plain h1 rfl;exact⟨v,h1',.inl h3⟩
  |new w'=>cases h2;obtain⟨v,h1',h3⟩:=r.plain h1 rfl;exact⟨v,h1',.inl h3⟩
  |acc ws=>cases h2;obtain⟨a,o,xs,k1,⟨k2,k3,_⟩,k5⟩:=q;exact⟨.ref a,r.at h1 fun _=>k1,.inr ⟨ws,a,xs,_,(fun z y=>by rw[h1]at y;cases y),rfl,rfl,k2,.inr ⟨o,rfl⟩,k3,RepNs.reps _ k5⟩⟩
  |_=>cases h2
 |own b ws=>
  cases h2;obtain⟨a,xs,h3,h4,h5,h6,h7⟩:=r.own h1;exact⟨.ref a,h3,.inr ⟨ws,a,xs,_,(fun z y=>by rw[h1]at y;cases y),rfl,rfl,h4,.inl rfl,h5,h7⟩⟩
theorem y1r(i:Nat)(hb:DE Z X EE b d)(hN:X.N[i]?=some x:=by rfl)(hv:Vis X.env.scope x:=by walk_at "1")(hd:(x==("__debug__":Str))=false:=by decide)
  (hcd:(x==("__classdict__":Str))=false:=by decide)(hs:PlainIx b:=by intro _ _;rfl):DE Z X EE (.Subscript (.Name x p) b pos) (dIxV i d):=by
 refine PE.mono (x28 x39 (pv i hN hv hd hcd) hb hs) ?_;rintro σ H Q ⟨G,e,rel,h⟩;unfold dIxV at h;split at h
 ·exact h.elim
 ·rename_i w0 hw0;obtain⟨v,hv,_⟩:=rel.look hw0;refine⟨v,hv,G,e,rel,(R.holds_bind.mp h).imp (fun k e1 h G1 u H1 r1 s1 p1=>?_) fun _ _ h=>h⟩
  split at h
  ·exact h.elim
  ·rename_i w hw;obtain⟨w',hf,h2⟩:=ofOpt_holds.mp h;obtain⟨v',hv',q⟩:=r1.look hw;rw[hv]at hv';cases hv';rcases q with q|⟨ws,a,xs,u,he,rfl,rfl,q1,qu,q2,q3⟩
   ·exact x70 G1 H1 v u w k w' Q r1.sub q p1 hf fun G' v H' g p=>h2 G' v H' (r1.grow g) (s1.trans g.gg) p
   ·-- an item of one's own list
    unfold ixW at hf;split at hf
    ·rename_i heq;cases heq
    ·rename_i heq;cases heq;cases p1;obtain⟨y,hy,ry⟩:=q3.atI hf;refine .inl ⟨a,xs,_,y,rfl,rfl,?_,hy,h2 G1 y H1 r1 s1 ry⟩;rcases qu with rfl|⟨o,rfl⟩
     ·exact SqL.of q1
     ·exact .inl (.inr ⟨o,q1⟩)
    ·rename_i heq;cases heq
    ·cases hf
noncomputable def dApp(i:Nat)(d:Den (List W)):List S->SR:=fun e=>match e[i]? with
 |some (.own _ _)=>(d e).stm fun ws e1=>match ws,e1[i]? with
  |[w],some (.own b xs)=>if xs.length<16777216 then .nx (e1.set i (.own b (xs++[w])))else .no
  |_,_=>.no
 |_=>.no
theorem x4n(i:Nat){apos cpos:Pos}(ha:DA Z X EE (e::es) dA)(hN:X.N[i]?=some x:=by rfl)(hv:Vis X.env.scope x:=by walk_at "1")(hd:(x==("__debug__":Str))=false:=by decide)(hcd:(x==("__classdict__":Str))=false:=by decide)
  (hbase:attributeBase (.Name x p) "append" X.env (eval (.Name x p) X.env)=eval (.Name x p) X.env:=by rfl)
  (hfew:((backTo cpos (starEach (e::es) X.env)).all (fun x=>!x.1)&&(backToKw cpos (keywordEach [] X.env)).all (fun x=>x.1.isSome)&&decide ((e::es).length+([]:List Keyword).length+(if([]:List Keyword).isEmpty then 0 else 1)<30))=true:=by rfl)
  (hline:(apos.endLine==cpos.line)=true:=by rfl)(hs:starEach (e::es) X.env=(false,eval e X.env)::starEach es X.env:=by rfl)(hplain:(backTo cpos (starEach es X.env)).any (·.1)=false:=by rfl)
  (hsw:swapsWith (.Call (.Attribute (.Name x p) "append" apos) (e::es) [] cpos) none pos.line X.env=pure false:=by rfl):
  DS Z X EE (.Expr (.Call (.Attribute (.Name x p) "append" apos) (e::es) [] cpos) pos) (dApp i dA):=by
 refine PS.mono (q8b (y1g (pv i hN hv hd hcd) ha hbase hfew hline hs hplain) hsw) ?_;rintro D σ H ⟨G,e,rel,h⟩;unfold dApp at h;split at h
 ·rename_i b0 ws0 he0;obtain⟨a,xs,h1,h2,h3,h4,h5⟩:=rel.own he0;refine⟨.ref a,h1,.inl ⟨rfl,xs,SqL.of h2⟩,G,e,rel,(q15 h).imp (fun ws e1 h G1 vs H1 r1 s1 p1=>?_) fun _ _ h=>h⟩
  split at h
  ·rename_i w b ys he1;obtain⟨a',zs,g1,g2,g3,g4,g5⟩:=r1.own he1;rw[h1]at g1;cases g1;obtain⟨y,r,rfl,py,pr⟩:=p1;cases(show r=[]from pr);split at h
   ·rename_i hl;refine⟨a,zs,y,rfl,rfl,g2,by rw[g5.length,sizeLine_eq];exact hl,?_⟩;exact h G1 σ _ (r1.mut he1 h1 (g5.append (.one py))) s1
   ·exact h.elim
  ·exact h.elim
 ·exact h.elim
end
noncomputable def compD(c:Den Bool)(d:Den W)(pe:List S):List W->Option (List W)
 |[]=>some []
 |w::ws=>match c (.fr w::pe)with
  |.ok true e1=>match d e1 with
   |.ok y _=>(compD c d pe ws).map (y::·)
   |_=>none
  |.ok false _=>compD c d pe ws
  |_=>none
noncomputable def frz1(e:List S)(j:Nat):List S:=match e[j]? with
 |some (.own none ws)=>e.set j (.fr (.lst ws))
 |_=>e
noncomputable def frzs(js:List Nat)(e:List S):List S:=js.foldl frz1 e
noncomputable def pj1(e:List S)(j:Nat):S:=match e[j]? with
 |some (.fr w)=>.fr w
 |_=>.no
noncomputable def pjS(js:List Nat)(e:List S):List S:=js.map (pj1 e)
noncomputable def compK(js:List Nat)(c:Den Bool)(d:Den W)(ws:List W)(e1:List S):R (List W):=
 if ws.length<=16777216 then(match compD c d (pjS js (frzs js e1)) ws with
  |some out=>.ok out (frzs js e1)
  |none=>.no)else .no
noncomputable def dComp(js:List Nat)(di:Den W)(c:Den Bool)(d:Den W):Den (List W):=fun e=>(di e).bind fun w e1=>match seqW w with
 |some ws=>compK js c d ws e1
 |none=>.no
noncomputable def dCompR(g:List W->Option (List W))(js:List Nat)(di:Den (List W))(c:Den Bool)(d:Den W):Den (List W):=fun e=>(di e).bind fun w e1=>match g w with
 |some ws=>compK js c d ws e1
 |none=>.no
noncomputable def dYes:Den Bool:=fun e=>.ok true e
section
variable{H1:Hp}{e1:List S}
theorem Rel.frzs(r:Rel K Z G σ H e):∀(js:List Nat),∃G',Same G G'/\Rel K Z G' σ H (frzs js e):=by
 intro js
 induction js generalizing G e with
 |nil=>exact⟨G,.refl _,r⟩
 |cons j js ih=>
  have one:∃G',Same G G'/\Rel K Z G' σ H (frz1 e j):=by
   unfold frz1;split
   ·rename_i ws hw;obtain⟨v,G',_,s,_,r'⟩:=r.freeze hw;exact⟨G',s,r'⟩
   ·exact⟨G,.refl _,r⟩
  obtain⟨G1,s1,r1⟩:=one;obtain⟨G2,s2,r2⟩:=ih r1;exact⟨G2,s1.trans s2,r2⟩
theorem Rel.block(r:Rel K Z G σ H e)(js:List Nat){x:V}(p:Rep K G w x):Rel K ⟨H,G,[]⟩ G (some x::pj js σ) H (.fr w::pjS js e):=by
 have hfr:∀(i:Nat)(s:S),(S.fr w::pjS js e)[i]?=some s->s=.no\/∃u,s=.fr u/\((i=0/\u=w)\/∃k j,i=k+1/\js[k]?=some j/\e[j]?=some (.fr u)):=fun i s h=>by
  cases i with
  |zero=>cases h;exact .inr ⟨w,rfl,.inl ⟨rfl,rfl⟩⟩
  |succ k=>
   rw[w0e]at h;unfold pjS at h;rw[w1a]at h;obtain⟨j,h1,h2⟩:=w0m.mp h;unfold pj1 at h2;split at h2
   ·rename_i u hu;subst h2;exact .inr ⟨u,rfl,.inr ⟨k,j,rfl,h1,hu⟩⟩
   ·subst h2;exact .inl rfl
 refine⟨r.sub,fun i s h=>?_,?_,fun i j b b' w1 w2 a h1 h2 _ _=>?_,fun a o h _=>h,(fun a h=>nomatch h),fun a _=>rfl⟩
 ·rcases hfr i s h with rfl|⟨u,rfl,⟨rfl,rfl⟩|⟨k,j,rfl,h1,h2⟩⟩
  ·trivial
  ·exact⟨x,rfl,p⟩
  ·obtain⟨v,h3,h4⟩:=r.fr h2;refine⟨v,?_,h4⟩;rw[w0e];unfold pj;rw[w1a,h1];simp[h3]
 ·simp[pjS,pj]
 ·rcases hfr i _ h1 with z|⟨u,z,_⟩<;>cases z
theorem Rel.mutFree(r:Rel K Z G σ H e){o:HO}(hg:G a=none)(hz:Z.H a=none)(hi:a∉Z.io)(hf:Free σ e a){ls:List V}(hls:H a=some (.lst ls)):Rel K Z G σ (upd H a o) e:=by
 refine⟨fun c u z=>?_,fun j s z=>?_,r.len,r.dis,fun c u z n=>?_,fun c z=>?_,r.gen⟩
 ·rw[q0b (q0j z hg)];exact r.sub c u z
 ·have y:=r.slot j s z;cases s with
  |no=>trivial
  |fr w=>exact y
  |own b2 w2=>
   obtain⟨c,ys,y1,y2,y3,y4,y5⟩:=y;refine⟨c,ys,y1,?_,y3,y4,y5⟩;rw[q0b];exact y2;rintro rfl;obtain⟨c',_,z1,_⟩:=r.own z;rw[z1]at y1;cases y1;exact hf j b2 w2 z z1
  |dic kvs=>
   obtain⟨c,y1,y2,y3,y4⟩:=y;refine⟨c,y1,?_,y3,y4⟩;rw[q0b (q0p y2 hls (q29 rfl))];exact y2
  |thr us w2 vs=>
   obtain⟨t,l,o,xs2,ys,zs,y1,y2,y3,y4,y5,y6⟩:=y;refine⟨t,l,o,xs2,ys,zs,y1,y2,?_,y4,y5,y6⟩;rw[q0b (q0p y3 hls (fun z=>nomatch z))];exact y3
  |nest wss=>exact NestOk.move y (.refl _) fun l o ys k1 k2 k3=>⟨by rw[q0b (q0p k1 hls (fun z=>nomatch z))];exact k1,k2,k3⟩
  |x k=>exact XOk.move y (.refl _) fun l o ys k1 k2 k3=>⟨by rw[q0b (q0p k1 hls (fun z=>nomatch z))];exact k1,k2,k3⟩
  |dw sh ks ws=>exact DwOk.move y (.refl _) fun l o ys k1 k2 k3=>⟨by rw[q0b (q0p k1 hls (fun z=>nomatch z))];exact k1,k2,k3⟩
 ·rw[q0b (q0j z hz)];exact r.ent c u z n
 ·by_cases hc:c=a
  ·subst hc;exact absurd z hi
  ·rw[q0b hc];exact r.ion c z
structure Walk(J:It)(xs:List V)(SQ:Hp->Prop):Prop where
 go:∀i H,SQ H->i<xs.length->J.go i H
 yld:∀i H x H',SQ H->J.yld i H x H'->i<xs.length->H'=H/\xs[i]?=some x
 stop:∀i H,SQ H->xs.length<=i->J.stop i H
theorem y1s:Walk (Itl K a) xs (fun H=>SqL K H a xs):=
 ⟨fun i H q h=>⟨xs,xs[i],q,by simp[h]⟩,fun i H x H' q ⟨e,y⟩ h=>⟨e,y xs q⟩,fun i H q h=>⟨xs,q,h⟩⟩
theorem y1t:Walk (Itt K a) xs (fun H=>SqT K H a xs):=
 ⟨fun i H q h=>⟨xs,xs[i],q,by simp[h]⟩,fun i H x H' q ⟨e,y⟩ h=>⟨e,y xs q⟩,fun i H q h=>⟨xs,q,h⟩⟩
theorem y1u:Walk (Itr lo n) ((List.range n).map fun k=>V.int (lo+(k:Nat))) (fun _=>True):=
 ⟨fun i H q h=>show i<n by simpa using h,fun i H x H' q ⟨e,y⟩ h=>⟨e,by simp at h;simp[h,y]⟩,fun i H q h=>show n<=i by simpa using h⟩
theorem q8f{J:It}{SQ:Hp->Prop}{Q:VK}{G0:Hp}(W0:Walk J xs SQ)(r1:Rel K Z G1 σ H1 e1)(s1:Same G0 G1)(rp:Reps K G1 ws xs)(hSQ:∀G' H',Same G1 G'->Same G' H'->SQ H')(hl:ws.length<=16777216)
  (hz:∀p,H1 p=none->p∉Z.io)(hc:compD c d (pjS js e1) ws=some out)
  (h:∀G' a xs H',Rel K Z G' σ H' e1->Same G0 G'->H' a=some (.lst xs)->G' a=none->Z.H a=none->Free σ e1 a->Reps K G' out xs->Q (.ref a) H'):
  ∀D,H1 D=none->∃W:Nat->Nat->Hp->Prop,(∃m,W 0 m (upd H1 D (.lst [])))/\∀i m H2,W i m H2 ->
   (J.stop i H2/\Q (.ref D) H2)\/(J.go i H2/\∀x H3,J.yld i H2 x H3->gName 0 x (List.replicate 1 none++pj js σ) H3 fun σ4 H4=>Kp (List.replicate 1 none++pj js σ) σ4/\(fun σ H Q=>∃Z',liftT K Z' (fun _=>E0) c σ H Q) σ4 H4 fun b H5=>
    if b=true then(fun σ H Q=>∃Z',AtG K Z' σ H fun G e=>(d e).holds (fun w e'=>∀G' v H',Rel K Z' G' σ H' e'->Same G G'->Rep K G' w v->Q v H') (XH K Z' (fun _=>E0) σ G)) σ4 H5 fun y H6=>∃ys,H6 D=some (.lst ys)/\ys.length<sizeLine/\∃m',m'<m/\W (i+1) m' (upd H6 D (.lst (ys++[y])))else ∃m',m'<m/\W (i+1) m' H5):=by
 intro D hD;have hlen:=rp.length
 refine⟨fun i m H2=>m=ws.length-i/\i<=ws.length/\∃G2 ys done rest,Rel K Z G2 σ H2 e1/\Same G1 G2/\H2 D=some (.lst ys)/\G2 D=none/\Reps K G2 done ys/\done.length<=i/\compD c d (pjS js e1) (ws.drop i)=some rest/\done++rest=out,
  ⟨ws.length,by omega,w1h _,G1,[],[],out,r1.grow (Grow.hid r1.sub hD _),.refl _,q0g,r1.sub.free hD,rfl,w0d _,hc,rfl⟩,?_⟩
 rintro i m H2 ⟨rfl,hi,G2,ys,done,rest,r2,s2,hd2,hg2,rp2,hdl,hc2,ho⟩;have hfree:Free σ e1 D:=q3i r1 hD;have hzh:Z.H D=none:=q20 r1 hD
 by_cases hlt:i<ws.length
 ·refine .inr ⟨W0.go i H2 (hSQ G2 H2 s2 r2.sub) (by omega),fun x H3 hy=>?_⟩
  obtain⟨rfl,hx⟩:=W0.yld i H2 x H3 (hSQ G2 H2 s2 r2.sub) hy (by omega);obtain⟨w,hw,pw⟩:=rp.getV hx;rw[q88 hw]at hc2;refine⟨Kp.one,⟨H3,G2,[]⟩,G2,.fr w::pjS js e1,r2.block js (Rep.mono s2 w pw),?_⟩;unfold compD at hc2;cases qc:c (.fr w::pjS js e1)with
  |no=>rw[qc]at hc2;cases hc2
  |ex _ _=>rw[qc]at hc2;cases hc2
  |ok k e2=>
   rw[qc]at hc2;intro G3 H5 r3 s3;have g3:=r3.toGrow s3;cases k with
   |false=>
    exact⟨ws.length-(i+1),by omega,rfl,hlt,G3,ys,done,rest,r2.grow g3,s2.trans s3,g3.hh _ _ hd2,by rw[g3.new D (by rw[hd2];simp)];exact hg2,Reps.mono s3 _ rp2,by omega,hc2,ho⟩
   |true=>
    refine⟨⟨H3,G2,[]⟩,G3,e2,r3,?_⟩;dsimp only at hc2;cases qd:d e2 with
    |no=>rw[qd]at hc2;cases hc2
    |ex _ _=>rw[qd]at hc2;cases hc2
    |ok y e3=>
     rw[qd]at hc2;intro G4 v H6 r4 s4 p4;have g4:=r4.toGrow (s3.trans s4);obtain⟨rest',hr,rfl⟩:=w0m.mp hc2;have hd6:H6 D=some (.lst ys):=g4.hh _ _ hd2;have hg6:G4 D=none:=by rw[g4.new D (by rw[hd2];simp)];exact hg2
     refine⟨ys,hd6,?_,ws.length-(i+1),by omega,rfl,hlt,G4,ys++[v],done++[y],rest',(r2.grow g4).mutFree hg6 hzh (hz D hD) hfree hd6,s2.trans (s3.trans s4),q0g,hg6,(Reps.mono (s3.trans s4) _ rp2).append (.one p4),by simp;omega,hr,by rw[List.append_assoc];exact ho⟩;rw[rp2.length,sizeLine_eq];omega
 ·have:i=ws.length:=by omega
  subst this;rw[w3e]at hc2;cases hc2;rw[w2t]at ho;subst ho;exact .inl ⟨W0.stop _ H2 (hSQ G2 H2 s2 r2.sub) (by omega),h G2 D ys H2 r2 (s1.trans s2) hd2 hg2 hzh hfree rp2⟩
end
section
variable{elt iter a b:Expr}{ifs:List Expr}{scope sc:Scope}{pt:Pos}{Nf N:List Str}{di:Den W}
def DTs(Z:Zt)(X:Cx)(EE:St->XK)(ifs:List Expr)(c:Den Bool):Prop:=PTs X ifs (liftT X.K Z EE c)
theorem q2b:DTs Z X EE [] dYes:=fun pins s σ H Q I ⟨G,e,r,h⟩=>x8p pins s σ H Q I (h G H r (.refl _))
theorem q54(h:DT Z X EE a c):DTs Z X EE [a] c:=x8q h
def cT(K:PySem.W.Frag)(c:Den Bool):TT:=fun σ H Q=>∃Z',liftT K Z' (fun _=>E0) c σ H Q
def cE(K:PySem.W.Frag)(d:Den W):TE:=fun σ H Q=>∃Z',AtG K Z' σ H fun G e=>(d e).holds (fun w e'=>∀G' v H',Rel K Z' G' σ H' e'->Same G G'->Rep K G' w v->Q v H') (XH K Z' (fun _=>E0) σ G)
theorem q9a{D:Ends}{r:R (List W)}{k:W->List S->SR}(h:PostS K Z EE D G ((r.bind fun ws e'=>.ok (.lst ws) e').stm k)):r.holds (fun ws e'=>PostS K Z EE D G (k (.lst ws) e')) (XH K Z EE σ G):=by
 cases r with
 |ok a e=>exact h
 |ex c e=>exact fun G' H' r q=>h G' σ H' r q
 |no=>exact h
theorem q7m{Y:List Str}(ht:∀Z' cl C s₀ H₀ ex,DTs Z' (X.cp Y scope cl C s₀ H₀ ex) (fun _=>E0) ifs c):∀cl C s₀ H₀ ex,PTs (X.cp Y scope cl C s₀ H₀ ex) ifs (cT X.K c):=fun cl C s₀ H₀ ex pins s σ H Q I ⟨Z',h⟩=>ht Z' cl C s₀ H₀ ex pins s σ H Q I h
theorem q7n{Y:List Str}(he:∀Z' cl C s₀ H₀ ex,DE Z' (X.cp Y scope cl C s₀ H₀ ex) (fun _=>E0) elt d):∀cl C s₀ H₀ ex,PE (X.cp Y scope cl C s₀ H₀ ex) elt (cE X.K d):=fun cl C s₀ H₀ ex pins s σ H Q I ⟨Z',h⟩=>he Z' cl C s₀ H₀ ex pins s σ H Q I h
theorem ionone(r:Rel K Z G σ H e):∀p,H p=none->p∉Z.io:=fun p hp hi=>r.ion p hi hp
theorem q9b:∀σ H Q,liftF K Z EE (dComp js di c d) σ H Q->tComp (iSeq K (liftE K Z EE di)) 1 js (gName 0) (cT K c) (cE K d) σ H Q:=by
 rintro σ H Q ⟨G,e,rel,h⟩;simp only[dComp,R.holds_bind]at h;refine⟨G,e,rel,h.imp (fun w e1 h G1 v1 H1 r1 s1 p1=>?_) fun _ _ h=>h⟩
 split at h
 ·rename_i ws hw;unfold compK at h;split at h
  ·rename_i hl;split at h
   ·rename_i out ho;obtain⟨G2,s2,r2⟩:=r1.frzs js;have p2:=Rep.mono s2 w p1;have io:=ionone r2;cases w with
    |tup us=>
     cases hw;obtain⟨a,xs,rfl,hq,rp⟩:=p2;exact⟨a,rfl,.inr ⟨⟨xs,r2.sub.tup hq⟩,q8f y1t r2 (s1.trans s2) rp (fun G' H' s s'=>Same.tup s' (Same.tup s hq)) hl io ho h⟩⟩
    |lst us=>
     cases hw;obtain⟨a,xs,rfl,hq,rp⟩:=p2;exact⟨a,rfl,.inl ⟨⟨xs,r2.sub.seq hq⟩,q8f y1s r2 (s1.trans s2) rp (fun G' H' s s'=>Same.seq s' (Same.seq s hq)) hl io ho h⟩⟩
    |_=>cases hw
   ·exact h.elim
  ·exact h.elim
 ·exact h.elim
theorem q55(hc:X.calm=true)(hi:DE Z X EE iter di)(ok:compOk sc scope N Nf js=true)
  (ht:∀Z' cl C s₀ H₀ ex,DTs Z' (X.cp ([x]++Nf) scope cl C s₀ H₀ ex) (fun _=>E0) ifs c)(he:∀Z' cl C s₀ H₀ ex,DE Z' (X.cp ([x]++Nf) scope cl C s₀ H₀ ex) (fun _=>E0) elt d)
  (hg:∀cl C s₀ H₀ ex,PG (X.cp ([x]++Nf) scope cl C s₀ H₀ ex) (.Name x pt) (gName 0))
  (hsc:X.env.scope=sc:=by rfl)(hN:X.N=N:=by rfl)(hs:∀x,foldedSetIterable iter X.env x=pure x:=by intro _;rfl):
  DF Z X EE (.ListComp elt [⟨.Name x pt,iter,ifs,0⟩] scope pos) (dComp js di c d):=by
 exact PE.mono (q6x (Nl:=[x]) (tc:=cT X.K c) (te:=cE X.K d) hc (x0j hi) ok hg (q7m ht) (q7n he) hsc hN hs) q9b
theorem x3b(i:Nat){py spos:Pos}(hNd:X.N.Nodup)(hc:X.calm=true)(hi:DE Z X EE iter di)(ok:compOk sc scope N Nf js=true)
  (ht:∀Z' cl C s₀ H₀ ex,DTs Z' (X.cp ([x]++Nf) scope cl C s₀ H₀ ex) (fun _=>E0) ifs c)(he:∀Z' cl C s₀ H₀ ex,DE Z' (X.cp ([x]++Nf) scope cl C s₀ H₀ ex) (fun _=>E0) elt d)
  (hg:∀cl C s₀ H₀ ex,PG (X.cp ([x]++Nf) scope cl C s₀ H₀ ex) (.Name x pt) (gName 0))
  (hsc:X.env.scope=sc:=by rfl)(hN:X.N=N:=by rfl)(hs:∀x,foldedSetIterable iter X.env x=pure x:=by intro _;rfl)(hiy:X.N[i]?=some y:=by rfl)(hxy:Loc X.env.scope y:=by walk_at "3")(hfy:X.fn y=true\/X.env.scope.names.lookup y=some .local:=by walk_at "2")(hsw:swapsWith (.ListComp elt [⟨.Name x pt,iter,ifs,0⟩] scope pos) (some (.Name y py)) spos.line X.env=pure true:=by rfl):
  DS Z X EE (.Assign [.Name y py] (.ListComp elt [⟨.Name x pt,iter,ifs,0⟩] scope pos) spos) (dSet i (dFz (dComp js di c d))):=by
 refine PS.mono (q89 (Nl:=[x]) (tc:=cT X.K c) (te:=cE X.K d) hc (x0j hi) ok hg (q7m ht) (q7n he) (q1w i hNd hiy hxy hfy) hsw hsc hN hs) ?_;rintro D σ H ⟨G,e,rel,h⟩;refine q9b σ H _ ⟨G,e,rel,?_⟩;refine(q9a h).imp (fun w e1 h G1 a xs H1 r1 s1 q1 q2 q3 q4 p1=>?_) fun _ _ h=>h
 obtain⟨sg,rg⟩:=r1.seen q1 q2 q3 q4;exact h _ _ H1 (rg.set (v:=.ref a) ⟨a,xs,rfl,SqL.of q0g,Reps.mono sg w p1⟩) (s1.trans sg)
theorem q7o:∀σ H Q,liftF K Z EE (dCompR rng1 js dA c d) σ H Q->tComp (iRng1 (liftA K Z EE dA)) 1 js (gName 0) (cT K c) (cE K d) σ H Q:=by
 rintro σ H Q ⟨G,e,rel,h⟩;simp only[dCompR,R.holds_bind]at h;refine⟨G,e,rel,h.imp (fun ws e1 h G1 vs H1 r1 s1 p1=>?_) fun _ _ h=>h⟩
 unfold rng1 at h;split at h
 ·rename_i us hh;split at hh
  ·rename_i j;split at hh
   ·rename_i hj;cases hh;obtain⟨y,r,rfl,e1,e2⟩:=p1;cases(show y=V.int j from e1);cases(show r=[]from e2);refine⟨j,rfl,(q7i hj).1,(q7i hj).2,?_⟩;unfold compK at h;split at h
    ·rename_i hl;split at h
     ·rename_i out ho;obtain⟨G2,s2,r2⟩:=r1.frzs js;have z:=q8f (J:=Itr 0 (j-0).toNat) y1u r2 (s1.trans s2) (q7k (lo:=0) (hi:=j)) (fun _ _ _ _=>trivial) hl (ionone r2) ho h
      rwa [w4b]at z
     ·exact h.elim
    ·exact h.elim
   ·cases hh
  ·cases hh
 ·exact h.elim
theorem q32(hc:X.calm=true)(hm:X.mg "range"=none)(ha:DA Z X EE [a] dA)(ok:compOk sc scope N Nf js=true)
  (ht:∀Z' cl C s₀ H₀ ex,DTs Z' (X.cp ([x]++Nf) scope cl C s₀ H₀ ex) (fun _=>E0) ifs c)(he:∀Z' cl C s₀ H₀ ex,DE Z' (X.cp ([x]++Nf) scope cl C s₀ H₀ ex) (fun _=>E0) elt d)
  (hg:∀cl C s₀ H₀ ex,PG (X.cp ([x]++Nf) scope cl C s₀ H₀ ex) (.Name x pt) (gName 0))
  (hgr:Gl X "range":=by rfl)(hs1:starEach [a] X.env=[(false,eval a X.env)]:=by rfl)(hsc:X.env.scope=sc:=by rfl)(hN:X.N=N:=by rfl)(hs:∀x,foldedSetIterable (.Call (.Name "range" p1) [a] [] p2) X.env x=pure x:=by intro _;rfl):
  DF Z X EE (.ListComp elt [⟨.Name x pt,.Call (.Name "range" p1) [a] [] p2,ifs,0⟩] scope pos) (dCompR rng1 js dA c d):=by
 exact PE.mono (q6x (Nl:=[x]) (tc:=cT X.K c) (te:=cE X.K d) hc (q5i hgr hm ha hs1) ok hg (q7m ht) (q7n he) hsc hN hs) q7o
theorem q6d(i:Nat){py spos:Pos}(hNd:X.N.Nodup)(hc:X.calm=true)(hm:X.mg "range"=none)(ha:DA Z X EE [a] dA)(ok:compOk sc scope N Nf js=true)
  (ht:∀Z' cl C s₀ H₀ ex,DTs Z' (X.cp ([x]++Nf) scope cl C s₀ H₀ ex) (fun _=>E0) ifs c)(he:∀Z' cl C s₀ H₀ ex,DE Z' (X.cp ([x]++Nf) scope cl C s₀ H₀ ex) (fun _=>E0) elt d)
  (hg:∀cl C s₀ H₀ ex,PG (X.cp ([x]++Nf) scope cl C s₀ H₀ ex) (.Name x pt) (gName 0))
  (hgr:Gl X "range":=by rfl)(hs1:starEach [a] X.env=[(false,eval a X.env)]:=by rfl)(hsc:X.env.scope=sc:=by rfl)(hN:X.N=N:=by rfl)(hs:∀x,foldedSetIterable (.Call (.Name "range" p1) [a] [] p2) X.env x=pure x:=by intro _;rfl)(hiy:X.N[i]?=some y:=by rfl)(hxy:Loc X.env.scope y:=by walk_at "3")(hfy:X.fn y=true\/X.env.scope.names.lookup y=some .local:=by walk_at "2")(hsw:swapsWith (.ListComp elt [⟨.Name x pt,.Call (.Name "range" p1) [a] [] p2,ifs,0⟩] scope pos) (some (.Name y py)) spos.line X.env=pure true:=by rfl):
  DS Z X EE (.Assign [.Name y py] (.ListComp elt [⟨.Name x pt,.Call (.Name "range" p1) [a] [] p2,ifs,0⟩] scope pos) spos) (dSet i (dFz (dCompR rng1 js dA c d))):=by
 refine PS.mono (q89 (Nl:=[x]) (tc:=cT X.K c) (te:=cE X.K d) hc (q5i hgr hm ha hs1) ok hg (q7m ht) (q7n he) (q1w i hNd hiy hxy hfy) hsw hsc hN hs) ?_;rintro D σ H ⟨G,e,rel,h⟩;refine q7o σ H _ ⟨G,e,rel,?_⟩;refine(q9a h).imp (fun w e1 h G1 a xs H1 r1 s1 q1 q2 q3 q4 p1=>?_) fun _ _ h=>h
 obtain⟨sg,rg⟩:=r1.seen q1 q2 q3 q4;exact h _ _ H1 (rg.set (v:=.ref a) ⟨a,xs,rfl,SqL.of q0g,Reps.mono sg w p1⟩) (s1.trans sg)
end
mutual
noncomputable def depW:W->Nat
 |.tup ws=>depWs ws+1
 |.lst ws=>depWs ws+1
 |_=>0
noncomputable def depWs:List W->Nat
 |[]=>0
 |w::ws=>max (depW w) (depWs ws)
end
mutual
theorem q8g(I:Inv X pins σ H s)(sg:Same G H):∀(w:W){w':W}{v:V}{k:Bool},Rep X.K G w v->Rep X.K G w' v->eqW w w'=some k->k=true
 |.non,w',v,k,h,h',e=>by
  cases(show v=.non from h);cases w'<;>first|(cases e;done)|(cases h';cases e;rfl)|(exfalso;obtain⟨_,_,z,_⟩:=h';first|done|cases z)|(exfalso;obtain⟨_,z,_⟩:=h';first|done|cases z)
 |.bl b,w',v,k,h,h',e=>by
  cases(show v=.bl b from h);cases w'<;>first|(cases e;done)|(cases h';cases e;exact beq_self_eq_true _)|(exfalso;obtain⟨_,_,z,_⟩:=h';first|done|cases z)|(exfalso;obtain⟨_,z,_⟩:=h';first|done|cases z)
 |.int b,w',v,k,h,h',e=>by
  cases(show v=.int b from h);cases w'<;>first|(cases e;done)|(cases h';cases e;exact beq_self_eq_true _)|(exfalso;obtain⟨_,_,z,_⟩:=h';first|done|cases z)|(exfalso;obtain⟨_,z,_⟩:=h';first|done|cases z)
 |.str b,w',v,k,h,h',e=>by
  cases(show v=.str b from h);cases w'<;>first|(cases e;done)|(cases h';cases e;exact beq_self_eq_true _)|(exfalso;obtain⟨_,_,z,_⟩:=h';first|done|cases z)|(exfalso;obtain⟨_,z,_⟩:=h';first|done|cases z)
 |.tup ws,w',v,k,h,h',e=>by
  obtain⟨a,xs,rfl,q,r⟩:=h;cases w' with
  |tup ws'=>
   obtain⟨a',xs',z,q',r'⟩:=h';cases z;have:=I.tuple_inj (sg.tup q) (sg.tup q');subst this;exact q61 I sg ws r r' (e)
  |lst ws'=>
   obtain⟨a',xs',z,q',r'⟩:=h';cases z;obtain⟨its,_,p1,_⟩:=I.tuple (sg.tup q);obtain⟨its2,_,p2,_⟩:=I.list (sg.seq q');exact absurd rfl (SeqAt.ne_of_list_tuple p2.isList (show s.heap.IsTuple a _ from p1))
  |non=>cases h'
  |bl _=>cases h'
  |int _=>cases h'
  |str _=>cases h'
  |exc _=>cases e
  |dic _=>cases e
  |dw _ _ _ _=>cases e
  |fn _ _ _=>cases e
 |.lst ws,w',v,k,h,h',e=>by
  obtain⟨a,xs,rfl,q,r⟩:=h;cases w' with
  |lst ws'=>
   obtain⟨a',xs',z,q',r'⟩:=h';cases z;have:=I.list_inj (sg.seq q) (sg.seq q');subst this;exact q61 I sg ws r r' (e)
  |tup ws'=>
   obtain⟨a',xs',z,q',r'⟩:=h';cases z;obtain⟨its,_,p1,_⟩:=I.tuple (sg.tup q');obtain⟨its2,_,p2,_⟩:=I.list (sg.seq q);exact absurd rfl (SeqAt.ne_of_list_tuple p2.isList (show s.heap.IsTuple a _ from p1))
  |non=>cases h'
  |bl _=>cases h'
  |int _=>cases h'
  |str _=>cases h'
  |exc _=>cases e
  |dic _=>cases e
  |dw _ _ _ _=>cases e
  |fn _ _ _=>cases e
 |.exc c,w',v,k,h,h',e=>by cases w'<;>cases e
 |.dic c,w',v,k,h,h',e=>by cases w'<;>cases e
 |.dw _ _ _ _,w',v,k,h,h',e=>by cases w'<;>cases e
 |.fn _ _ _,w',v,k,h,h',e=>by cases w'<;>cases e
theorem q61(I:Inv X pins σ H s)(sg:Same G H):∀(ws:List W){ws':List W}{vs:List V}{k:Bool},Reps X.K G ws vs->Reps X.K G ws' vs->eqWs ws ws'=some k->k=true
 |[],ws',vs,k,h,h',e=>by
  cases h;cases ws' with
  |nil=>cases e;rfl
  |cons _ _=>obtain⟨_,_,z,_⟩:=h';cases z
 |w::ws,ws',vs,k,h,h',e=>by
  obtain⟨x,r,rfl,h1,h2⟩:=h;cases ws' with
  |nil=>cases h'
  |cons w' ws'=>
   obtain⟨x',r',z,h1',h2'⟩:=h';cases z;have e:(match eqW w w',eqWs ws ws' with|some a,some b=>some (a&&b)|_,_=>none)=some k:=e;cases q1:eqW w w' with
   |none=>rw[q1]at e;cases e
   |some b1=>
    cases q2:eqWs ws ws' with
    |none=>rw[q1,q2]at e;cases e
    |some b2=>
     rw[q1,q2]at e;rw[q8g I sg w h1 h1' q1,q61 I sg ws h2 h2' q2]at e;cases e;rfl
end
theorem q3j:∀{xs ys:List W}{b:Bool},eqWs xs ys=some b->(∀(j:Nat) x y,xs[j]?=some x->ys[j]?=some y->∃k,eqW x y=some k)/\b=((List.range (min xs.length ys.length)).all (fun j=>((eqW (xs.getD j .non) (ys.getD j .non)).getD false))&&xs.length==ys.length):=by
 intro xs
 induction xs with
 |nil=>
  intro ys b h;refine⟨fun j x y hx=>by simp at hx,?_⟩
  cases ys<;>(cases h;simp)
 |cons x xs ih=>
  intro ys b h;cases ys with
  |nil=>refine⟨fun j x y hx hy=>by simp at hy,?_⟩;cases h;simp
  |cons y ys=>
   have h:(match eqW x y,eqWs xs ys with|some a,some b=>some (a&&b)|_,_=>none)=some b:=h;cases q1:eqW x y with
   |none=>rw[q1]at h;cases h
   |some b1=>
    cases q2:eqWs xs ys with
    |none=>rw[q1,q2]at h;cases h
    |some b2=>
     rw[q1,q2]at h;cases h;obtain⟨h1,h2⟩:=ih q2;refine⟨fun j x' y' hx hy=>?_,?_⟩
     ·cases j with
      |zero=>simp at hx hy;subst hx hy;exact⟨_,q1⟩
      |succ j=>exact h1 j x' y' (by simpa using hx) (by simpa using hy)
     ·rw[h2];simp only[w0o,Nat.succ_min_succ,List.range_succ_eq_map,w1n,w4c]
      have e0:(eqW ((x::xs).getD 0 .non) ((y::ys).getD 0 .non)).getD false=b1:=by
       show(eqW x y).getD false=b1;rw[q1];rfl
      rw[e0,Bool.and_assoc];congr 1;congr 1;simp
theorem q5m:∀{xs:List W}{j:Nat}{x:W},xs[j]?=some x->depW x<=depWs xs
 |[],_,_,h=>by simp at h
 |y::ys,0,x,h=>by simp at h;subst h;simp only[depWs];omega
 |y::ys,j+1,x,h=>by
  have:=q5m (xs:=ys) (j:=j) (by simpa using h);simp only[depWs];omega
theorem q56{xs:List α}{j:Nat}{x d:α}(h:xs[j]?=some x):xs.getD j d=x:=by
 simp[List.getD,h]
theorem x0l(I:Inv X pins σ H s)(sg:Same G H)(hu:A.units<cLine)(n1:∀ws,w=.tup ws->∀ws',w'≠.tup ws')(n2:∀ws,w=.lst ws->∀ws',w'≠.lst ws')(h:Rep X.K G w v)(h':Rep X.K G w' v')(r:RelV v u)(r':RelV v' u')(e:eqW w w'=some b):SeqAt.RcAt A s u u' b:=by
 have tl:∀{ws:List W}{v:V}{u:Value},Rep X.K G (.lst ws) v->RelV v u->∃l items,u=.ref l/\s.heap.IsList l items:=fun h r=>by
  obtain⟨a,xs,rfl,q,_⟩:=h;cases r;obtain⟨its,_,p,_⟩:=I.list (sg.seq q);exact⟨a,_,rfl,p.isList⟩
 have tt:∀{ws:List W}{v:V}{u:Value},Rep X.K G (.tup ws) v->RelV v u->∃l items,u=.ref l/\s.heap.IsTuple l items:=fun h r=>by
  obtain⟨a,xs,rfl,q,_⟩:=h;cases r;obtain⟨its,_,p,_⟩:=I.tuple (sg.tup q);exact⟨a,_,rfl,p⟩
 have tn:∀{v:V}{u:Value},Rep X.K G .non v->RelV v u->u=.none:=fun h r=>by cases h;exact r
 have tb:∀{k:Bool}{v:V}{u:Value},Rep X.K G (.bl k) v->RelV v u->u=.bool k:=fun h r=>by cases h;exact r
 have ti:∀{k:Int}{v:V}{u:Value},Rep X.K G (.int k) v->RelV v u->∃t,u=.int k t:=fun h r=>by cases h;exact r
 have ts:∀{k:Str}{v:V}{u:Value},Rep X.K G (.str k) v->RelV v u->∃t,u=.str k t:=fun h r=>by cases h;exact r
 cases w with
 |non=>
  obtain rfl:=tn h r;cases w' with
  |non=>obtain rfl:=tn h' r';cases e;exact .none_none
  |bl k=>obtain rfl:=tb h' r';cases e;exact .none_bool k
  |int k=>obtain⟨t,rfl⟩:=ti h' r';cases e;exact .none_int k t
  |str k=>obtain⟨t,rfl⟩:=ts h' r';cases e;exact .none_str k t
  |tup k=>obtain⟨l,it,rfl,p⟩:=tt h' r';cases e;exact .none_tuple p hu
  |lst k=>obtain⟨l,it,rfl,p⟩:=tl h' r';cases e;exact .none_list p hu
  |exc k=>cases e
  |dic k=>cases e
  |dw _ _ _ _=>cases e
  |fn _ _ _=>cases e
 |bl j=>
  obtain rfl:=tb h r;cases w' with
  |non=>obtain rfl:=tn h' r';cases e;exact .bool_none j
  |bl k=>obtain rfl:=tb h' r';cases e;exact .bool_bool j k
  |int k=>obtain⟨t,rfl⟩:=ti h' r';cases e;exact .bool_int j k t
  |str k=>obtain⟨t,rfl⟩:=ts h' r';cases e;exact .bool_str j k t
  |tup k=>obtain⟨l,it,rfl,p⟩:=tt h' r';cases e;exact .bool_tuple j p hu
  |lst k=>obtain⟨l,it,rfl,p⟩:=tl h' r';cases e;exact .bool_list j p hu
  |exc k=>cases e
  |dic k=>cases e
  |dw _ _ _ _=>cases e
  |fn _ _ _=>cases e
 |int j=>
  obtain⟨t1,rfl⟩:=ti h r;cases w' with
  |non=>obtain rfl:=tn h' r';cases e;exact .int_none j t1
  |bl k=>obtain rfl:=tb h' r';cases e;exact .int_bool j t1 k
  |int k=>obtain⟨t,rfl⟩:=ti h' r';cases e;exact .int_int j t1 k t
  |str k=>obtain⟨t,rfl⟩:=ts h' r';cases e;exact .int_str j t1 k t
  |tup k=>obtain⟨l,it,rfl,p⟩:=tt h' r';cases e;exact .int_tuple j t1 p hu
  |lst k=>obtain⟨l,it,rfl,p⟩:=tl h' r';cases e;exact .int_list j t1 p hu
  |exc k=>cases e
  |dic k=>cases e
  |dw _ _ _ _=>cases e
  |fn _ _ _=>cases e
 |str j=>
  obtain⟨t1,rfl⟩:=ts h r;cases w' with
  |non=>obtain rfl:=tn h' r';cases e;exact .str_none j t1
  |bl k=>obtain rfl:=tb h' r';cases e;exact .str_bool j t1 k
  |int k=>obtain⟨t,rfl⟩:=ti h' r';cases e;exact .str_int j t1 k t
  |str k=>obtain⟨t,rfl⟩:=ts h' r';cases e;exact .str_str j t1 k t
  |tup k=>obtain⟨l,it,rfl,p⟩:=tt h' r';cases e;exact .str_tuple j t1 p hu
  |lst k=>obtain⟨l,it,rfl,p⟩:=tl h' r';cases e;exact .str_list j t1 p hu
  |exc k=>cases e
  |dic k=>cases e
  |dw _ _ _ _=>cases e
  |fn _ _ _=>cases e
 |tup j=>
  obtain⟨l1,it1,rfl,p1⟩:=tt h r;cases w' with
  |non=>obtain rfl:=tn h' r';cases e;exact .tuple_none p1 hu
  |bl k=>obtain rfl:=tb h' r';cases e;exact .tuple_bool k p1 hu
  |int k=>obtain⟨t,rfl⟩:=ti h' r';cases e;exact .tuple_int k t p1 hu
  |str k=>obtain⟨t,rfl⟩:=ts h' r';cases e;exact .tuple_str k t p1 hu
  |tup k=>exact absurd rfl (n1 j rfl k)
  |lst k=>obtain⟨l,it,rfl,p⟩:=tl h' r';cases e;exact .tuple_list p1 p hu
  |exc k=>cases e
  |dic k=>cases e
  |dw _ _ _ _=>cases e
  |fn _ _ _=>cases e
 |lst j=>
  obtain⟨l1,it1,rfl,p1⟩:=tl h r;cases w' with
  |non=>obtain rfl:=tn h' r';cases e;exact .list_none p1 hu
  |bl k=>obtain rfl:=tb h' r';cases e;exact .list_bool k p1 hu
  |int k=>obtain⟨t,rfl⟩:=ti h' r';cases e;exact .list_int k t p1 hu
  |str k=>obtain⟨t,rfl⟩:=ts h' r';cases e;exact .list_str k t p1 hu
  |lst k=>exact absurd rfl (n2 j rfl k)
  |tup k=>obtain⟨l,it,rfl,p⟩:=tt h' r';cases e;exact .list_tuple p1 p hu
  |exc k=>cases e
  |dic k=>cases e
  |dw _ _ _ _=>cases e
  |fn _ _ _=>cases e
 |exc j=>cases w'<;>cases e
 |dic j=>cases w'<;>cases e
 |dw _ _ _ _=>cases w'<;>cases e
 |fn _ _ _=>cases w'<;>cases e
theorem x2l(I:Inv X pins σ H s)(sg:Same G H)(hd:depW w<=0)(hu:A.units<cLine)(h:Rep X.K G w v)(h':Rep X.K G w' v')(r:RelV v u)(r':RelV v' u')(e:eqW w w'=some b):SeqAt.RcAt A s u u' b:=
 x0l I sg hu (fun ws z=>by subst z;simp[depW]at hd) (fun ws z=>by subst z;simp[depW]at hd) h h' r r' e
theorem x0m(h:Rep K G w v):∀x,v≠.flt x:=fun x z=>by
 subst z;cases w with
 |tup ws=>obtain⟨_,_,z,_⟩:=h;cases z
 |lst ws=>obtain⟨_,_,z,_⟩:=h;cases z
 |exc c=>obtain⟨_,z,_⟩:=h;cases z
 |dic c=>obtain⟨_,z,_⟩:=h;cases z
 |dw _ _ _ _=>obtain⟨_,_,_,z,_⟩:=h;cases z
 |fn _ _ _=>obtain⟨_,_,_,_,z,_⟩:=h;cases z
 |_=>cases h
theorem x0n(rv:RelV v u)(hf:∀x,v≠.flt x)(h:SeqAt.RcAt A s u u' b)(hs:u=u'->b=true):SeqAt.EqAt A s u u' b:=fun prog w E Q hq=>by
 unfold eqBool;refine wpAny_holding ?_;refine wpAny_ite_split (fun hab=>?_) (fun _=>?_)
 ·have hb:=hs (eq_of_beq hab);subst hb;exact wpAny_bind (wpAny_rule (wpAny_pure hq))
 ·have z:=wpAny_bind (h prog w E (fun a s'=>wpAny (model prog w) A (truthOfDropped a) Q E s') (wpAny_truthy_bool hq))
  cases v with
  |flt x=>exact absurd rfl (hf x)
  |non=>cases rv;exact z
  |bl _=>cases rv;exact z
  |int _=>obtain⟨t,rfl⟩:=rv;exact z
  |str _=>obtain⟨t,rfl⟩:=rv;exact z
  |byt _=>obtain⟨t,rfl⟩:=rv;exact z
  |ref _=>cases rv;exact z
  |ty _=>cases rv;exact z
theorem x71(I:Inv X pins σ H s)(sg:Same G H):∀(n:Nat){w w':W}{v v':V}{u u':Value}{b:Bool}{A:Around},depW w<=n->A.units+n<cLine->Rep X.K G w v->Rep X.K G w' v'->RelV v u->RelV v' u'->eqW w w'=some b->SeqAt.RcAt A s u u' b:=by
 intro n
 induction n with
 |zero=>
  intro w w' v v' u u' b A hd hu h h' r r' e;exact x2l I sg hd (by omega) h h' r r' e
 |succ n ih=>
  intro w w' v v' u u' b A hd hu h h' r r' e
  have items:∀{ws ws':List W}{xs xs':List V}{its its':List Value}{k:Bool},depWs ws<=n->Reps X.K G ws xs->Reps X.K G ws' xs'->Vals xs its->Vals xs' its'->eqWs ws ws'=some k ->
    ∀j (h1:j<its.toArray.size) (h2:j<its'.toArray.size),SeqAt.EqAt A.in1 s its.toArray[j] its'.toArray[j] ((eqW (ws.getD j .non) (ws'.getD j .non)).getD false):=by
   intro ws ws' xs xs' its its' k hd r1 r2 v1 v2 he j h1 h2;have l1:=r1.length;have l2:=r2.length;have m1:=v1.length;have m2:=v2.length;have i1:j<xs.length:=by rw[m1];simpa using h1
   have i2:j<xs'.length:=by rw[m2];simpa using h2
   obtain⟨u1,e1,ru1⟩:=v1.get (w0f i1);obtain⟨u2,e2,ru2⟩:=v2.get (w0f i2);obtain⟨w1,f1,p1⟩:=r1.getV (w0f i1);obtain⟨w2,f2,p2⟩:=r2.getV (w0f i2);obtain⟨b',hb'⟩:=(q3j he).1 j w1 w2 f1 f2;rw[q56 f1,q56 f2,hb']
   have g1:its.toArray[j]=u1:=by
    obtain⟨_,z⟩:=w0b.mp e1
    simpa using z
   have g2:its'.toArray[j]=u2:=by
    obtain⟨_,z⟩:=w0b.mp e2
    simpa using z
   rw[g1,g2];have hdw:depW w1<=n:=w0j (q5m f1) hd
   have hun:A.in1.units+n<cLine:=by
    have:A.in1.units=A.units+1:=rfl;omega
   refine x0n ru1 (x0m p1) (ih hdw hun p1 p2 ru1 ru2 hb') fun z=>?_
   subst z;have:=ru1.inj ru2;rw[this]at p1;exact q8g I sg w1 p1 p2 hb'
  cases w with
  |tup ws=>
   cases w' with
   |tup ws'=>
    obtain⟨a,xs,rfl,q1,r1⟩:=h;obtain⟨a',xs',rfl,q2,r2⟩:=h';cases r;cases r';obtain⟨its,v1,p1,_⟩:=I.tuple (sg.tup q1);obtain⟨its',v2,p2,_⟩:=I.tuple (sg.tup q2);have e:eqWs ws ws'=some b:=e;have z:=SeqAt.RcAt.tuples (show s.heap.IsTuple a _ from p1) (show s.heap.IsTuple a' _ from p2) (show A.units<cLine by omega) (items (by simp only[depW]at hd;omega) r1 r2 v1 v2 e);have l1:=r1.length;have l2:=r2.length;have m1:=v1.length;have m2:=v2.length;have eb:=(q3j e).2;have n1:its.length=ws.length:=by omega
    have n2:its'.length=ws'.length:=by omega
    rw[eb];simp only[w0c,n1,n2]at z;exact z
   |_=>exact x0l I sg (by omega) (by intro ws';simp) (by intro ws';simp) h h' r r' e
  |lst ws=>
   cases w' with
   |lst ws'=>
    obtain⟨a,xs,rfl,q1,r1⟩:=h;obtain⟨a',xs',rfl,q2,r2⟩:=h';cases r;cases r';obtain⟨its,v1,p1,_⟩:=I.list (sg.seq q1);obtain⟨its',v2,p2,_⟩:=I.list (sg.seq q2);have e:eqWs ws ws'=some b:=e;have l1:=r1.length;have l2:=r2.length;have m1:=v1.length;have m2:=v2.length;have eb:=(q3j e).2;have n1:its.length=ws.length:=by omega
    have n2:its'.length=ws'.length:=by omega
    by_cases hl:ws.length=ws'.length
    ·have z:=SeqAt.RcAt.lists p1.isList p2.isList (by simp only[w0c];omega) (show A.units<cLine by omega) (items (by simp only[depW]at hd;omega) r1 r2 v1 v2 e);rw[eb,hl];simp only[w0c,n1,hl,Nat.min_self,beq_self_eq_true,w3u]at z |-
     exact z
    ·have z:=SeqAt.RcAt.lists_lengths (A:=A) p1.isList p2.isList (by simp only[w0c,bne_iff_ne];omega) (show A.units<cLine by omega)
     have:b=false:=by
      rw[eb];have:(ws.length==ws'.length)=false:=by simp[hl]
      rw[this,Bool.and_false]
     rw[this];exact z
   |_=>exact x0l I sg (by omega) (by intro ws';simp) (by intro ws';simp) h h' r r' e
  |_=>exact x2l I sg (by simp[depW]) (by omega) h h' r r' e
theorem q62(I:Inv X pins σ H s)(sg:Same G H)(hu:A.units<cLine)(n1:∀ws,w=.tup ws->∀ws',w'≠.tup ws')(n2:∀ws,w=.lst ws->∀ws',w'≠.lst ws')(h:Rep X.K G w v)(h':Rep X.K G w' v')(r:RelV v u)(r':RelV v' u')(e:eqW w w'=some b):SeqAt.RcNeAt A s u u' (!b):=by
 have tl:∀{ws:List W}{v:V}{u:Value},Rep X.K G (.lst ws) v->RelV v u->∃l items,u=.ref l/\s.heap.IsList l items:=fun h r=>by
  obtain⟨a,xs,rfl,q,_⟩:=h;cases r;obtain⟨its,_,p,_⟩:=I.list (sg.seq q);exact⟨a,_,rfl,p.isList⟩
 have tt:∀{ws:List W}{v:V}{u:Value},Rep X.K G (.tup ws) v->RelV v u->∃l items,u=.ref l/\s.heap.IsTuple l items:=fun h r=>by
  obtain⟨a,xs,rfl,q,_⟩:=h;cases r;obtain⟨its,_,p,_⟩:=I.tuple (sg.tup q);exact⟨a,_,rfl,p⟩
 have tn:∀{v:V}{u:Value},Rep X.K G .non v->RelV v u->u=.none:=fun h r=>by cases h;exact r
 have tb:∀{k:Bool}{v:V}{u:Value},Rep X.K G (.bl k) v->RelV v u->u=.bool k:=fun h r=>by cases h;exact r
 have ti:∀{k:Int}{v:V}{u:Value},Rep X.K G (.int k) v->RelV v u->∃t,u=.int k t:=fun h r=>by cases h;exact r
 have ts:∀{k:Str}{v:V}{u:Value},Rep X.K G (.str k) v->RelV v u->∃t,u=.str k t:=fun h r=>by cases h;exact r
 cases w with
 |non=>
  obtain rfl:=tn h r;cases w' with
  |non=>obtain rfl:=tn h' r';cases e;exact .none_none
  |bl k=>obtain rfl:=tb h' r';cases e;exact .none_bool k
  |int k=>obtain⟨t,rfl⟩:=ti h' r';cases e;exact .none_int k t
  |str k=>obtain⟨t,rfl⟩:=ts h' r';cases e;exact .none_str k t
  |tup k=>obtain⟨l,it,rfl,p⟩:=tt h' r';cases e;exact .none_tuple p hu
  |lst k=>obtain⟨l,it,rfl,p⟩:=tl h' r';cases e;exact .none_list p hu
  |exc k=>cases e
  |dic k=>cases e
  |dw _ _ _ _=>cases e
  |fn _ _ _=>cases e
 |bl j=>
  obtain rfl:=tb h r;cases w' with
  |non=>obtain rfl:=tn h' r';cases e;exact .bool_none j
  |bl k=>obtain rfl:=tb h' r';cases e;exact .bool_bool j k
  |int k=>obtain⟨t,rfl⟩:=ti h' r';cases e;exact .bool_int j k t
  |str k=>obtain⟨t,rfl⟩:=ts h' r';cases e;exact .bool_str j k t
  |tup k=>obtain⟨l,it,rfl,p⟩:=tt h' r';cases e;exact .bool_tuple j p hu
  |lst k=>obtain⟨l,it,rfl,p⟩:=tl h' r';cases e;exact .bool_list j p hu
  |exc k=>cases e
  |dic k=>cases e
  |dw _ _ _ _=>cases e
  |fn _ _ _=>cases e
 |int j=>
  obtain⟨t1,rfl⟩:=ti h r;cases w' with
  |non=>obtain rfl:=tn h' r';cases e;exact .int_none j t1
  |bl k=>obtain rfl:=tb h' r';cases e;exact .int_bool j t1 k
  |int k=>obtain⟨t,rfl⟩:=ti h' r';cases e;exact .int_int j t1 k t
  |str k=>obtain⟨t,rfl⟩:=ts h' r';cases e;exact .int_str j t1 k t
  |tup k=>obtain⟨l,it,rfl,p⟩:=tt h' r';cases e;exact .int_tuple j t1 p hu
  |lst k=>obtain⟨l,it,rfl,p⟩:=tl h' r';cases e;exact .int_list j t1 p hu
  |exc k=>cases e
  |dic k=>cases e
  |dw _ _ _ _=>cases e
  |fn _ _ _=>cases e
 |str j=>
  obtain⟨t1,rfl⟩:=ts h r;cases w' with
  |non=>obtain rfl:=tn h' r';cases e;exact .str_none j t1
  |bl k=>obtain rfl:=tb h' r';cases e;exact .str_bool j t1 k
  |int k=>obtain⟨t,rfl⟩:=ti h' r';cases e;exact .str_int j t1 k t
  |str k=>obtain⟨t,rfl⟩:=ts h' r';cases e;exact .str_str j t1 k t
  |tup k=>obtain⟨l,it,rfl,p⟩:=tt h' r';cases e;exact .str_tuple j t1 p hu
  |lst k=>obtain⟨l,it,rfl,p⟩:=tl h' r';cases e;exact .str_list j t1 p hu
  |exc k=>cases e
  |dic k=>cases e
  |dw _ _ _ _=>cases e
  |fn _ _ _=>cases e
 |tup j=>
  obtain⟨l1,it1,rfl,p1⟩:=tt h r;cases w' with
  |non=>obtain rfl:=tn h' r';cases e;exact .tuple_none p1 hu
  |bl k=>obtain rfl:=tb h' r';cases e;exact .tuple_bool k p1 hu
  |int k=>obtain⟨t,rfl⟩:=ti h' r';cases e;exact .tuple_int k t p1 hu
  |str k=>obtain⟨t,rfl⟩:=ts h' r';cases e;exact .tuple_str k t p1 hu
  |tup k=>exact absurd rfl (n1 j rfl k)
  |lst k=>obtain⟨l,it,rfl,p⟩:=tl h' r';cases e;exact .tuple_list p1 p hu
  |exc k=>cases e
  |dic k=>cases e
  |dw _ _ _ _=>cases e
  |fn _ _ _=>cases e
 |lst j=>
  obtain⟨l1,it1,rfl,p1⟩:=tl h r;cases w' with
  |non=>obtain rfl:=tn h' r';cases e;exact .list_none p1 hu
  |bl k=>obtain rfl:=tb h' r';cases e;exact .list_bool k p1 hu
  |int k=>obtain⟨t,rfl⟩:=ti h' r';cases e;exact .list_int k t p1 hu
  |str k=>obtain⟨t,rfl⟩:=ts h' r';cases e;exact .list_str k t p1 hu
  |lst k=>exact absurd rfl (n2 j rfl k)
  |tup k=>obtain⟨l,it,rfl,p⟩:=tt h' r';cases e;exact .list_tuple p1 p hu
  |exc k=>cases e
  |dic k=>cases e
  |dw _ _ _ _=>cases e
  |fn _ _ _=>cases e
 |exc j=>cases w'<;>cases e
 |dic j=>cases w'<;>cases e
 |dw _ _ _ _=>cases w'<;>cases e
 |fn _ _ _=>cases w'<;>cases e
theorem x4o(I:Inv X pins σ H s)(sg:Same G H)(hd:depW w<=0)(hu:A.units<cLine)(h:Rep X.K G w v)(h':Rep X.K G w' v')(r:RelV v u)(r':RelV v' u')(e:eqW w w'=some b):SeqAt.RcNeAt A s u u' (!b):=
 q62 I sg hu (fun ws z=>by subst z;simp[depW]at hd) (fun ws z=>by subst z;simp[depW]at hd) h h' r r' e
theorem x0o(I:Inv X pins σ H s)(sg:Same G H)(hu:A.units+(n+1)<cLine){ws':List W}{xs':List V}{its its':List Value}{k:Bool}(hd:depWs ws<=n)(r1:Reps X.K G ws xs)(r2:Reps X.K G ws' xs')(v1:Vals xs its)(v2:Vals xs' its')(he:eqWs ws ws'=some k):
  ∀j (h1:j<its.toArray.size) (h2:j<its'.toArray.size),SeqAt.EqAt A.in1 s its.toArray[j] its'.toArray[j] ((eqW (ws.getD j .non) (ws'.getD j .non)).getD false):=by
 intro j h1 h2;have l1:=r1.length;have l2:=r2.length;have m1:=v1.length;have m2:=v2.length;have i1:j<xs.length:=by rw[m1];simpa using h1
 have i2:j<xs'.length:=by rw[m2];simpa using h2
 obtain⟨u1,e1,ru1⟩:=v1.get (w0f i1);obtain⟨u2,e2,ru2⟩:=v2.get (w0f i2);obtain⟨w1,f1,p1⟩:=r1.getV (w0f i1);obtain⟨w2,f2,p2⟩:=r2.getV (w0f i2);obtain⟨b',hb'⟩:=(q3j he).1 j w1 w2 f1 f2;rw[q56 f1,q56 f2,hb']
 have g1:its.toArray[j]=u1:=by
  obtain⟨_,z⟩:=w0b.mp e1
  simpa using z
 have g2:its'.toArray[j]=u2:=by
  obtain⟨_,z⟩:=w0b.mp e2
  simpa using z
 rw[g1,g2];have hdw:depW w1<=n:=w0j (q5m f1) hd
 have hun:A.in1.units+n<cLine:=by
  have:A.in1.units=A.units+1:=rfl;omega
 refine x0n ru1 (x0m p1) (x71 I sg n hdw hun p1 p2 ru1 ru2 hb') fun z=>?_
 subst z;have:=ru1.inj ru2;rw[this]at p1;exact q8g I sg w1 p1 p2 hb'
theorem x8y(I:Inv X pins σ H s)(sg:Same G H)(n:Nat)(hd:depW w<=n+1)(hu:A.units+(n+1)<cLine)(h:Rep X.K G w v)(h':Rep X.K G w' v')(r:RelV v u)(r':RelV v' u')(e:eqW w w'=some b):SeqAt.RcNeAt A s u u' (!b):=by
 cases w with
 |tup ws=>
  cases w' with
  |tup ws'=>
   obtain⟨a,xs,rfl,q1,r1⟩:=h;obtain⟨a',xs',rfl,q2,r2⟩:=h';cases r;cases r';obtain⟨its,v1,p1,_⟩:=I.tuple (sg.tup q1);obtain⟨its',v2,p2,_⟩:=I.tuple (sg.tup q2);have e:eqWs ws ws'=some b:=e;have z:=SeqAt.RcNeAt.tuples (show s.heap.IsTuple a _ from p1) (show s.heap.IsTuple a' _ from p2) (show A.units<cLine by omega) (x0o I sg hu (by simp only[depW]at hd;omega) r1 r2 v1 v2 e);have l1:=r1.length;have l2:=r2.length;have m1:=v1.length;have m2:=v2.length;have eb:=(q3j e).2;have n1:its.length=ws.length:=by omega
   have n2:its'.length=ws'.length:=by omega
   rw[eb];simp only[w0c,n1,n2]at z;exact z
  |_=>exact q62 I sg (by omega) (by intro ws';simp) (by intro ws';simp) h h' r r' e
 |lst ws=>
  cases w' with
  |lst ws'=>
   obtain⟨a,xs,rfl,q1,r1⟩:=h;obtain⟨a',xs',rfl,q2,r2⟩:=h';cases r;cases r';obtain⟨its,v1,p1,_⟩:=I.list (sg.seq q1);obtain⟨its',v2,p2,_⟩:=I.list (sg.seq q2);have e:eqWs ws ws'=some b:=e;have l1:=r1.length;have l2:=r2.length;have m1:=v1.length;have m2:=v2.length;have eb:=(q3j e).2;have n1:its.length=ws.length:=by omega
   have n2:its'.length=ws'.length:=by omega
   by_cases hl:ws.length=ws'.length
   ·have z:=SeqAt.RcNeAt.lists p1.isList p2.isList (by simp only[w0c];omega) (show A.units<cLine by omega) (x0o I sg hu (by simp only[depW]at hd;omega) r1 r2 v1 v2 e);rw[eb,hl];simp only[w0c,n1,hl,Nat.min_self,beq_self_eq_true,w3u]at z |-
    exact z
   ·have z:=SeqAt.RcNeAt.lists_lengths (A:=A) p1.isList p2.isList (by simp only[w0c,bne_iff_ne];omega) (show A.units<cLine by omega)
    have:b=false:=by
     rw[eb];have:(ws.length==ws'.length)=false:=by simp[hl]
     rw[this,Bool.and_false]
    rw[this];exact z
  |_=>exact q62 I sg (by omega) (by intro ws';simp) (by intro ws';simp) h h' r r' e
 |_=>exact x4o I sg (by simp[depW]) (by omega) h h' r r' e
noncomputable def eq2(x y:W):Option W:=if depW x<=150 then(eqW x y).map .bl else none
def rEqD(K:PySem.W.Frag):R2:=fun x y H Q=>∃G wx wy b,Same G H/\depW wx<=150/\Rep K G wx x/\Rep K G wy y/\eqW wx wy=some b/\Q (.bl b) H
theorem x4p(hu:X.A.units+150<cLine):OpR X (compareOp .Eq) (rEqD X.K):=by
 intro pins s σ H x y v u Q I rx ry h;obtain⟨G,wx,wy,b,sg,hd,hx,hy,e,q⟩:=h;exact x71 I sg 150 hd hu hx hy rx ry e _ _ _ _ ⟨.bl b,H,I,rfl,q⟩
theorem x72:Op2 K (rEqD K) eq2:=by
 intro G H x y wx wy w Q s px py hf h;unfold eq2 at hf;split at hf
 ·rename_i hd;obtain⟨b,hb,rfl⟩:=w0m.mp hf;exact⟨G,wx,wy,b,s,hd,px,py,hb,h G _ H (.refl s) rfl⟩
 ·cases hf
noncomputable def ne2(x y:W):Option W:=if depW x<=150 then(eqW x y).map fun b=>.bl (!b)else none
def rNeD(K:PySem.W.Frag):R2:=fun x y H Q=>∃G wx wy b,Same G H/\depW wx<=150/\Rep K G wx x/\Rep K G wy y/\eqW wx wy=some b/\Q (.bl (!b)) H
theorem y1v(hu:X.A.units+150<cLine):OpR X (compareOp .NotEq) (rNeD X.K):=by
 intro pins s σ H x y v u Q I rx ry h;obtain⟨G,wx,wy,b,sg,hd,hx,hy,e,q⟩:=h;exact x8y I sg 149 hd hu hx hy rx ry e _ _ _ _ ⟨.bl (!b),H,I,rfl,q⟩
theorem y4e:Op2 K (rNeD K) ne2:=by
 intro G H x y wx wy w Q s px py hf h;unfold ne2 at hf;split at hf
 ·rename_i hd;obtain⟨b,hb,rfl⟩:=w0m.mp hf;exact⟨G,wx,wy,b,s,hd,px,py,hb,h G _ H (.refl s) rfl⟩
 ·cases hf
noncomputable def isW:W->W->Option W
 |.non,.non=>some (.bl true)
 |_,.non=>some (.bl false)
 |.bl a,.bl b=>some (.bl (a==b))
 |_,.bl _=>some (.bl false)
 |_,_=>none
noncomputable def nisW:W->W->Option W
 |.non,.non=>some (.bl false)
 |_,.non=>some (.bl true)
 |.bl a,.bl b=>some (.bl (!(a==b)))
 |_,.bl _=>some (.bl true)
 |_,_=>none
def rIs:R2:=fun x y H Q=>(y=.non\/∃b,y=.bl b)/\Q (.bl (decide (x=y))) H
def rNis:R2:=fun x y H Q=>(y=.non\/∃b,y=.bl b)/\Q (.bl (!decide (x=y))) H
theorem x0p{x y:V}{v:Value}(rx:RelV x v)(ry:RelV y u)(h:y=.non\/∃b,y=.bl b):plainIs v u=true/\(v==u)=decide (x=y):=by
 rcases h with rfl|⟨b,rfl⟩
 ·cases ry
  cases x<;>first
   |(cases rx;exact⟨rfl,by first|rfl|(rw[w1i];simp)⟩)
   |(obtain⟨t,rfl⟩:=rx;exact⟨rfl,by rw[w1i];simp⟩)
 ·cases ry
  cases x<;>first
   |(cases rx;exact⟨rfl,by first|rfl|(rw[w1i];simp)⟩)
   |(obtain⟨t,rfl⟩:=rx;exact⟨rfl,by rw[w1i];simp⟩)
theorem x4q:OpR X (compareOp .Is) rIs:=by
 intro pins s σ H x y v u Q I rx ry h;obtain⟨hy,q⟩:=h;obtain⟨h1,h2⟩:=x0p rx ry hy;exact wpAny_is_plain h1 (x35 I q h2.symm)
theorem x8z:OpR X (compareOp .IsNot) rNis:=by
 intro pins s σ H x y v u Q I rx ry h;obtain⟨hy,q⟩:=h;obtain⟨h1,h2⟩:=x0p rx ry hy;exact wpAny_isNot_plain h1 (x35 I q (by rw[h2]))
theorem y4f{x y:V}{wx wy:W}(px:Rep K G wx x)(py:Rep K G wy y)(h:isW wx wy=some w):(y=.non\/∃b,y=.bl b)/\w=.bl (decide (x=y)):=by
 cases wy with
 |non=>
  cases(show y=.non from py);refine⟨.inl rfl,?_⟩;cases wx with
  |tup ws=>obtain⟨_,_,rfl,_⟩:=px;cases h;simp
  |lst ws=>obtain⟨_,_,rfl,_⟩:=px;cases h;simp
  |exc c=>obtain⟨_,rfl,_⟩:=px;cases h;simp
  |dic c=>obtain⟨_,rfl,_⟩:=px;cases h;simp
  |dw _ _ _ _=>obtain⟨_,_,_,rfl,_⟩:=px;cases h;simp
  |fn _ _ _=>obtain⟨_,_,_,_,rfl,_⟩:=px;cases h;simp
  |_=>cases px;cases h;simp
 |bl b=>
  cases(show y=.bl b from py);refine⟨.inr ⟨b,rfl⟩,?_⟩;cases wx with
  |tup ws=>obtain⟨_,_,rfl,_⟩:=px;cases h;simp
  |lst ws=>obtain⟨_,_,rfl,_⟩:=px;cases h;simp
  |exc c=>obtain⟨_,rfl,_⟩:=px;cases h;simp
  |dic c=>obtain⟨_,rfl,_⟩:=px;cases h;simp
  |dw _ _ _ _=>obtain⟨_,_,_,rfl,_⟩:=px;cases h;simp
  |fn _ _ _=>obtain⟨_,_,_,_,rfl,_⟩:=px;cases h;simp
  |bl k=>cases px;cases h;cases k<;>cases b<;>rfl
  |_=>cases px;cases h;simp
 |_=>cases wx<;>cases h
theorem y1w{x y:V}{wx wy:W}(px:Rep K G wx x)(py:Rep K G wy y)(h:nisW wx wy=some w):(y=.non\/∃b,y=.bl b)/\w=.bl (!decide (x=y)):=by
 cases wy with
 |non=>
  cases(show y=.non from py);refine⟨.inl rfl,?_⟩;cases wx with
  |tup ws=>obtain⟨_,_,rfl,_⟩:=px;cases h;simp
  |lst ws=>obtain⟨_,_,rfl,_⟩:=px;cases h;simp
  |exc c=>obtain⟨_,rfl,_⟩:=px;cases h;simp
  |dic c=>obtain⟨_,rfl,_⟩:=px;cases h;simp
  |dw _ _ _ _=>obtain⟨_,_,_,rfl,_⟩:=px;cases h;simp
  |fn _ _ _=>obtain⟨_,_,_,_,rfl,_⟩:=px;cases h;simp
  |_=>cases px;cases h;simp
 |bl b=>
  cases(show y=.bl b from py);refine⟨.inr ⟨b,rfl⟩,?_⟩;cases wx with
  |tup ws=>obtain⟨_,_,rfl,_⟩:=px;cases h;simp
  |lst ws=>obtain⟨_,_,rfl,_⟩:=px;cases h;simp
  |exc c=>obtain⟨_,rfl,_⟩:=px;cases h;simp
  |dic c=>obtain⟨_,rfl,_⟩:=px;cases h;simp
  |dw _ _ _ _=>obtain⟨_,_,_,rfl,_⟩:=px;cases h;simp
  |fn _ _ _=>obtain⟨_,_,_,_,rfl,_⟩:=px;cases h;simp
  |bl k=>cases px;cases h;cases k<;>cases b<;>rfl
  |_=>cases px;cases h;simp
 |_=>cases wx<;>cases h
theorem x73:Op2 K rIs isW:=by
 intro G H x y wx wy w Q s px py hf h;obtain⟨h1,rfl⟩:=y4f px py hf;exact⟨h1,h G _ H (.refl s) rfl⟩
theorem y1x:Op2 K rNis nisW:=by
 intro G H x y wx wy w Q s px py hf h;obtain⟨h1,rfl⟩:=y1w px py hf;exact⟨h1,h G _ H (.refl s) rfl⟩
section
variable{a b c e:Expr}{p:Pos}
theorem q0v(ha:DE Z X EE a da)(hb:DE Z X EE b db):DE Z X EE (.BinOp a .Add b pos) (dOp addW da db):=q53 (op_add.or (op_add_str.or (op_catT.or x8w))) y1l ha hb
theorem q7p(ha:DE Z X EE a da)(hb:DE Z X EE b db):DE Z X EE (.BinOp a .Sub b pos) (dOp subW da db):=q53 y03 y1m ha hb
theorem q10(ha:DE Z X EE a da)(hb:DE Z X EE b db):DE Z X EE (.BinOp a .Mult b pos) (dOp mulW da db):=q53 y04 y1n ha hb
theorem q8h(ha:DE Z X EE a da)(hb:DE Z X EE b db):DE Z X EE (.BinOp a .FloorDiv b pos) (dOp fdivW da db):=q53 x8g x8x ha hb
theorem q11(ha:DE Z X EE a da)(hb:DE Z X EE b db):DE Z X EE (.BinOp a .Mod b pos) (dOp modW da db):=q53 y05 y1o ha hb
theorem y1y(ha:DE Z X EE a da):DE Z X EE (.UnaryOp .USub a pos) (dUn negW da):=y38 y06 y1p ha
theorem q4u(hu:X.A.units+150<cLine)(ha:DE Z X EE a da)(hb:DE Z X EE b db):DE Z X EE (.Compare a [.Eq] [b] pos) (dOp eq2 da db):=x0f (x4p hu) x72 ha hb (nomark _)
theorem y4g(ha:DE Z X EE a da)(hb:DE Z X EE b db):DE Z X EE (.Compare a [.Is] [b] pos) (dOp isW da db):=x0f x4q x73 ha hb (nomark _)
theorem y1z(ha:DE Z X EE a da)(hb:DE Z X EE b db):DE Z X EE (.Compare a [.IsNot] [b] pos) (dOp nisW da db):=x0f x8z y1x ha hb (nomark _)
theorem x74(ha:DE Z X EE a da)(hb:DE Z X EE b db):DT Z X EE (.Compare a [.Lt] [b] pos) (dTest (dOp ltW da db)):=q4i y34 y4c ha hb (nomark _)
theorem x75(ha:DE Z X EE a da)(hb:DE Z X EE b db):DT Z X EE (.Compare a [.Gt] [b] pos) (dTest (dOp gtW da db)):=q4i y35 y4d ha hb (nomark _)
theorem q4v(hu:X.A.units+150<cLine)(ha:DE Z X EE a da)(hb:DE Z X EE b db):DT Z X EE (.Compare a [.Eq] [b] pos) (dTest (dOp eq2 da db)):=q4i (x4p hu) x72 ha hb (nomark _)
theorem q7q(hu:X.A.units+150<cLine)(ha:DE Z X EE a da)(hb:DE Z X EE b db):DT Z X EE (.Compare a [.NotEq] [b] pos) (dTest (dOp ne2 da db)):=q4i (y1v hu) y4e ha hb (nomark _)
theorem q7r(ha:DE Z X EE a da)(hb:DE Z X EE b db):DT Z X EE (.Compare a [.Is] [b] pos) (dTest (dOp isW da db)):=q4i x4q x73 ha hb (nomark _)
theorem q0u(h:Room k A):A.units+150<cLine:=by have:=h.un;omega
noncomputable def cutW(xs:List W)(lo hi:Option Int):List W:=(xs.drop (HT.sIx xs.length 0 lo)).take (HT.sIx xs.length xs.length hi-HT.sIx xs.length 0 lo)
theorem Reps.cut(r:Reps K G ws xs)(lo hi:Option Int):Reps K G (cutW ws lo hi) (cutV xs lo hi):=by
 unfold cutW cutV;rw[r.length];exact(r.drop _).take _
def DO(Z:Zt)(X:Cx)(EE:St->XK)(e:Option Expr)(d:Den (Option Int)):Prop:=PO X e (fun σ H Q=>∃G e,Rel X.K Z G σ H e/\(d e).holds (fun o e'=>∀G' H',Rel X.K Z G' σ H' e'->Same G G'->Q o H') (XH X.K Z EE σ G))
noncomputable def dNoPart:Den (Option Int):=fun e=>.ok none e
noncomputable def dPart(d:Den W):Den (Option Int):=fun e=>(d e).bind fun w e1=>match w with
 |.int i=>.ok (some i) e1
 |_=>.no
theorem PO.mono{e:Option Expr}{t t':TO}(h:PO X e t)(i:∀σ H Q,t' σ H Q->t σ H Q):PO X e t':=fun pins s σ H Q I q=>h pins s σ H Q I (i σ H Q q)
theorem q3y:DO Z X EE none dNoPart:=PO.mono x8j fun σ H Q ⟨G,e,r,h⟩=>h G H r (.refl _)
theorem q3z(h:DE Z X EE e da):DO Z X EE (some e) (dPart da):=by
 refine PO.mono (x8k h) ?_;rintro σ H Q ⟨G,e,rel,h⟩;simp only[dPart,R.holds_bind]at h;refine⟨G,e,rel,h.imp (fun x e1 h G1 v1 H1 r1 s1 p1=>?_) fun _ _ h=>h⟩
 cases x with
 |int i=>cases(show v1=V.int i from p1);exact⟨i,rfl,h G1 H1 r1 s1⟩
 |_=>exact h.elim
noncomputable def slW:W->Option Int->Option Int->Option W
 |.lst ws,lo,hi=>some (.lst (cutW ws lo hi))
 |.tup ws,lo,hi=>if ¬(HT.sIx ws.length 0 lo=0/\HT.sIx ws.length ws.length hi=ws.length)then some (.tup (cutW ws lo hi))else none
 |_,_,_=>none
noncomputable def dSl(d:Den W)(dl dh:Den (Option Int)):Den W:=fun e=>(d e).bind fun w e1=>(dl e1).bind fun lo e2=>(dh e2).bind fun hi e3=>ofOpt (slW w lo hi) e3
theorem q3k{lo hi:Option Expr}{dl dh:Den (Option Int)}(he:DE Z X EE e da)(hl:DO Z X EE lo dl)(hh:DO Z X EE hi dh):DE Z X EE (.Subscript e (.Slice lo hi none p2) pos) (dSl da dl dh):=by
 refine PE.mono (x6i (sl_list.or y09) he hl hh) ?_;rintro σ H Q ⟨G,e,rel,h⟩;simp only[dSl,R.holds_bind,ofOpt_holds]at h;refine⟨G,e,rel,h.imp (fun w e1 h G1 v1 H1 r1 s1 p1=>?_) fun _ _ h=>h⟩
 refine⟨G1,e1,r1,h.imp (fun lo e2 h G2 H2 r2 s2=>?_) fun _ _ h=>XH.trans s1 h⟩
 refine⟨G2,e2,r2,h.imp (fun hi e3 h G3 H3 r3 s3=>?_) fun _ _ h=>XH.trans (s1.trans s2) h⟩
 obtain⟨y,hf,h⟩:=h;have p3:=Rep.mono (s2.trans s3) w p1;have s03:=(s1.trans s2).trans s3;cases w with
 |lst ws=>
  cases hf;obtain⟨a,xs,rfl,q,r⟩:=p3;refine .inl ⟨a,xs,rfl,r3.sub.seq q,fun p hp=>?_⟩
  have g:=Grow.laid r3.sub hp (.lst (cutV xs lo hi));exact h _ _ _ (r3.grow g) (s03.trans g.gg) ⟨p,_,rfl,SqL.of q0g,Reps.mono g.gg _ (r.cut lo hi)⟩
 |tup ws=>
  simp only[slW]at hf;split at hf
  ·rename_i hw;cases hf;obtain⟨a,xs,rfl,q,r⟩:=p3;refine .inr ⟨a,xs,rfl,r3.sub.tup q,by rw[r.length];exact hw,fun p hp=>?_⟩
   have g:=Grow.laid r3.sub hp (.tup (cutV xs lo hi));exact h _ _ _ (r3.grow g) (s03.trans g.gg) ⟨p,_,rfl,SqT.of q0g,Reps.mono g.gg _ (r.cut lo hi)⟩
  ·cases hf
 |_=>cases hf
noncomputable def tyW:W->Value
 |.non=>.type "NoneType"
 |.bl _=>.type "bool"
 |.int _=>.type "int"
 |.str _=>.type "str"
 |.tup _=>.type "tuple"
 |.lst _=>.type "list"
 |.exc c=>c
 |.dic _=>.type "dict"
 |.dw _ _ _ _=>.type "dict"
 |.fn _ _ _=>.type "dict"
noncomputable def isiW(K:PySem.W.Frag)(cv:Value):W->Option W
 |.exc (.ref D)=>if excClsIn K D=true then(kitOne K (.ref D) cv).map .bl else none
 |.exc _=>none
 |.dic _=>none
 |.dw _ _ _ _=>none
 |.fn _ _ _=>none
 |w=>(kitOne K (tyW w) cv).map .bl
theorem x80{b:Bool}{Q:VK}(I:Inv X pins σ H s)(sg:Same G H)(p:Rep X.K G w v)(r:RelV v u)(h:isiW X.K cv w=some (.bl b))(q:Q (.bl b) H):
  wpAny (model X.prog X.w) X.A (call (.builtin "isinstance") [u,cv]) (EP X pins σ Q) X.xe s:=by
 have fin:∀tk,EP X pins σ Q (.bool b) {s with toks:=tk}:=fun tk=>⟨.bl b,H,I.tok _,rfl,q⟩
 have kit:∀{t:Value},(kitOne X.K t cv).map W.bl=some (.bl b)->kitOne X.K t cv=some b:=fun z=>by
  obtain⟨y,h1,h2⟩:=w0m.mp z;cases h2;exact h1
 cases w with
 |non=>cases p;cases r;exact kia_one PySem.W.kitx_none I.kIn True.intro (kit h) (fun z=>nomatch z) fin
 |bl y=>cases p;cases r;exact kia_one PySem.W.kitx_bool I.kIn True.intro (kit h) (fun z=>nomatch z) fin
 |int y=>cases p;obtain⟨t,rfl⟩:=r;exact kia_one PySem.W.kitx_int I.kIn True.intro (kit h) (fun z=>nomatch z) fin
 |str y=>cases p;obtain⟨t,rfl⟩:=r;exact kia_one PySem.W.kitx_str I.kIn True.intro (kit h) (fun z=>nomatch z) fin
 |tup ws=>
  obtain⟨a,xs,rfl,hq,_⟩:=p;cases r;obtain⟨its,_,⟨o,h1,h2,_⟩,_⟩:=I.tuple (sg.tup hq);exact kia_one PySem.W.kitx_tuple I.kIn ⟨o,h1,h2⟩ (kit h) (fun z=>nomatch z) fin
 |lst ws=>
  obtain⟨a,xs,rfl,hq,_⟩:=p;cases r;obtain⟨its,_,⟨o,n,h1,h2,_⟩,_⟩:=I.list (sg.seq hq);exact kia_one PySem.W.kitx_list I.kIn ⟨o,h1,h2⟩ (kit h) (fun z=>nomatch z) fin
 |dic c=>simp[isiW]at h
 |dw _ _ _ _=>simp[isiW]at h
 |fn _ _ _=>simp[isiW]at h
 |exc c=>
  obtain⟨e,rfl,he⟩:=p;cases r;unfold isiW at h;split at h
  ·rename_i D heq;cases heq;split at h
   ·rename_i hC;obtain⟨⟨o,vs,h1,h2,h3⟩,_⟩:=(show ObjOk X.prog X.w H s.heap e (excO e (.ref D))from I.hok e _ (sg _ _ he));exact kia_one (x6p (ExcCls.of hC)) I.kIn ⟨o,vs,h1,h2,h3⟩ (kit h) (fun z=>nomatch z) fin
   ·cases h
  all_goals first|(cases h;done)|(rename_i h1 h2 h3 h4 h5;exact absurd rfl (h2 c))|(rename_i h1 h2 h3 h4;exact absurd rfl (h2 c))|(rename_i h1 h2 h3;exact absurd rfl (h2 c))|(rename_i h1 h2;exact absurd rfl (h2 c))
noncomputable def dIsi(K:PySem.W.Frag)(cv:Value)(d:Den W):Den W:=fun e=>(d e).bind fun w e1=>match isiW K cv w with
 |some (.bl b)=>.ok (.bl b) e1
 |_=>.no
theorem x4r{c:V}(hc:ClsV c cv):CallR X (.builtin "isinstance") (fun xs H Q=>∃x G w b,xs=[x,c]/\Same G H/\Rep X.K G w x/\isiW X.K cv w=some (.bl b)/\Q (.bl b) H):=by
 intro pins s σ H xs us Q I r h;obtain⟨x,G,w,b,rfl,sg,p,hi,q⟩:=h;obtain⟨u,u2,rfl,rx,rc⟩:=vals2 r
 have ec:u2=cv:=by
  cases c with
  |ty n=>exact(show u2=Value.type n from rc).trans (show cv=Value.type n from hc).symm
  |ref a=>exact(show u2=Value.ref a from rc).trans (show cv=Value.ref a from hc).symm
  |_=>exact hc.elim
 subst ec;exact x80 I sg p rx hi q
theorem x4s{c0:V}(hc:ClsV c0 cv)(hcl:PE X c (tC c0))(hm:X.mg "isinstance"=none)(he:DE Z X EE e da)(hg:Gl X "isinstance":=by rfl)(hs:starEach [e,c] X.env=(false,eval e X.env)::starEach [c] X.env:=by rfl)(hs2:starEach [c] X.env=(false,eval c X.env)::starEach [] X.env:=by rfl)(hpl:(backTo pos (starEach [c] X.env)).any (·.1)=false:=by rfl):
  DE Z X EE (.Call (.Name "isinstance" p) [e,c] [] pos) (dIsi X.K cv da):=by
 refine PE.mono (q98 (x4r hc) hg hm PyProof.Rows.Boot.«isinstance» (q4g he (q4g hcl q96 hs2) hs) (by decide) (by decide) hs hpl) ?_;rintro σ H Q ⟨G,e,rel,h⟩;simp only[dIsi,R.holds_bind]at h;refine⟨G,e,rel,h.imp (fun w e1 h G1 v1 H1 r1 s1 p1=>?_) fun _ _ h=>h⟩
 split at h
 ·rename_i b hb;exact⟨v1,G1,w,b,rfl,r1.sub,p1,hb,h G1 _ H1 r1 s1 rfl⟩
 ·exact h.elim
theorem x81{n:Str}{a:Addr}(hm:X.mg n=some (.ref a))(hg:Gl X n:=by rfl)(hd:(n==("__debug__":Str))=false:=by decide):PE X (.Name n pos) (tC (.ref a)):=x2d (v:=.ref a) hg hm rfl hd
theorem x82{n:Str}{T:String}(hv:bootBuiltins n=some (.type T))(hm:X.mg n=none)(hg:Gl X n:=by rfl)(hn:n≠"__name__":=by decide)(hd:(n==("__debug__":Str))=false:=by decide):PE X (.Name n pos) (tC (.ty T)):=x79 (v:=.ty T) hg hm hv rfl hn hd
noncomputable def tup1:List W->Option W
 |[.lst ws]=>some (.tup ws)
 |[.tup ws]=>some (.tup ws)
 |_=>none
theorem y10:OpN K (fun xs H Q=>∃p ys,xs=[.ref p]/\((SqL K H p ys/\∀l,H l=none->Q (.ref l) (upd H l (.tup ys)))\/(SqT K H p ys/\Q (.ref p) H))) tup1:=by
 intro G H xs ws w Q s pr hf h;unfold tup1 at hf;split at hf
 ·cases hf;obtain⟨x,r,rfl,px,pr⟩:=pr;cases(show r=[]from pr);obtain⟨a,ys,rfl,ha,ra⟩:=px;refine⟨a,ys,rfl,.inl ⟨s.seq ha,fun l hl=>?_⟩⟩
  have g:=Grow.laid s hl (.tup ys);exact h _ _ _ g ⟨l,ys,rfl,SqT.of q0g,Reps.mono g.gg _ ra⟩
 ·cases hf;obtain⟨x,r,rfl,px,pr⟩:=pr;cases(show r=[]from pr);obtain⟨a,ys,rfl,ha,ra⟩:=px;exact⟨a,ys,rfl,.inr ⟨s.tup ha,h G _ H (.refl s) ⟨a,ys,rfl,ha,ra⟩⟩⟩
 ·cases hf
theorem x0q(hm:X.mg "tuple"=none)(ha:DA Z X EE [e] dA)(hg:Gl X "tuple":=by rfl)(he:starEach [e] X.env=(false,eval e X.env)::starEach [] X.env:=by rfl)(hpl:(backTo pos (starEach [] X.env)).any (·.1)=false:=by rfl):DE Z X EE (.Call (.Name "tuple" p) [e] [] pos) (dFn tup1 dA):=
 x4j q9s y10 PyProof.Rows.Boot.«tuple» hm ha hg (by decide) (by decide) he hpl
theorem q2l(hm:X.mg "len"=none)(ha:DA Z X EE [e] dA)(hg:Gl X "len":=by rfl)(he:starEach [e] X.env=(false,eval e X.env)::starEach [] X.env:=by rfl)(hpl:(backTo pos (starEach [] X.env)).any (·.1)=false:=by rfl):DE Z X EE (.Call (.Name "len" p) [e] [] pos) (dFn len1 dA):=
 x0i x6g y1q PySem.boot_len hm ha hg (by decide) (by decide) he hpl
noncomputable def lst1:List W->Option (List W)
 |[.lst ws]=>some ws
 |[.tup ws]=>some ws
 |_=>none
noncomputable def dList(dA:Den (List W)):Den (List W):=fun e=>(dA e).bind fun ws e1=>ofOpt (lst1 ws) e1
theorem x2m(hm:X.mg "list"=none)(ha:DA Z X EE [e] dA)(hg:Gl X "list":=by rfl)(he:starEach [e] X.env=(false,eval e X.env)::starEach [] X.env:=by rfl)(hpl:(backTo pos (starEach [] X.env)).any (·.1)=false:=by rfl):DF Z X EE (.Call (.Name "list" p) [e] [] pos) (dList dA):=by
 refine PE.mono (q82 x0b hg hm PyProof.Rows.Boot.«list» ha (by decide) (by decide) he hpl) ?_;rintro σ H Q ⟨G,e,rel,h⟩;simp only[dList,R.holds_bind,ofOpt_holds]at h;refine⟨G,e,rel,h.imp (fun ws e1 h G1 vs H1 r1 s1 p1=>?_) fun _ _ h=>h⟩
 obtain⟨out,hf,h⟩:=h;unfold lst1 at hf;split at hf
 ·cases hf;obtain⟨y,r,rfl,py,pr⟩:=p1;cases(show r=[]from pr);obtain⟨a,ys,rfl,hq,rq⟩:=py;exact⟨a,ys,rfl,.inl (r1.sub.seq hq),q6y r1 s1 rq h⟩
 ·cases hf;obtain⟨y,r,rfl,py,pr⟩:=p1;cases(show r=[]from pr);obtain⟨a,ys,rfl,hq,rq⟩:=py;exact⟨a,ys,rfl,.inr (r1.sub.tup hq),q6y r1 s1 rq h⟩
 ·cases hf
end
section
variable{w:World}{mg:Str->Option Value}{base:Heap}
theorem x4t(hF:∀ws,F ws=.no){vs:List V}{Q:VK}{E:XK}(h:spF K F vs H Q E):False:=by
 obtain⟨G,ws,hn,_⟩:=q7l h;exact hn (hF ws)
theorem q5n:∀(ns:List Int),Reps K G (ns.map W.int) (ns.map V.int)
 |[]=>rfl
 |n::ns=>⟨_,_,rfl,rfl,q5n ns⟩
theorem y11{w:World}{e:Value}{s':Shared}(z:CX1 P w [] H s (fun _ _ _=>False) e s'):False:=by
 obtain⟨_,_,_,_,_,_,_,_,_,_,h⟩:=z;exact h
theorem con0{st:Stmt}{ps:List Str}(A:At K mg x st ps)(hF:∀ws,F ws=.no:=by intro _;rfl):Cal P w K mg base 0 x ps (spF K F):=by
 obtain⟨f,fd,F0,m,b⟩:=A.ex;exact⟨f,fd,⟨fun vs H Q E h=>(x4t hF h).elim,fun A outer s H args us vs Q E _ _ _ _ h=>(x4t hF h).elim⟩,m,F0.kp,b⟩
end
section
variable{e:Expr}{d:Den Str}
def DFm(Z:Zt)(X:Cx)(EE:St->XK)(n:Nat)(es:List Expr)(d:Den Str):Prop:=PF X es (fun acc σ H Q=>acc.length+n*1000001<=16777216/\∃G e,Rel X.K Z G σ H e/\(d e).holds (fun y e'=>∀G' H',Rel X.K Z G' σ H' e'->Same G G'->Q (acc++y) H') (XH X.K Z EE σ G))
end
section
variable{β:Type}{c:Prop} [Decidable c]{a:α}{e':List S}{k:α->List S->R β}{ks:α->List S->SR}{x y:R α}{s t:SR}{v:Value}{st:S}
theorem x83:(R.ok a e).bind k=k a e:=rfl
theorem x84:(R.ex v e:R α).bind k=.ex v e:=rfl
theorem x85:(R.no:R α).bind k=.no:=rfl
theorem x6x:(if c then x else y).bind k=if c then x.bind k else y.bind k:=by split<;>rfl
theorem y12:(R.ok a e).stm ks=ks a e:=rfl
theorem y13:(R.ex v e:R α).stm ks=.ex v e:=rfl
theorem y14:(R.no:R α).stm ks=.no:=rfl
theorem x86:(if c then x else y).stm ks=if c then x.stm ks else y.stm ks:=by split<;>rfl
noncomputable def SR.seq:SR->(List S->SR)->SR
 |.nx e,b=>b e
 |r,_=>r
theorem y15{p:List S->SR}:dSeq p q e=(p e).seq q:=by
 unfold dSeq SR.seq;cases p e<;>rfl
theorem y16:(SR.nx e).seq q=q e:=rfl
theorem y17:(SR.rt st e).seq q=.rt st e:=rfl
theorem y18:(SR.ex v e).seq q=.ex v e:=rfl
theorem y19:(SR.bk e).seq q=.bk e:=rfl
theorem y2a:(SR.ct e).seq q=.ct e:=rfl
theorem y2b:(SR.no).seq q=.no:=rfl
theorem x87:(if c then s else t).seq q=if c then s.seq q else t.seq q:=by split<;>rfl
theorem y4h:(SR.nx e).fn=.ok (.fr .non):=rfl
theorem y4i:(SR.rt st e).fn=.ok st:=rfl
theorem y4j:(SR.ex v e).fn=.ex v:=rfl
theorem y4k:(SR.no).fn=.no:=rfl
theorem y2c:(if c then s else t).fn=if c then s.fn else t.fn:=by split<;>rfl
theorem x3c:ofOpt (some a) e=.ok a e:=rfl
theorem x3d:ofOpt (none:Option α) e=.no:=rfl
theorem x4u{o p:Option α}:ofOpt (if c then o else p) e=if c then ofOpt o e else ofOpt p e:=by split<;>rfl
noncomputable def varS(i:Nat)(e:List S):Option S->R W
 |some (.fr w)=>.ok w e
 |some (.own none ws)=>.ok (.lst ws) (e.set i (.fr (.lst ws)))
 |some (.x k)=>match k.plain with
  |some w=>.ok w e
  |none=>.no
 |_=>.no
theorem y2d:dVar i e=varS i e e[i]?:=by
 unfold dVar varS;cases e[i]? with
 |none=>rfl
 |some s=>cases s with
  |own b ws=>cases b<;>rfl
  |_=>rfl
theorem y2e:varS i e (some (.fr w))=.ok w e:=rfl
theorem x88:varS i e (some (.own none ws))=.ok (.lst ws) (e.set i (.fr (.lst ws))):=rfl
theorem dC_s:dC w e=.ok w e:=rfl
theorem y4l{f:W->W->Option W}:dOp f da db e=(da e).bind fun x e1=>(db e1).bind fun y e2=>ofOpt (f x y) e2:=rfl
theorem y4m{f:W->Option W}:dUn f da e=(da e).bind fun x e1=>ofOpt (f x) e1:=rfl
noncomputable def testW(e:List S):W->R Bool
 |.bl k=>.ok k e
 |_=>.no
theorem x89:dTest da e=(da e).bind fun x e1=>testW e1 x:=rfl
theorem x9a:testW e (.bl b)=.ok b e:=rfl
theorem y2f:dTru da e=(da e).bind fun x e1=>ofOpt (truW x) e1:=rfl
theorem y2g{p q:Den Bool}:dAnd p q e=(p e).bind fun x e1=>if x=true then q e1 else .ok false e1:=rfl
theorem y4n{p q:Den Bool}:dOr p q e=(p e).bind fun x e1=>if x=true then .ok true e1 else q e1:=rfl
theorem y2h{p:Den Bool}:dNot p e=(p e).bind fun x e1=>.ok (!x) e1:=rfl
noncomputable def andK(q:Den W)(e:List S):W->R W
 |.bl true=>q e
 |.bl false=>.ok (.bl false) e
 |_=>.no
theorem x9b{p q:Den W}:dAndV p q e=(p e).bind fun x e1=>andK q e1 x:=rfl
theorem y2i{q:Den W}:andK q e (.bl b)=if b=true then q e else .ok (.bl false) e:=by cases b<;>rfl
noncomputable def orK(q:Den W)(e:List S):W->R W
 |.bl true=>.ok (.bl true) e
 |.bl false=>q e
 |_=>.no
theorem y2j{p q:Den W}:dOrV p q e=(p e).bind fun x e1=>orK q e1 x:=rfl
theorem y4o{q:Den W}:orK q e (.bl b)=if b=true then .ok (.bl true) e else q e:=by cases b<;>rfl
noncomputable def notK(e:List S):W->R W
 |.bl k=>.ok (.bl (!k)) e
 |_=>.no
theorem x9c{p:Den W}:dNotV p e=(p e).bind fun x e1=>notK e1 x:=rfl
theorem y2k:notK e (.bl b)=.ok (.bl (!b)) e:=rfl
theorem y4p{p:Den Bool}{q q':Den W}:dIf p q q' e=(p e).bind fun x e1=>if x=true then q e1 else q' e1:=rfl
theorem y2l:dNil e=.ok [] e:=rfl
theorem x9d{p:Den W}{q:Den (List W)}:dCons p q e=(p e).bind fun x e1=>(q e1).bind fun xs e2=>.ok (x::xs) e2:=rfl
theorem y2m:dLst p e=(p e).bind fun xs e1=>if xs.length<=16777216 then .ok xs e1 else .no:=rfl
theorem y4q:dFz p e=(p e).bind fun xs e1=>.ok (.lst xs) e1:=rfl
theorem y4r{f:List W->Option W}:dFn f p e=(p e).bind fun xs e1=>ofOpt (f xs) e1:=rfl
theorem x9e:dList p e=(p e).bind fun xs e1=>ofOpt (lst1 xs) e1:=rfl
theorem y4s:dNx e=.nx e:=rfl
theorem x9f:dDrop d e=(d e).stm fun _ e'=>.nx e':=rfl
theorem y2n:dRet d e=(d e).stm fun w e'=>.rt (.fr w) e':=rfl
theorem x9g{d:Den (List W)}:dRetF d e=(d e).stm fun w e'=>.rt (.own none w) e':=rfl
noncomputable def retS(e:List S):Option S->SR
 |some (.own none ws)=>.rt (.own none ws) e
 |some (.fr w)=>.rt (.fr w) e
 |_=>.no
theorem x9h:dRetO i e=retS e e[i]?:=by
 unfold dRetO retS;cases e[i]? with
 |none=>rfl
 |some s=>cases s with
  |own b ws=>cases b<;>rfl
  |_=>rfl
theorem x9i:retS e (some (.own none ws))=.rt (.own none ws) e:=rfl
theorem y2o:retS e (some (.fr w))=.rt (.fr w) e:=rfl
theorem y2p{p:Den Bool}{q':List S->SR}:dIfS p q q' e=(p e).stm fun x e1=>if x=true then q e1 else q' e1:=rfl
theorem y2q:dSet i d e=(d e).stm fun w e'=>.nx (e'.set i (.fr w)):=rfl
theorem x9j{d:Den (List W)}:dSetO i d e=(d e).stm fun w e'=>.nx (e'.set i (.own none w)):=rfl
noncomputable def callR(e:List S):FR->R W
 |.ok (.fr w)=>.ok w e
 |.ok (.own none ws)=>.ok (.lst ws) e
 |.ok (.dic kvs)=>.ok (.dic kvs) e
 |.ok (.thr us ws vs)=>.ok (.tup (us++.lst ws::vs)) e
 |.ok (.x (.new w))=>.ok w e
 |.ok (.x (.tn us wss))=>.ok (.tup (us++[.lst (wss.map .lst)])) e
 |.ex c=>.ex c e
 |_=>.no
theorem x6y{vs:List W}:callR e (.ok (.thr us ws vs))=.ok (.tup (us++.lst ws::vs)) e:=rfl
theorem x9k{d:Den (List W)}:dCall F d e=(d e).bind fun ws e1=>callR e1 (F ws):=by
 unfold dCall;congr 1
theorem x9l:callR e (.ok (.fr w))=.ok w e:=rfl
theorem x6z:callR e (.ok (.own none ws))=.ok (.lst ws) e:=rfl
theorem x9m:callR e (.ex v)=.ex v e:=rfl
theorem x9n:callR e .no=.no:=rfl
theorem x60{f g:FR}:callR e (if c then f else g)=if c then callR e f else callR e g:=by split<;>rfl
noncomputable def callF(e:List S):FR->R (List W)
 |.ok (.own none ws)=>.ok ws e
 |.ex c=>.ex c e
 |_=>.no
theorem x4v:callF e (.ok (.own none ws))=.ok ws e:=rfl
theorem x61:callF e (.ex v)=.ex v e:=rfl
theorem x4w{f g:FR}:callF e (if c then f else g)=if c then callF e f else callF e g:=by split<;>rfl
noncomputable def forW(i:Nat)(b:List S->SR)(e:List S):Option (List W)->SR
 |some ws=>forD i b ws e
 |none=>.no
theorem y2r{b:List S->SR}:dFor i d b e=(d e).stm fun w e1=>forW i b e1 (seqW w):=by
 unfold dFor;congr 1
theorem x9o{g:List W->Option (List W)}{d:Den (List W)}{b:List S->SR}:dForR i g d b e=(d e).stm fun w e1=>forW i b e1 (g w):=by
 unfold dForR;congr 1
theorem x4x{b:List S->SR}:forW i b e (some ws)=forD i b ws e:=rfl
noncomputable def SR.turn:SR->(List S->SR)->SR
 |.nx e,k=>k e
 |.ct e,k=>k e
 |.bk e,_=>.nx e
 |.rt s e,_=>.rt s e
 |.ex c e,_=>.ex c e
 |.no,_=>.no
theorem q2q{b:List S->SR}:forD i b (w::ws) e=(b (e.set i (.fr w))).turn (forD i b ws):=by
 show(match b (e.set i (.fr w))with|.nx e'=>forD i b ws e'|.ct e'=>forD i b ws e'|.bk e'=>.nx e'|.rt s e'=>.rt s e'|.ex c e'=>.ex c e'|.no=>.no)=_;cases b (e.set i (.fr w))<;>rfl
theorem q28:(SR.nx e).turn q=q e:=rfl
theorem x9p:(SR.ct e).turn q=q e:=rfl
theorem x9q:(SR.bk e).turn q=.nx e:=rfl
theorem x2n:(SR.rt st e).turn q=.rt st e:=rfl
theorem x9r:(SR.ex v e).turn q=.ex v e:=rfl
theorem x9s:(SR.no).turn q=.no:=rfl
theorem x62:(if c then s else t).turn q=if c then s.turn q else t.turn q:=by split<;>rfl
noncomputable def look1(k:W->R W):Option W->R W
 |none=>.no
 |some w=>k w
theorem y2s:dIxV i d e=look1 (fun _=>(d e).bind fun k e1=>look1 (fun w=>ofOpt (ixW w k) e1) (e1[i]?.bind S.look)) (e[i]?.bind S.look):=by
 unfold dIxV look1;cases e[i]?.bind S.look with
 |none=>rfl
 |some w=>
  dsimp only;try congr 1
theorem x4y{k:W->R W}:look1 k (some w)=k w:=rfl
theorem y4t:S.look (.fr w)=some w:=rfl
theorem y2t{b:Option Nat}:S.look (.own b ws)=some (.lst ws):=rfl
noncomputable def appK(i:Nat)(e:List S):List W->Option S->SR
 |[w],some (.own b xs)=>if xs.length<16777216 then .nx (e.set i (.own b (xs++[w])))else .no
 |_,_=>.no
noncomputable def ownQ(k:SR):Option S->SR
 |some (.own _ _)=>k
 |_=>.no
theorem y2u{d:Den (List W)}:dApp i d e=ownQ ((d e).stm fun ws e1=>appK i e1 ws e1[i]?) e[i]?:=by
 unfold dApp ownQ;cases e[i]? with
 |none=>rfl
 |some s=>cases s with
  |own b xs=>
   dsimp only;try congr 1
  |_=>rfl
theorem y4u{k:SR}{b:Option Nat}:ownQ k (some (.own b ws))=k:=rfl
theorem y4v{b:Option Nat}{xs:List W}:appK i e [w] (some (.own b xs))=if xs.length<16777216 then .nx (e.set i (.own b (xs++[w])))else .no:=rfl
theorem x63{C:Addr}{d:Den (List W)}:dRaise C d e=(d e).stm fun ws e1=>if ws.length<=16777216 then .ex (.ref C) e1 else .no:=rfl
theorem y4w{dl dh:Den (Option Int)}:dSl d dl dh e=(d e).bind fun w e1=>(dl e1).bind fun lo e2=>(dh e2).bind fun hi e3=>ofOpt (slW w lo hi) e3:=rfl
theorem x4z:dNoPart e=.ok none e:=rfl
noncomputable def partK(e:List S):W->R (Option Int)
 |.int i=>.ok (some i) e
 |_=>.no
theorem x9t:dPart d e=(d e).bind fun w e1=>partK e1 w:=rfl
theorem x64{i:Int}:partK e (.int i)=.ok (some i) e:=rfl
noncomputable def isiK(e:List S):Option W->R W
 |some (.bl b)=>.ok (.bl b) e
 |_=>.no
theorem y2v:dIsi K cv d e=(d e).bind fun w e1=>isiK e1 (isiW K cv w):=by
 unfold dIsi;congr 1
theorem y2w:isiK e (some (.bl b))=.ok (.bl b) e:=rfl
theorem x65{k:Bool}(h:kitOne K (.type "bool") cv=some k):isiW K cv (.bl b)=some (.bl k):=by show(kitOne K (.type "bool") cv).map W.bl=_;rw[h];rfl
theorem x9u{D:Addr}{k:Bool}(hc:excClsIn K D=true)(h:kitOne K (.ref D) cv=some k):isiW K cv (.exc (.ref D))=some (.bl k):=by show(if excClsIn K D=true then _ else _)=_;rw[if_pos hc,h];rfl
noncomputable def tryH(n:Nat):SR->SR
 |.nx _=>.nx (List.replicate n .no)
 |.bk _=>.bk (List.replicate n .no)
 |.ct _=>.ct (List.replicate n .no)
 |.rt s e=>.rt s e
 |_=>.no
noncomputable def tryK(K:PySem.W.Frag)(c:Addr)(i n:Nat)(h:List S->SR):SR->SR
 |.ex cls e'=>if exmOne K cls (.ref c)=some true then tryH n (h (e'.set i (.fr (.exc cls))))else .no
 |r=>r
theorem y2x{c : Addr}{b h : List S -> SR} : dTry K c i n b h e = tryK K c i n h (b e) := by
  unfold dTry tryK;cases b e with
  | ex cls e' => dsimp only; split
                 . cases h (e'.set i (.fr (.exc cls))) <;> rfl
                 . rfl
  | _ => rfl
theorem y2y{c:Addr}:tryK K c i n h (.nx e)=.nx e:=rfl
theorem y2z{c:Addr}:tryK K c i n h (.rt st e)=.rt st e:=rfl
theorem y20{c:Addr}(hx:exmOne K v (.ref c)=some true):tryK K c i n h (.ex v e)=tryH n (h (e.set i (.fr (.exc v)))):=by show(if _ then _ else _)=_;rw[if_pos hx]
theorem x9v:tryH n (.rt st e)=.rt st e:=rfl
theorem x9w:tryH n (.nx e)=.nx (List.replicate n .no):=rfl
noncomputable def compR(e:List S):Option (List W)->R (List W)
 |some out=>.ok out e
 |none=>.no
theorem x9x:compK js cc d ws e=if ws.length<=16777216 then compR (frzs js e) (compD cc d (pjS js (frzs js e)) ws)else .no:=by
 unfold compK compR;split
 ·cases compD cc d (pjS js (frzs js e)) ws<;>rfl
 ·rfl
noncomputable def compW(js:List Nat)(cc:Den Bool)(d:Den W)(e:List S):Option (List W)->R (List W)
 |some ws=>compK js cc d ws e
 |none=>.no
theorem x9y{di:Den W}:dComp js di cc d e=(di e).bind fun w e1=>compW js cc d e1 (seqW w):=by
 unfold dComp;congr 1
theorem x66{g:List W->Option (List W)}{di:Den (List W)}:dCompR g js di cc d e=(di e).bind fun w e1=>compW js cc d e1 (g w):=by
 unfold dCompR;congr 1
theorem x3e:compW js cc d e (some ws)=compK js cc d ws e:=rfl
theorem x3f:compR e (some out)=.ok out e:=rfl
theorem x0r:dYes e=.ok true e:=rfl
theorem x67:frzs [] e=e:=rfl
theorem x40{j:Nat}:frzs (j::js) e=frzs js (frz1 e j):=rfl
theorem x9z:pjS [] e=[]:=rfl
theorem x68{j:Nat}:pjS (j::js) e=pj1 e j::pjS js e:=rfl
theorem x0s{g:W->W}:∀(ws:List W),(∀w∈ws,∃e',d (.fr w::pe)=.ok (g w) e')->compD dYes d pe ws=some (ws.map g)
 |[],_=>rfl
 |w::ws,h=>by
  obtain⟨e',he⟩:=h w (by simp);show(match d (.fr w::pe)with|.ok y _=>(compD dYes d pe ws).map (y::·)|_=>none)=_;rw[he,x0s ws fun u hu=>h u (by simp[hu])]
  rfl
theorem q5o:compD cc d pe (w::ws)=(match cc (.fr w::pe)with
  |.ok true e1=>(match d e1 with|.ok y _=>(compD cc d pe ws).map (y::·)|_=>none)
  |.ok false _=>compD cc d pe ws
  |_=>none):=rfl
end
section
variable{i j:Int}{c:Bool}
theorem y21:addW (.int i) (.int j)=some (.int (i+j)):=rfl
theorem y22:addW (.str x) (.str y)=if x.length+y.length<=16777216 then some (.str (x++y))else none:=rfl
theorem y23:addW (.lst ws) (.lst us)=if ws.length+us.length<=16777216 then some (.lst (ws++us))else none:=rfl
theorem y24:subW (.int i) (.int j)=some (.int (i-j)):=rfl
theorem y25:mulW (.int i) (.int j)=if(-18446744073709551616<i/\i<18446744073709551616)\/(-18446744073709551616<j/\j<18446744073709551616)then some (.int (i*j))else none:=rfl
theorem x90:fdivW (.int i) (.int j)=if 0<j/\j<1073741824 then some (.int (i / j))else none:=rfl
theorem y26:modW (.int i) (.int j)=if 0<j then some (.int (i%j))else none:=rfl
theorem y4x:ltW (.int i) (.int j)=some (.bl (decide (i<j))):=rfl
theorem y4y:gtW (.int i) (.int j)=some (.bl (decide (j<i))):=rfl
theorem y4z:negW (.int i)=some (.int (-i)):=rfl
theorem y40:eq2 (.int i) (.int j)=some (.bl (decide (i=j))):=by
 show some (W.bl (i==j))=_;congr 2
theorem y41:eq2 (.str x) (.str y)=some (.bl (decide (x=y))):=by
 show some (W.bl (x==y))=_;congr 2
theorem y42:eq2 (.bl b) (.bl c)=some (.bl (decide (b=c))):=by
 show some (W.bl (b==c))=_;congr 2
theorem y43:ne2 (.int i) (.int j)=some (.bl (!decide (i=j))):=by
 show some (W.bl (!(i==j)))=_;congr 2
theorem y44:ne2 (.str x) (.str y)=some (.bl (!decide (x=y))):=by
 show some (W.bl (!(x==y)))=_;congr 2
theorem y45:ne2 (.bl b) (.bl c)=some (.bl (!decide (b=c))):=by
 show some (W.bl (!(b==c)))=_;congr 2
theorem y46:isW (.bl b) (.bl c)=some (.bl (decide (b=c))):=by
 show some (W.bl (b==c))=_;congr 2
theorem y47:isW .non .non=some (.bl true):=rfl
theorem y48:isW (.bl b) .non=some (.bl false):=rfl
theorem y49:isW (.int i) .non=some (.bl false):=rfl
theorem y5a:isW (.str x) .non=some (.bl false):=rfl
theorem y5b:isW (.tup ws) .non=some (.bl false):=rfl
theorem y5c:isW (.lst ws) .non=some (.bl false):=rfl
theorem y27:nisW (.bl b) (.bl c)=some (.bl (!decide (b=c))):=by
 show some (W.bl (!(b==c)))=_;congr 2
theorem y28:nisW .non .non=some (.bl false):=rfl
theorem y29:nisW (.bl b) .non=some (.bl true):=rfl
theorem y3a:nisW (.int i) .non=some (.bl true):=rfl
theorem y3b:nisW (.str x) .non=some (.bl true):=rfl
theorem y3c:nisW (.tup ws) .non=some (.bl true):=rfl
theorem y3d:nisW (.lst ws) .non=some (.bl true):=rfl
theorem ix_t:ixW (.tup ws) (.int i)=atI ws i:=rfl
theorem ix_l:ixW (.lst ws) (.int i)=atI ws i:=rfl
theorem y5d:len1 [.tup ws]=some (.int ws.length):=rfl
theorem y5e:len1 [.lst ws]=some (.int ws.length):=rfl
theorem y5f:tup1 [.lst ws]=some (.tup ws):=rfl
theorem y5g:tup1 [.tup ws]=some (.tup ws):=rfl
theorem y5h:lst1 [.lst ws]=some ws:=rfl
theorem y5i:lst1 [.tup ws]=some ws:=rfl
theorem y5j:truW (.bl b)=some b:=rfl
theorem y5k:truW (.int i)=some (i != 0):=rfl
theorem y5l:truW .non=some false:=rfl
theorem y5m:truW (.tup ws)=some (!ws.isEmpty):=rfl
theorem y5n:truW (.lst ws)=some (!ws.isEmpty):=rfl
theorem y5o:seqW (.tup ws)=some ws:=rfl
theorem y5p:seqW (.lst ws)=some ws:=rfl
theorem sc_i:scalW (.int i)=true:=rfl
theorem sc_b:scalW (.bl b)=true:=rfl
theorem sc_s:scalW (.str x)=true:=rfl
theorem sc_n:scalW .non=true:=rfl
theorem sl_l{lo hi:Option Int}:slW (.lst ws) lo hi=some (.lst (cutW ws lo hi)):=rfl
theorem at0{xs:List α}:atI xs 0=xs[0]?:=by
 cases xs with
 |nil=>rfl
 |cons a l=>exact q4h (j:=0) rfl
theorem at1{xs:List α}:atI xs 1=xs[1]?:=by
 cases xs with
 |nil=>rfl
 |cons a l=>
  cases l with
  |nil=>rfl
  |cons b l=>exact q4h (j:=1) rfl
theorem at2{xs:List α}:atI xs 2=xs[2]?:=by
 cases xs with
 |nil=>rfl
 |cons a l=>
  cases l with
  |nil=>rfl
  |cons b l=>
   cases l with
   |nil=>rfl
   |cons c l=>exact q4h (j:=2) rfl
theorem x0t{xs:List α}{k:Int}(h0:0<=k):atI xs k=xs[k.toNat]?:=by
 unfold atI ixN;rw[if_pos h0]
 by_cases h:k<xs.length
 ·rw[if_pos h];rfl
 ·rw[if_neg h];exact(w1q (by omega)).symm
theorem y5q{xs:List α}{a:α}:atI (xs++[a]) (-1)=some a:=x6j xs a
theorem x0u{a b:String}(h:Str.ofString a=Str.ofString b):a=b:=by
 rw[Str.ofString_eq_toList,Str.ofString_eq_toList]at h;have h1:(a.toList.map Char.toNat).toArray=(b.toList.map Char.toNat).toArray:=congrArg Str.cps h;have h2:a.toList.map Char.toNat=b.toList.map Char.toNat:=by simpa using congrArg Array.toList h1
 have h3:a.toList=b.toList:=by
  have inj:∀c d:Char,c.toNat=d.toNat->c=d:=fun c d e=>by
   apply Char.ext;exact UInt32.toNat_inj.mp e
  exact(List.map_inj_right inj).mp h2
 exact String.toList_inj.mp h3
theorem y3e{a b:String}:(Str.ofString a=Str.ofString b)=(a=b):=propext ⟨x0u,fun h=>by rw[h]⟩
end
noncomputable def tuprevW:W->Option W
 |.lst ws=>some (.tup ws.reverse)
 |_=>none
noncomputable def boolsW:List W->Option (List Bool)
 |[]=>some []
 |.bl b::ws=>(boolsW ws).map (b::·)
 |_=>none
noncomputable def all1:List W->Option W
 |[.lst ws]=>(boolsW ws).map fun bs=>.bl (bs.all id)
 |_=>none
noncomputable def int1:List W->Option W
 |[.int i]=>some (.int i)
 |[.bl b]=>some (.int (if b then 1 else 0))
 |_=>none
noncomputable def eqS(y x:W):Bool:=(eqW y x).getD false
noncomputable def ninW:W->W->Option W
 |x,.tup ws=>if scalW x=true/\ws.all scalW=true then some (.bl (!ws.any fun y=>eqS y x))else none
 |x,.lst ws=>if scalW x=true/\ws.all scalW=true then some (.bl (!ws.any fun y=>eqS y x))else none
 |_,_=>none
theorem q5p(h:scalW w=true)(p:Rep K G w v):flatV v=true:=by
 cases w with
 |non=>cases p;rfl
 |bl b=>cases p;rfl
 |int b=>cases p;rfl
 |str b=>cases p;rfl
 |_=>cases h
theorem x91{u:W}{x:V}(h:scalW w=true)(h':scalW u=true)(p:Rep K G w v)(q:Rep K G u x):eqV v x=eqS w u:=by
 cases w<;>cases u<;>first|(cases p;cases q;rfl)|exact absurd (show false=true from h') w0y|exact absurd (show false=true from h) w0y
theorem q63{u:W}{x:V}(hu:scalW u=true)(q:Rep K G u x):∀{ws:List W}{xs:List V},ws.all scalW=true->Reps K G ws xs->xs.all flatV=true/\inV x xs=ws.any fun y=>eqS y u
 |[],xs,_,r=>by cases r;exact⟨rfl,rfl⟩
 |w::ws,xs,h,r=>by
  obtain⟨y,r',rfl,p,r⟩:=r;rw[w1n,w0r]at h;obtain⟨i1,i2⟩:=q63 hu q h.2 r;refine⟨by rw[w1n,q5p h.1 p,i1];rfl,?_⟩;show(eqV y x||inV x r')=(eqS w u||ws.any _);rw[x91 h.1 hu p q,i2]
theorem y3f:Op2 K (rIn K true) ninW:=by
 intro G H x y wx wy w Q s px py hf h;cases wy with
 |tup ws=>
  simp only[ninW]at hf;split at hf
  ·rename_i hc;cases hf;obtain⟨a,xs,rfl,ha,ra⟩:=py;obtain⟨i1,i2⟩:=q63 hc.1 px hc.2 ra;refine⟨a,xs,rfl,.inr (s.tup ha),q5p hc.1 px,i1,?_⟩;rw[i2];exact h G _ H (.refl s) rfl
  ·cases hf
 |lst ws=>
  simp only[ninW]at hf;split at hf
  ·rename_i hc;cases hf;obtain⟨a,xs,rfl,ha,ra⟩:=py;obtain⟨i1,i2⟩:=q63 hc.1 px hc.2 ra;refine⟨a,xs,rfl,.inl (s.seq ha),q5p hc.1 px,i1,?_⟩;rw[i2];exact h G _ H (.refl s) rfl
  ·cases hf
 |_=>simp[ninW]at hf
theorem x41:Op1 K (fun x H1 Q=>∃p ys,x=.ref p/\SqL K H1 p ys/\∀l,H1 l=none->Q (.ref l) (upd H1 l (.tup ys.reverse))) tuprevW:=by
 intro G H x wx w Q s px hf h;unfold tuprevW at hf;split at hf
 ·cases hf;obtain⟨a,xs,rfl,ha,ra⟩:=px;refine⟨a,xs,rfl,s.seq ha,fun l hl=>?_⟩
  have g:=Grow.laid s hl (.tup xs.reverse);exact h _ _ _ g ⟨l,_,rfl,SqT.of q0g,Reps.mono g.gg _ ra.reverse⟩
 ·cases hf
theorem q7s:∀{ws:List W}{bs:List Bool},boolsW ws=some bs->ws=bs.map .bl
 |[],bs,h=>by cases h;rfl
 |.bl b::ws,bs,h=>by
  obtain⟨cs,h1,rfl⟩:=w0m.mp (show(boolsW ws).map (b::·)=some bs from h);rw[q7s h1];rfl
 |.non::ws,bs,h=>by cases h
 |.int _::ws,bs,h=>by cases h
 |.str _::ws,bs,h=>by cases h
 |.tup _::ws,bs,h=>by cases h
 |.lst _::ws,bs,h=>by cases h
 |.exc _::ws,bs,h=>by cases h
theorem q9c:∀(bs:List Bool),boolsW (bs.map .bl)=some bs
 |[]=>rfl
 |b::bs=>by
  show(boolsW (bs.map W.bl)).map (b::·)=_;rw[q9c bs];rfl
theorem q7t:∀{bs:List Bool}{xs:List V},Reps K G (bs.map W.bl) xs->xs=bs.map V.bl
 |[],xs,h=>h
 |b::bs,xs,h=>by
  obtain⟨x,r,rfl,h1,h2⟩:=h;rw[q7t h2,show x=V.bl b from h1];rfl
theorem y3g:OpN K (fun xs H Q=>∃p ys,xs=[.ref p]/\SqL K H p ys/\(∀y∈ys,∃b,y=.bl b)/\Q (.bl (ys.all fun y=>decide (y=.bl true))) H) all1:=by
 intro G H xs ws w Q s pr hf h;unfold all1 at hf;split at hf
 ·obtain⟨bs,hb,rfl⟩:=w0m.mp hf;have:=q7s hb;subst this;obtain⟨x,r,rfl,px,pr⟩:=pr;cases(show r=[]from pr);obtain⟨a,ys,rfl,ha,ra⟩:=px;have:=q7t ra;subst this;refine⟨a,_,rfl,s.seq ha,fun y hy=>?_,h G _ H (.refl s) ?_⟩
  ·obtain⟨b,_,rfl⟩:=w1f.mp hy;exact⟨b,rfl⟩
  ·show V.bl _=V.bl _;congr 1;rw[w4c];congr 1;funext b
   cases b<;>rfl
 ·cases hf
theorem y3h:OpN K (fun xs H Q=>(∃i,xs=[.int i]/\Q (.int i) H)\/∃k,xs=[.bl k]/\Q (.int (if k then 1 else 0)) H) int1:=by
 intro G H xs ws w Q s pr hf h;unfold int1 at hf;split at hf
 ·cases hf;obtain⟨x,r,rfl,px,pr⟩:=pr;cases(show r=[]from pr);cases px;exact .inl ⟨_,rfl,h G _ H (.refl s) rfl⟩
 ·cases hf;obtain⟨x,r,rfl,px,pr⟩:=pr;cases(show r=[]from pr);cases px;exact .inr ⟨_,rfl,h G _ H (.refl s) rfl⟩
 ·cases hf
section
variable{a b c e:Expr}{p pos1 pos2:Pos}
theorem x0v(hu:X.A.units+150<cLine)(ha:DE Z X EE a da)(hb:DE Z X EE b db)(hm:behindInMarks .NotIn b=false:=by with_unfolding_all rfl):DT Z X EE (.Compare a [.NotIn] [b] pos) (dTest (dOp ninW da db)):=q4i x0a y3f ha hb hm
theorem x42(hc:X.calm=true)(hm1:X.mg "tuple"=none)(hm2:X.mg "reversed"=none)(he:DE Z X EE e da)(hg1:Gl X "tuple":=by rfl)(hg2:Gl X "reversed":=by rfl)
  (hs1:starEach [.Call (.Name "reversed" p2) [e] [] pos2] X.env=(false,eval (.Call (.Name "reversed" p2) [e] [] pos2) X.env)::starEach [] X.env:=by rfl)(hs2:starEach [e] X.env=(false,eval e X.env)::starEach [] X.env:=by rfl):
  DE Z X EE (.Call (.Name "tuple" p1) [.Call (.Name "reversed" p2) [e] [] pos2] [] pos1) (dUn tuprevW da):=PE.mono (x4d hc hm1 hm2 he hg1 hg2 hs1 hs2) (x2g x41)
theorem x43(hc:X.calm=true)(hm:X.mg "all"=none)(ha:DA Z X EE [e] dA)(hg:Gl X "all":=by rfl)(he:starEach [e] X.env=(false,eval e X.env)::starEach [] X.env:=by rfl)(hpl:(backTo pos (starEach [] X.env)).any (·.1)=false:=by rfl):DE Z X EE (.Call (.Name "all" p) [e] [] pos) (dFn all1 dA):=
 x0i (x6n hc) y3g PyProof.Rows.Boot.«all» hm ha hg (by decide) (by decide) he hpl
theorem x92(hm:X.mg "int"=none)(ha:DA Z X EE [e] dA)(hg:Gl X "int":=by rfl)(he:starEach [e] X.env=(false,eval e X.env)::starEach [] X.env:=by rfl)(hpl:(backTo pos (starEach [] X.env)).any (·.1)=false:=by rfl):DE Z X EE (.Call (.Name "int" p) [e] [] pos) (dFn int1 dA):=
 x4j x36 y3h PyProof.Rows.Boot.«int» hm ha hg (by decide) (by decide) he hpl
end
theorem x69:tuprevW (.lst ws)=some (.tup ws.reverse):=rfl
theorem x76{bs:List Bool}:all1 [.lst (bs.map .bl)]=some (.bl (bs.all id)):=by
 show(boolsW (bs.map W.bl)).map _=_;rw[q9c];rfl
theorem y5r{i:Int}:int1 [.int i]=some (.int i):=rfl
theorem y5s:int1 [.bl b]=some (.int (if b then 1 else 0)):=rfl
theorem cast0:((0:Nat):Int)=0:=rfl
theorem cast1:((1:Nat):Int)=1:=rfl
theorem x44{b:List S->SR}(I:Nat->List S->Prop):∀(ws:List W)(k:Nat)(e:List S),I k e->(∀(j:Nat)(w:W)(e:List S),ws[j]?=some w->I (k+j) e->∃e',b (e.set i (.fr w))=.nx e'/\I (k+j+1) e')->∃e',forD i b ws e=.nx e'/\I (k+ws.length) e'
 |[],k,e,h0,_=>⟨e,rfl,h0⟩
 |w::ws,k,e,h0,h=>by
  obtain⟨e1,h1,h2⟩:=h 0 w e rfl h0
  obtain⟨e2,h3,h4⟩:=x44 I ws (k+1) e1 h2 fun j u e hu hI=>by
   have z:=h (j+1) u e (by simpa using hu) (by rw[show k+(j+1)=k+1+j by omega];exact hI);rw[show k+(j+1)+1=k+1+j+1 by omega]at z;exact z
  refine⟨e2,?_,?_⟩
  ·rw[q2q,h1,q28,h3]
  ·rw[w0o,show k+(ws.length+1)=k+1+ws.length by omega];exact h4
theorem q12{hi:Int}:(rangeW lo hi).length=(hi-lo).toNat:=by simp[rangeW]
theorem x45{hi:Int}{j:Nat}(h:(rangeW lo hi)[j]?=some w):w=.int (lo+j)/\j<(hi-lo).toNat:=by
 unfold rangeW at h;rw[w1a]at h;obtain⟨k,h1,rfl⟩:=w0m.mp h;obtain⟨h2,h3⟩:=w0b.mp h1;simp at h2 h3;subst h3;exact⟨rfl,by omega⟩
theorem q3w{b:List S->SR}{hi:Int}(n:Nat)(hn:(hi-lo).toNat=n)(I:Nat->List S->Prop)(e:List S)(h0:I 0 e)(h:∀(j:Nat)(e:List S),j<n->I j e->∃e',b (e.set i (.fr (.int (lo+j))))=.nx e'/\I (j+1) e'):∃e',forD i b (rangeW lo hi) e=.nx e'/\I n e':=by
 obtain⟨e',h1,h2⟩:=x44 (b:=b) (i:=i) I (rangeW lo hi) 0 e h0 fun j w e hw hI=>by
  obtain⟨rfl,hj⟩:=x45 hw;rw[w4d]at hI |-
  exact h j e (by omega) hI
 rw[q12,hn,w4d]at h2;exact⟨e',h1,h2⟩
mutual
noncomputable def conIn(K:PySem.W.Frag):W->Value->Bool
 |.non,u=>match u with|.none=>true|_=>false
 |.bl b,u=>match u with|.bool c=>b==c|_=>false
 |.int i,u=>match u with|.int j _=>decide (i=j)|_=>false
 |.str x,u=>match u with|.str y _=>decide (x=y)|_=>false
 |.tup ws,u=>match u with
  |.ref a=>match K.lookup a with
   |some o=>(o.cls==.type "tuple"&&o.dict.isNone)&&(match o.data with|.seq its _=>Nat.ble its.size 1000000&&consIn K ws its.toList|_=>false)
   |none=>false
  |_=>false
 |.lst _,_=>false
 |.exc _,_=>false
 |.dic _,_=>false
 |.dw _ _ _ _,_=>false
 |.fn _ _ _,_=>false
noncomputable def consIn(K:PySem.W.Frag):List W->List Value->Bool
 |[],us=>us.isEmpty
 |w::ws,us=>match us with
  |u::us=>conIn K w u&&consIn K ws us
  |[]=>false
end
mutual
theorem x2o{K:PySem.W.Frag}:∀(w:W){u:Value},conIn K w u=true->∃v,RelV v u/\∀G,Rep K G w v
 |.non,u,h=>by
  unfold conIn at h;split at h
  ·exact⟨.non,rfl,fun _=>rfl⟩
  ·cases h
 |.bl b,u,h=>by
  unfold conIn at h;split at h
  ·rename_i c;have:b=c:=by simpa using h
   exact⟨.bl b,by rw[this];rfl,fun _=>rfl⟩
  ·cases h
 |.int i,u,h=>by
  unfold conIn at h;split at h
  ·rename_i j t;have:i=j:=by simpa using h
   exact⟨.int i,⟨t,by rw[this]⟩,fun _=>rfl⟩
  ·cases h
 |.str x,u,h=>by
  unfold conIn at h;split at h
  ·rename_i y t;have:x=y:=by simpa using h
   exact⟨.str x,⟨t,by rw[this]⟩,fun _=>rfl⟩
  ·cases h
 |.tup ws,u,h=>by
  unfold conIn at h;split at h
  ·rename_i a;split at h
   ·rename_i o ho;rw[w0r]at h;obtain⟨h1,h2⟩:=h;split at h2
    ·rename_i its n hd;rw[w0r]at h2;obtain⟨h3,h4⟩:=h2;obtain⟨xs,r,q⟩:=x0w ws h4;exact⟨.ref a,rfl,fun G=>⟨a,xs,rfl,.inr ⟨o,its,n,ho,by simpa using ((w0r _ _).mp h1).1,Option.isNone_iff_eq_none.mp ((w0r _ _).mp h1).2,hd,by rw[sizeLine_eq];have:=w3j h3;omega,r⟩,q G⟩⟩
    ·cases h2
   ·cases h
  ·cases h
 |.lst _,u,h=>by unfold conIn at h;cases h
 |.exc _,u,h=>by unfold conIn at h;cases h
 |.dic _,u,h=>by unfold conIn at h;cases h
 |.dw _ _ _ _,u,h=>by unfold conIn at h;cases h
 |.fn _ _ _,u,h=>by unfold conIn at h;cases h
theorem x0w{K:PySem.W.Frag}:∀(ws:List W){us:List Value},consIn K ws us=true->∃xs,Vals xs us/\∀G,Reps K G ws xs
 |[],us,h=>by
  unfold consIn at h;cases us with
  |nil=>exact⟨[],.nil,fun _=>rfl⟩
  |cons _ _=>cases h
 |w::ws,us,h=>by
  unfold consIn at h;cases us with
  |nil=>cases h
  |cons u us=>
   rw[w0r]at h;obtain⟨v,r,q⟩:=x2o w h.1;obtain⟨xs,r',q'⟩:=x0w ws h.2;exact⟨v::xs,.cons r r',fun G=>⟨v,xs,rfl,q G,q' G⟩⟩
end
theorem x46(hm:X.mg x=some u)(hc:conIn X.K w u=true)(hg:Gl X x:=by rfl)(hd:(x==("__debug__":Str))=false:=by decide):DE Z X EE (.Name x pos) (dC w):=by
 obtain⟨v,r,q⟩:=x2o w hc;exact PE.mono (x2d hg hm r hd) fun σ H Q ⟨G,e,rel,h⟩=>h G v H rel (.refl _) (q G)
structure TabK(P:Program)(w:World)(K:PySem.W.Frag)(d:Addr)(tb:List (Str×Int)):Prop where
 tab:∀h,K.In h->PyProof.Rows.StrTab P w h d (PySem.W.kdpD tb)
 obj:∃o,K.lookup d=some o/\o.cls=.type "dict" /\ o.dict=none
noncomputable def extB(i:Nat)(e:List S)(b:Option Nat)(xs:List W):Option (List W)->SR
 |some ys=>if xs.length+ys.length<=16777216 then .nx (e.set i (.own b (xs++ys)))else .no
 |none=>.no
theorem x47{b:Option Nat}{xs ys:List W}:extB i e b xs (some ys)=if xs.length+ys.length<=16777216 then .nx (e.set i (.own b (xs++ys)))else .no:=rfl
noncomputable def compP(c:Den Bool)(d:Den W)(pe:List S):List (W×W)->Option (List W)
 |[]=>some []
 |p::ps=>match c (.fr p.1::.fr p.2::pe)with
  |.ok true e1=>match d e1 with
   |.ok y _=>(compP c d pe ps).map (y::·)
   |_=>none
  |.ok false _=>compP c d pe ps
  |_=>none
noncomputable def compPK(js:List Nat)(c:Den Bool)(d:Den W)(ps:List (W×W))(e1:List S):R (List W):=
 if ps.length<=16777216 then(match compP c d (pjS js (frzs js e1)) ps with
  |some out=>.ok out (frzs js e1)
  |none=>.no)else .no
noncomputable def dCompP(js:List Nat)(di:Den (List (W×W)))(c:Den Bool)(d:Den W):Den (List W):=fun e=>(di e).bind fun ps e1=>compPK js c d ps e1
structure Walk2(K:PySem.W.Frag)(G1:Hp)(J:It)(ps:List (W×W)):Prop where
 go:∀(i:Nat)(G H:Hp),Same G1 G->Same G H->i<ps.length->J.go i H
 yld:∀(i:Nat)(G H:Hp)(x:V)(H':Hp),Same G1 G->Same G H->J.yld i H x H'->∀u v,ps[i]?=some (u,v) ->
  Grow G H G H'/\∀(m n:Nat)(σ:St)(Q:St->Hp->Prop),(∀y z,Rep K G u y->Rep K G v z->Q ((σ.set m (some y)).set n (some z)) H')->gTup K 2 (gCons (gName m) (gCons (gName n) gNil)) x σ H' Q
 stop:∀(i:Nat)(G H:Hp),Same G1 G->Same G H->ps.length<=i->J.stop i H
def liftI(K:PySem.W.Frag)(Z:Zt)(EE:St->XK)(d:Den (List (W×W))):TI:=fun σ H R=>AtG K Z σ H fun G e=>(d e).holds (fun ps e1=>∀G1 H1 J,Rel K Z G1 σ H1 e1->Same G G1->Walk2 K G1 J ps->R J H1) (XH K Z EE σ G)
def DI(Z:Zt)(X:Cx)(EE:St->XK)(tg iter:Expr)(d:Den (List (W×W))):Prop:=PI X tg iter (liftI X.K Z EE d)
theorem PI.mono{tg iter:Expr}{wi wi':TI}(h:PI X tg iter wi)(m:∀σ H R,wi' σ H R->wi σ H R):PI X tg iter wi':=fun pins s σ H R I q=>h pins s σ H R I (m σ H R q)
theorem x3g{p:W×W}(h:ps[k]?=some p):ps.drop k=p::ps.drop (k+1):=by
 obtain⟨h1,h2⟩:=w0b.mp h;rw[w2z h1,h2]
theorem Rel.block2(r:Rel K Z G σ H e)(js:List Nat){u:W}{y x:V}(q:Rep K G u y)(p:Rep K G w x):Rel K ⟨H,G,[]⟩ G (some y::some x::pj js σ) H (.fr u::.fr w::pjS js e):=by
 have b:=r.block js p
 have hfr:∀(i:Nat)(s:S),(S.fr w::pjS js e)[i]?=some s->s=.no\/∃u,s=.fr u:=fun i s h=>by
  cases i with
  |zero=>cases h;exact .inr ⟨w,rfl⟩
  |succ k=>
   rw[w0e]at h;unfold pjS at h;rw[w1a]at h;obtain⟨j,h1,h2⟩:=w0m.mp h;unfold pj1 at h2;split at h2
   ·subst h2;exact .inr ⟨_,rfl⟩
   ·subst h2;exact .inl rfl
 refine⟨b.sub,fun i s h=>?_,?_,fun i j b1 b2 w1 w2 a h1 h2 _ _=>?_,b.ent,b.ion,b.gen⟩
 ·cases i with
  |zero=>cases h;exact⟨y,rfl,q⟩
  |succ i=>
   rw[w0e]at h;have z:=b.slot i s h;rcases hfr i s h with rfl|⟨u',rfl⟩
   ·trivial
   ·obtain⟨v,z1,z2⟩:=b.fr h;exact⟨v,by rw[w0e,z1];rfl,z2⟩
 ·have:=b.len;simp only[w0o]at this |-
  omega
 ·cases i with
  |zero=>cases h1
  |succ i=>
   rw[w0e]at h1;rcases hfr i _ h1 with z|⟨u',z⟩<;>cases z
theorem x7a{J:It}{Q:VK}{G0 H1:Hp}{e1:List S}(W0:Walk2 K G1 J ps)(r1:Rel K Z G1 σ H1 e1)(s1:Same G0 G1)(hl:ps.length<=16777216)
  (hz:∀p,H1 p=none->p∉Z.io)(hc:compP c d (pjS js e1) ps=some out)
  (h:∀G' a xs H',Rel K Z G' σ H' e1->Same G0 G'->H' a=some (.lst xs)->G' a=none->Z.H a=none->Free σ e1 a->Reps K G' out xs->Q (.ref a) H'):
  ∀D,H1 D=none->∃W:Nat->Nat->Hp->Prop,(∃m,W 0 m (upd H1 D (.lst [])))/\∀i m H2,W i m H2 ->
   (J.stop i H2/\Q (.ref D) H2)\/(J.go i H2/\∀x H3,J.yld i H2 x H3->gTup K 2 (gCons (gName 0) (gCons (gName 1) gNil)) x (List.replicate 2 none++pj js σ) H3 fun σ4 H4=>Kp (List.replicate 2 none++pj js σ) σ4/\cT K c σ4 H4 fun b H5=>
    if b=true then cE K d σ4 H5 fun y H6=>∃ys,H6 D=some (.lst ys)/\ys.length<sizeLine/\∃m',m'<m/\W (i+1) m' (upd H6 D (.lst (ys++[y])))else ∃m',m'<m/\W (i+1) m' H5):=by
 intro D hD
 refine⟨fun i m H2=>m=ps.length-i/\i<=ps.length/\∃G2 ys done rest,Rel K Z G2 σ H2 e1/\Same G1 G2/\H2 D=some (.lst ys)/\G2 D=none/\Reps K G2 done ys/\done.length<=i/\compP c d (pjS js e1) (ps.drop i)=some rest/\done++rest=out,
  ⟨ps.length,by omega,w1h _,G1,[],[],out,r1.grow (Grow.hid r1.sub hD _),.refl _,q0g,r1.sub.free hD,rfl,w0d _,hc,rfl⟩,?_⟩
 rintro i m H2 ⟨rfl,hi,G2,ys,done,rest,r2,s2,hd2,hg2,rp2,hdl,hc2,ho⟩;have hfree:Free σ e1 D:=q3i r1 hD;have hzh:Z.H D=none:=q20 r1 hD
 by_cases hlt:i<ps.length
 ·refine .inr ⟨W0.go i G2 H2 s2 r2.sub hlt,fun x H3 hy=>?_⟩
  have hp:ps[i]?=some ((ps[i]).1,(ps[i]).2):=by rw[w0f hlt]
  obtain⟨g3,hgo⟩:=W0.yld i G2 H2 x H3 s2 r2.sub hy _ _ hp;have r2':=r2.grow g3;have hd3:H3 D=some (.lst ys):=g3.hh _ _ hd2;rw[x3g hp]at hc2;refine hgo 0 1 _ _ fun yv zv py pz=>⟨Kp.two,⟨H3,G2,[]⟩,G2,.fr (ps[i]).1::.fr (ps[i]).2::pjS js e1,r2'.block2 js py pz,?_⟩
  unfold compP at hc2;cases qc:c (.fr (ps[i]).1::.fr (ps[i]).2::pjS js e1)with
  |no=>rw[qc]at hc2;cases hc2
  |ex _ _=>rw[qc]at hc2;cases hc2
  |ok k e2=>
   rw[qc]at hc2;intro G3 H5 r3 s3;have g3:=r3.toGrow s3;cases k with
   |false=>
    exact⟨ps.length-(i+1),by omega,rfl,hlt,G3,ys,done,rest,r2'.grow g3,s2.trans s3,g3.hh _ _ hd3,by rw[g3.new D (by rw[hd3];simp)];exact hg2,Reps.mono s3 _ rp2,by omega,hc2,ho⟩
   |true=>
    refine⟨⟨H3,G2,[]⟩,G3,e2,r3,?_⟩;dsimp only at hc2;cases qd:d e2 with
    |no=>rw[qd]at hc2;cases hc2
    |ex _ _=>rw[qd]at hc2;cases hc2
    |ok y e3=>
     rw[qd]at hc2;intro G4 v H6 r4 s4 p4;have g4:=r4.toGrow (s3.trans s4);obtain⟨rest',hr,rfl⟩:=w0m.mp hc2;have hd6:H6 D=some (.lst ys):=g4.hh _ _ hd3;have hg6:G4 D=none:=by rw[g4.new D (by rw[hd3];simp)];exact hg2
     refine⟨ys,hd6,?_,ps.length-(i+1),by omega,rfl,hlt,G4,ys++[v],done++[y],rest',(r2'.grow g4).mutFree hg6 hzh (hz D hD) hfree hd6,s2.trans (s3.trans s4),q0g,hg6,(Reps.mono (s3.trans s4) _ rp2).append (.one p4),by simp;omega,hr,by rw[List.append_assoc];exact ho⟩;rw[rp2.length,sizeLine_eq];omega
 ·have:i=ps.length:=by omega
  subst this;rw[w3e]at hc2;cases hc2;rw[w2t]at ho;subst ho;exact .inl ⟨W0.stop _ G2 H2 s2 r2.sub (by omega),h G2 D ys H2 r2 (s1.trans s2) hd2 hg2 hzh hfree rp2⟩
section
variable{elt iter e a:Expr}{body:List Stmt}{ifs:List Expr}{scope sc:Scope}{pt p3:Pos}{Nf N:List Str}{di:Den (List (W×W))}{d0:Den W}{s1:List S->SR}
theorem x3h:∀σ H Q,liftF K Z EE (dCompP js di c d) σ H Q->tComp (liftI K Z EE di) 2 js (gTup K 2 (gCons (gName 0) (gCons (gName 1) gNil))) (cT K c) (cE K d) σ H Q:=by
 rintro σ H Q ⟨G,e,rel,h⟩;simp only[dCompP,R.holds_bind]at h;refine⟨G,e,rel,h.imp (fun ps e1 h G1 H1 J r1 s1 W0=>?_) fun _ _ h=>h⟩
 unfold compPK at h;split at h
 ·rename_i hl;split at h
  ·rename_i out ho;obtain⟨G2,s2,r2⟩:=r1.frzs js;have W1:Walk2 K G2 J ps:=⟨fun i G H a=>W0.go i G H (s2.trans a),fun i G H x H' a=>W0.yld i G H x H' (s2.trans a),fun i G H a=>W0.stop i G H (s2.trans a)⟩
   exact x7a W1 r2 (s1.trans s2) hl (ionone r2) ho h
  ·exact h.elim
 ·exact h.elim
theorem q64(hc:X.calm=true)(hi:DI Z X EE (.Tuple [.Name x p1,.Name y p2] kt p3) iter di)(ok:compOk sc scope N Nf js=true)
  (ht:∀Z' cl C s₀ H₀ ex,DTs Z' (X.cp ([x,y]++Nf) scope cl C s₀ H₀ ex) (fun _=>E0) ifs c)(he:∀Z' cl C s₀ H₀ ex,DE Z' (X.cp ([x,y]++Nf) scope cl C s₀ H₀ ex) (fun _=>E0) elt d)
  (hg:∀cl C s₀ H₀ ex,PG (X.cp ([x,y]++Nf) scope cl C s₀ H₀ ex) (.Tuple [.Name x p1,.Name y p2] kt p3) (gTup X.K 2 (gCons (gName 0) (gCons (gName 1) gNil))))
  (hsc:X.env.scope=sc:=by rfl)(hN:X.N=N:=by rfl)(hs:∀x,foldedSetIterable iter X.env x=pure x:=by intro _;rfl):
  DF Z X EE (.ListComp elt [⟨.Tuple [.Name x p1,.Name y p2] kt p3,iter,ifs,0⟩] scope pos) (dCompP js di c d):=by
 exact PE.mono (q6x (Nl:=[x,y]) (tc:=cT X.K c) (te:=cE X.K d) hc hi ok hg (q7m ht) (q7n he) hsc hN hs) x3h
noncomputable def pairsW:List W->Option (List (W×W))
 |[]=>some []
 |.tup [u,v]::ws=>(pairsW ws).map ((u,v)::·)
 |_=>none
noncomputable def enumL:Nat->List W->List (W×W)
 |_,[]=>[]
 |k,w::ws=>(.int k,w)::enumL (k+1) ws
noncomputable def srcE(dA:Den (List W)):Den (List (W×W)):=fun e=>(dA e).bind fun ws e1=>match ws with
 |[.lst us]=>.ok (enumL 0 us) e1
 |_=>.no
theorem q9d:∀(k:Nat)(ws:List W),(enumL k ws).length=ws.length
 |_,[]=>rfl
 |k,w::ws=>by simp[enumL,q9d (k+1) ws]
theorem q9e:∀(k:Nat)(ws:List W)(i:Nat)(u v:W),(enumL k ws)[i]?=some (u,v)->u=.int ((k+i:Nat):Int)/\ws[i]?=some v
 |_,[],i,u,v,h=>by simp[enumL]at h
 |k,w::ws,i,u,v,h=>by
  cases i with
  |zero=>
   have e:(W.int k,w)=(u,v):=Option.some.inj h;cases e;exact⟨rfl,rfl⟩
  |succ i=>
   have h:(enumL (k+1) ws)[i]?=some (u,v):=h;obtain⟨h1,h2⟩:=q9e (k+1) ws i u v h;exact⟨by rw[h1];congr 2;omega,h2⟩
noncomputable def Ite(K:PySem.W.Frag)(a:Addr):It:=
 ⟨fun i H=>∃xs x,SqL K H a xs/\xs[i]?=some x,fun i H x H'=>∃b y,x=.ref b/\H b=none/\(∀xs,SqL K H a xs->xs[i]?=some y)/\H'=upd H b (.tup [.int i,y]),fun i H=>∃xs,SqL K H a xs/\xs.length<=i⟩
theorem q9f{t':Nat}{fp:List Addr}{b:Addr}{o:HO}(I:Inv X pins σ H s)(k:∀b o,b∉fp->s.heap.get? b=some o->h'.get? b=some o)(hf:∀b∈fp,FpOk X pins H b)(hp:s.heap.objs.size<=b)(new:ObjOk X.prog X.w (upd H b o) h' b o):Inv X pins σ (upd H b o) {s with heap:=h',toks:=t'}:=by
 have hn:H b=none:=I.hok.fresh hp;have ne:∀c u,H c=some u->c≠b:=fun c u e=>q0j e hn
 have nfp:∀c u,H c=some u->c∉fp:=fun c u e z=>by rw[(hf c z).1]at e;cases e
 have lt:∀c o,s.heap.get? c=some o->c≠b:=fun c o e=>w0p (w0l (Heap.lt_size e) hp)
 refine I.step (g':=s.gens) (d':=s.drawn) (ch:=fp) (fun c hc=>?_) (fun c o _ _ hc e _=>k c o hc e) (fun c o _ _ hc e _=>⟨o.slots,k c o hc e⟩) (fun c o _ e n=>by rw[q0b (lt c o e)];exact n)
  (fun c o hc e=>⟨o,k c o hc e⟩) (fun c xs e=>by rw[q0b (ne c _ e)];exact e) (fun c o u e=>by rw[q0b (ne c _ e)];exact e) (fun c ps e=>⟨#[],by rw[q0b (ne c _ e),e];simp⟩) (fun m hm=>?_) (fun c u e=>?_) I.bare
 ·obtain⟨f0,f1,f2,f3,f4,f5⟩:=hf c hc;exact⟨f3,f1,f4,f5⟩
 ·obtain⟨o,es,ep,ho,r⟩:=hm;exact⟨o,es,ep,k _ o (fun z=>(hf _ z).2.1 rfl) ho,r⟩
 ·by_cases hb:c=b
  ·subst hb;rw[q0g]at e;cases e;exact new
  ·rw[q0b hb]at e;refine(I.hok c u e).stay (fun d v hd q=>k d v ?_ q) (fun d q=>by rw[q0b (ne d _ q)];exact q) fun d xs _ q=>by rw[q0b (ne d _ q)];exact q
   rcases hd with z|z
   ·rw[z];exact nfp c u e
   ·exact nfp d _ z
theorem x48{w:World}(a e it:Addr)(hne:e≠it):Turn P w K (.Tuple elts kt pt) (Ite K a) [e,it] e (fun i h=>∃old,PySem.IsEnum h e it (i:Nat) old/\h.IsListIter it a i) where
 mem:=by simp
 obj:=fun i h ⟨old,st1,st2⟩ b hb=>by
  simp only[w0s,w1k,or_false]at hb;rcases hb with rfl|rfl
  ·exact⟨_,st1,fun v z=>by cases z⟩
  ·obtain⟨o,e,c,d⟩:=st2;exact⟨o,e,fun v z=>by rw[d]at z;cases z⟩
 keep:=fun i h h' ⟨old,st1,st2⟩ k=>⟨old,k e (by simp) _ st1,st2.at fun o e=>k it (by simp) o e⟩
 item:=by
  intro X hP hw hK hc i pins s σ H E I hf st hg;subst hP hw hK;obtain⟨old,st1,st2⟩:=st;obtain⟨xs,x,hq,hx⟩:=hg;obtain⟨its,rv,p,hz⟩:=I.list hq;obtain⟨u,hu,ru⟩:=rv.get hx;refine wpAny_pyNext_enum_item st1 st2 p.isList (x:=u) (by simpa using hu) hne fun h1 heo hit1 ht1 hz1 hk1=>⟨_,rfl,?_⟩
  refine wpAny_letOwnedTupleGo_enum heo fun h2 he2 hs2=>?_
  have hs2:Heap.SameBut e h1 h2:=hs2;have hlt:e<s.heap.objs.size:=Heap.lt_size st1;have hfr:H s.heap.objs.size=none:=I.hok.fresh (w0d _);have ht2:h2.get? s.heap.objs.size=some {cls:=.type "tuple", data:=.seq #[.int i s.toks,u]}:=(hs2.2 _ (w2x hlt)).trans ht1;refine⟨.ref s.heap.objs.size,upd H s.heap.objs.size (.tup [.int i,x]),?_,rfl,⟨_,x,rfl,hfr,fun ys hy=>by rw[I.list_inj hy hq];exact hx,rfl⟩,⟨u,he2,?_⟩,fun b hb=>?_⟩
  ·show L2.Inv X pins σ _ {s with heap:=h2,toks:=s.toks+1};refine q9f (fp:=[e,it]) I (fun b o hb q=>?_) hf (w0d _) ⟨?_,[.int i s.toks,u],.cons ⟨_,rfl⟩ (.cons ru .nil),⟨_,ht2,rfl,?_⟩,⟨_,ht2,rfl⟩⟩
   ·simp only[w0s,w1k,or_false,not_or]at hb;exact(hs2.2 b hb.1).trans (hk1 b o hb.1 hb.2 q)
   ·rw[sizeLine_eq];simp
   ·exact⟨_,rfl⟩
  ·exact hit1.at fun o q=>(hs2.2 it (Ne.symm hne)).trans q
  ·have:b≠s.heap.objs.size:=by
    obtain⟨o,q,_⟩:∃o,s.heap.get? b=some o/\True:=by
     simp only[w0s,w1k,or_false]at hb;rcases hb with rfl|rfl
     ·exact⟨_,st1,trivial⟩
     ·obtain⟨o,e,_⟩:=st2;exact⟨o,e,trivial⟩
    exact w0p (Heap.lt_size q)
   rw[q0b this];exact(hf b hb).1
 done:=by
  intro X hP hw hK hc i pins s σ H E I hf st hg;subst hP hw hK;obtain⟨old,st1,st2⟩:=st;obtain⟨xs,hq,hx⟩:=hg;obtain⟨its,rv,p,hz⟩:=I.list hq;obtain⟨f0,f1,f2,f3,f4,f5⟩:=hf it (by simp);have hl:=rv.length;exact wpAny_pyNext_enum_end (I.ok.hd hc) st1 st2 p.isList (by simp;omega) fun h' eb=>⟨rfl,I.turned (t':=s.toks) (fun b o hb e=>eb b o hb e) f0 f1 f3 f4 f5⟩
 self:=fun _ _ _ _ _ ⟨old,st1,_⟩ h=>wpAny_pyIter_enum st1 h
def iEnum(K:PySem.W.Frag)(ta:TA):TI:=fun σ H R=>ta σ H fun vs H1=>∃a,vs=[.ref a]/\(∃xs,SqL K H1 a xs)/\R (Ite K a) H1
theorem x93{ta:TA}{p:Pos}(hg:Gl X "enumerate")(hm:X.mg "enumerate"=none)(ha:PA X [a] ta)(hs:starEach [a] X.env=[(false,eval a X.env)]:=by rfl):PI X (.Tuple elts kt pt) (.Call (.Name "enumerate" p) [a] [] pos) (iEnum X.K ta):=by
 intro pins s σ H R I h;refine PyProof.Rows.Call_ (q3o I hg hm PyProof.Rows.boot_enumerate (PyProof.Rows.callWith_type1 (thn (ha pos pins s σ H _ I h) fun us s1 ⟨vs,H1,I1,r1,q1⟩=>?_) hs rfl))
 obtain⟨l,e,⟨xs,hq⟩,q⟩:=q1;subst e;cases r1 with
 |cons r rr=>
  cases rr;cases r;obtain⟨its,rv,p,hz⟩:=I1.list hq;refine call_enumerate_list p.isList fun h' he hit hsz hk=>?_
  refine wpAny_pyIter_enum he ?_;refine⟨s1.heap.objs.size+1,[s1.heap.objs.size+1,s1.heap.objs.size],_,_,H1,rfl,I1.kept (t':=s1.toks) hk,x48 l _ _ (Nat.succ_ne_self _),⟨_,he,hit⟩,fun b hb=>?_,q⟩
  simp only[w0s,w1k,or_false]at hb;rcases hb with rfl|rfl
  ·exact I1.fpOk (by omega) (I1.hok.fresh (by omega))
  ·exact I1.fpOk (w0d _) (I1.hok.fresh (w0d _))
theorem x3i{b:Addr}(rp:Reps K G1 ws xs)(hq:SqL K G1 b xs):Walk2 K G1 (Ite K b) (enumL 0 ws):=by
 have hx:=rp.length;have hl:=q9d 0 ws;refine⟨fun i G H s s' h=>⟨xs,xs[i]'(by omega),Same.seq s' (Same.seq s hq),by simp⟩,fun i G H x H' s s' hy u v h=>?_,fun i G H s s' h=>⟨xs,Same.seq s' (Same.seq s hq),by omega⟩⟩
 obtain⟨c,y,rfl,hn,hx',rfl⟩:=hy;obtain⟨hu,hv⟩:=q9e 0 ws i u v h;obtain⟨w,hw,pw⟩:=rp.getV (hx' xs (Same.seq s' (Same.seq s hq)));rw[hv]at hw;cases hw;refine⟨Grow.hid s' hn _,fun m n σ Q hQ=>⟨c,[.int i,y],rfl,SqT.of q0g,rfl,.int i,[y],rfl,y,[],rfl,rfl,hQ _ _ ?_ (Rep.mono s _ pw)⟩⟩
 rw[hu,w4d];exact rfl
theorem x2p{p:Pos}(hm:X.mg "enumerate"=none)(ha:DA Z X EE [a] dA)(hg:Gl X "enumerate":=by rfl)(hs:starEach [a] X.env=[(false,eval a X.env)]:=by rfl):DI Z X EE (.Tuple elts kt pt) (.Call (.Name "enumerate" p) [a] [] pos) (srcE dA):=by
 refine PI.mono (x93 hg hm ha hs) ?_;rintro σ H RR ⟨G,e,rel,h⟩;simp only[srcE,R.holds_bind]at h;refine⟨G,e,rel,h.imp (fun ws e1 h G1 vs H1 r1 s1 p1=>?_) fun _ _ h=>h⟩
 split at h
 ·rename_i us;obtain⟨y,r,rfl,e1,e2⟩:=p1;cases(show r=[]from e2);obtain⟨b,xs,rfl,hq,rp⟩:=e1;exact⟨b,rfl,⟨xs,r1.sub.seq hq⟩,h _ _ _ r1 s1 (x3i rp hq)⟩
 ·exact h.elim
end
theorem x0x{p3:Pos}(hN:X.N.Nodup)(hc:X.calm=true)
  (hi:X.N[0]?=some x:=by rfl)(hx:Loc X.env.scope x:=by walk_at "3")(hf:X.fn x=true\/X.env.scope.names.lookup x=some .local:=by walk_at "2")
  (hj:X.N[1]?=some y:=by rfl)(hy:Loc X.env.scope y:=by walk_at "3")(hf':X.fn y=true\/X.env.scope.names.lookup y=some .local:=by walk_at "2")
  (hn:(assignEach [.Name x p1,.Name y p2] X.env).length=2:=by rfl)(hst:(assignEach [.Name x p1,.Name y p2] X.env).findIdx? (·.1)=none:=by rfl)
  (g1:(assignEach [.Name x p1,.Name y p2] X.env).map (·.2)=assign (.Name x p1) X.env::(assignEach [.Name y p2] X.env).map (·.2):=by rfl)(g2:(assignEach [.Name y p2] X.env).map (·.2)=assign (.Name y p2) X.env::(assignEach [] X.env).map (·.2):=by rfl):
  PG X (.Tuple [.Name x p1,.Name y p2] kt p3) (gTup X.K 2 (gCons (gName 0) (gCons (gName 1) gNil))):=
 y01 hc (q95 (q1w 0 hN hi hx hf) (q95 (q1w 1 hN hj hy hf') x8e g2) g1) hn hst
section
variable{di:Den (List (W×W))}{b:List S->SR}{j:Nat}{c:Prop} [Decidable c]{s t:SR}{k:List S->SR}{v:Value}{st:S}
noncomputable def srcEW(e:List S):List W->R (List (W×W))
 |[.lst us]=>.ok (enumL 0 us) e
 |_=>.no
theorem y3i:srcE dA e=(dA e).bind fun ws e1=>srcEW e1 ws:=by
 unfold srcE;congr 1
theorem x94:srcEW e [.lst ws]=.ok (enumL 0 ws) e:=rfl
theorem x7b:compPK js cc d ps e=if ps.length<=16777216 then compR (frzs js e) (compP cc d (pjS js (frzs js e)) ps)else .no:=by
 unfold compPK compR;split
 ·cases compP cc d (pjS js (frzs js e)) ps<;>rfl
 ·rfl
theorem x7c:dCompP js di cc d e=(di e).bind fun ps e1=>compPK js cc d ps e1:=rfl
theorem q7u{p:W×W}:compP cc d pe (p::ps)=(match cc (.fr p.1::.fr p.2::pe)with
  |.ok true e1=>(match d e1 with|.ok y _=>(compP cc d pe ps).map (y::·)|_=>none)
  |.ok false _=>compP cc d pe ps
  |_=>none):=rfl
end
noncomputable def intsW:List W->Option (List Int)
 |[]=>some []
 |.int x::r=>(intsW r).map (x::·)
 |_=>none
theorem x0y:∀{ws:List W}{ys:List Int}{xs:List V},intsW ws=some ys->Reps K G ws xs->xs=ys.map V.int
 |[],ys,xs,h,r=>by cases h;cases(show xs=[]from r);rfl
 |w::ws,ys,xs,h,r=>by
  unfold intsW at h;split at h
  ·rename_i z;cases z
  ·rename_i y r' z;cases z;obtain⟨ys',h1,rfl⟩:=w0m.mp h;obtain⟨v,vs,rfl,p1,p2⟩:=r;cases(show v=V.int y from p1);rw[x0y h1 p2];rfl
  ·cases h
section
variable{prog:Program}{w:World}{E:Value->Shared->Prop}
theorem x0z{b:Addr}{x:Value}{Q:Value->Shared->Prop}(gi:s.heap.IsTupleIter j b k)(gt:s.heap.IsTuple b vs)(gx:vs[k]?=some x)
  (hQ:∀h',h'.IsTupleIter j b (k+1)->Heap.SameBut j s.heap h'->Q x {s with heap:=h'}):wpAny (model prog w) A (Builtin.SmallTypes.nextOf (.ref j)) Q E s:=by
 obtain⟨o,ho,hc,hd⟩:=id gi;obtain⟨ot,hot,_,m,hdt⟩:=gt;unfold Builtin.SmallTypes.nextOf;refine wpAny_bind (wpAny_callSpecial?_slot (name:=Str.ofString "__next__") gi.typeIs F.slot_tuple_iterator_next (wpAny_call_entry F.slot_tuple_iterator_next gi.typeIs F.entry_tuple_iterator_next ?_ (F.args_tuple_iterator_next_1 _)));show wpAny _ _ (field (.ref j) 0 >>= _) _ _ s;refine wpAny_bind (wpAny_field ho hd (x:=.ref b) rfl ?_);show wpAny _ _ (if(Value.ref b==Value.none)=true then _ else _) _ _ s;rw[if_neg (show ¬((Value.ref b==Value.none)=true)from w0y)];show wpAny _ _ (field (.ref j) 1 >>= _) _ _ s;refine wpAny_bind (wpAny_field ho hd (x:=.int k 0) rfl ?_);show wpAny _ _ (seqItems? (.ref b) >>= _) _ _ s;refine wpAny_bind (wpAny_seqItems hot hdt ?_);simp only[w1b,gx];refine wpAny_bind (wpAny_setField ho hd (by simp) (wpAny_pure ⟨x,rfl,wpAny_pure (hQ _ ⟨_,Heap.get?_update_self _ ho (Obj.isFreed_of_fields (Obj.data_mapFields hd _)),(Obj.cls_mapFields ..).trans hc,by rw[Obj.data_mapFields hd];simp[rawInt]⟩ (Heap.SameBut.update ..))⟩))
theorem x1t{b:Addr}{Q:Value->Shared->Prop}(hh:A.handled=none)(gi:s.heap.IsTupleIter j b k)(gt:s.heap.IsTuple b vs)(gx:vs[k]?=none)
  (hE:∀h' e,Heap.ExtBut j s.heap h'->(∃o,h'.get? e=some o/\o.cls=.type "StopIteration")->E (.ref e) {s with heap:=h'}):wpAny (model prog w) A (Builtin.SmallTypes.nextOf (.ref j)) Q E s:=by
 obtain⟨o,ho,hc,hd⟩:=id gi;obtain⟨ot,hot,_,m,hdt⟩:=gt;unfold Builtin.SmallTypes.nextOf;refine wpAny_bind (wpAny_callSpecial?_slot (name:=Str.ofString "__next__") gi.typeIs F.slot_tuple_iterator_next (wpAny_call_entry F.slot_tuple_iterator_next gi.typeIs F.entry_tuple_iterator_next ?_ (F.args_tuple_iterator_next_1 _)));show wpAny _ _ (field (.ref j) 0 >>= _) _ _ s;refine wpAny_bind (wpAny_field ho hd (x:=.ref b) rfl ?_);show wpAny _ _ (if(Value.ref b==Value.none)=true then _ else _) _ _ s;rw[if_neg (show ¬((Value.ref b==Value.none)=true)from w0y)];show wpAny _ _ (field (.ref j) 1 >>= _) _ _ s;refine wpAny_bind (wpAny_field ho hd (x:=.int k 0) rfl ?_);show wpAny _ _ (seqItems? (.ref b) >>= _) _ _ s;refine wpAny_bind (wpAny_seqItems hot hdt ?_);simp only[w1b,gx];refine wpAny_bind (wpAny_rule (wpAny_bind (wpAny_setField ho hd (by simp) ?_)));show wpAny _ _ (newExc (.type "StopIteration") [] >>= _) _ _ _;refine wpAny_bind ?_;simp only[newExc,newTuple];refine wpAny_bind (wpAny_newObj_type ?_ (by size_fits));refine wpAny_bind (m:=firstArgMember _ _) (wpAny_of_eq (a:=Value.none) (by first|rfl|(simp only[firstArgMember];rfl)) (wpAny_newObj_type ?_ (by size_fits)));simp only[raiseNew];refine wpAny_bind (wpAny_handled ?_)
 first|rw[show A.in1.handled=none from hh]|rw[hh]
 refine wpAny_bind (wpAny_pure (wpAny_throw (hE _ _ (((Heap.SameBut.update ..).extBut.push _).push _) ⟨_,Heap.get?_push_size _ rfl,rfl⟩)))
def IsIt(t:Bool)(j b:Addr)(k:Nat)(h:Heap):Prop:=if t=true then h.IsTupleIter j b k else h.IsListIter j b k
def IsSq(t:Bool)(b:Addr)(vs:Array Value)(h:Heap):Prop:=if t=true then h.IsTuple b vs else h.IsList b vs
theorem IsIt.keep{b:Addr}{h:Heap}(x:IsIt t j b k h)(e:∀o,h.get? j=some o->h'.get? j=some o):IsIt t j b k h':=by
 cases t with
 |true=>obtain⟨o,ho,r⟩:=(show h.IsTupleIter j b k from x);exact⟨o,e o ho,r⟩
 |false=>obtain⟨o,ho,r⟩:=(show h.IsListIter j b k from x);exact⟨o,e o ho,r⟩
theorem IsIt.obj{b:Addr}{h:Heap}(x:IsIt t j b k h):∃o,h.get? j=some o/\∀v,o.data≠.cell v:=by
 cases t with
 |true=>obtain⟨o,ho,c,d⟩:=(show h.IsTupleIter j b k from x);exact⟨o,ho,fun v z=>by rw[d]at z;cases z⟩
 |false=>obtain⟨o,ho,c,d⟩:=(show h.IsListIter j b k from x);exact⟨o,ho,fun v z=>by rw[d]at z;cases z⟩
theorem IsSq.keep{b:Addr}{h:Heap}(x:IsSq t b vs h)(e:∀o,h.get? b=some o->h'.get? b=some o):IsSq t b vs h':=by
 cases t with
 |true=>obtain⟨o,ho,r⟩:=(show h.IsTuple b vs from x);exact⟨o,e o ho,r⟩
 |false=>obtain⟨o,ho,r⟩:=(show h.IsList b vs from x);exact⟨o,e o ho,r⟩
theorem q8i{b:Addr}{x:Value}{Q:Value->Shared->Prop}(gi:IsIt t j b k s.heap)(gt:IsSq t b vs s.heap)(gx:vs[k]?=some x)
  (hQ:∀h',IsIt t j b (k+1) h'->Heap.SameBut j s.heap h'->Q x {s with heap:=h'}):wpAny (model prog w) A (Builtin.SmallTypes.nextOf (.ref j)) Q E s:=by
 cases t with
 |true=>exact x0z gi gt gx hQ
 |false=>exact wpAny_nextOf_list_item gi gt gx hQ
theorem x49{b:Addr}{Q:Value->Shared->Prop}(hh:A.handled=none)(gi:IsIt t j b k s.heap)(gt:IsSq t b vs s.heap)(gx:vs[k]?=none)
  (hE:∀h' e,Heap.ExtBut j s.heap h'->(∃o,h'.get? e=some o/\o.cls=.type "StopIteration")->E (.ref e) {s with heap:=h'}):wpAny (model prog w) A (Builtin.SmallTypes.nextOf (.ref j)) Q E s:=by
 cases t with
 |true=>exact x1t hh gi gt gx hE
 |false=>exact wpAny_nextOf_list_end hh gi gt gx hE
structure Apart(z I O i j a b:Addr):Prop where
 Iz:I≠z
 Oz:O≠z
 iz:i≠z
 jz:j≠z
 IO:I≠O
 Ii:I≠i
 Ij:I≠j
 Oi:O≠i
 Oj:O≠j
 ij:i≠j
 az:a≠z
 aO:a≠O
 ai:a≠i
 aj:a≠j
 bz:b≠z
 bO:b≠O
 bi:b≠i
 bj:b≠j
theorem x95{z I O i b:Addr}{u:Bool}{xs:Array Value}{x y p q:Value}{Q:Value->Shared->Prop}(D:Apart z I O i j a b)
  (gz:IsZip s.heap z I O .none)(gI:IsPair s.heap I (.ref i) (.ref j))(gO:IsPair s.heap O p q)
  (g1:IsIt t i a k s.heap)(g2:IsIt u j b k s.heap)(l1:IsSq t a xs s.heap)(l2:IsSq u b ys s.heap)(hx:xs[k]?=some x)(hy:ys[k]?=some y)
  (hQ:∀h',IsZip h' z I O (rawInt s.heap.objs.size)->IsPair h' O x y->IsIt t i a (k+1) h'->IsIt u j b (k+1) h'->IsPair h' s.heap.objs.size x y->h'.objs.size=s.heap.objs.size+1 ->
   (∀c o,c≠z->c≠O->c≠i->c≠j->s.heap.get? c=some o->h'.get? c=some o)->Q (.ref s.heap.objs.size) {s with heap:=h'}):
  wpAny (model prog w) A (Builtin.«zip.__next__» ⟨[.ref z],[]⟩) (fun fin s'=>∃v,fin=.done (.ret v)/\Q v s') E s:=by
 show wpAny _ _ (field (.ref z) 2 >>= _) _ _ _;refine wpAny_bind (wpAny_field gz rfl (x:=.bool false) rfl ?_);show wpAny _ _ (field (.ref z) 3 >>= _) _ _ _;refine wpAny_bind (wpAny_field gz rfl (x:=.ref I) rfl (wpAny_bind (wpAny_seqItems gI rfl ?_)));show wpAny _ _ (Builtin.SmallTypes.ownedTupleIsFree (.ref z) >>= _) _ _ _;refine wpAny_bind ?_;unfold Builtin.SmallTypes.ownedTupleIsFree;refine wpAny_bind (wpAny_field gz rfl (x:=.none) rfl (wpAny_pure ?_));simp only[if_true];refine wpAny_bind (wpAny_rule (wpAny_bind (wpAny_field gz rfl (x:=.ref O) rfl (wpAny_bind (wpAny_setField_rec gz (by simp) fun ha za sa=>?_)))))
 replace za:IsZip ha z I O .ellipsis:=za
 refine wpAny_bind ?_;simp only[List.zipIdx_cons,List.zipIdx_nil,w2g,List.forIn_nil];refine wpAny_bind (wpAny_bind (wpAny_onRaise ?_));show wpAny _ _ (Builtin.SmallTypes.nextOf (.ref i) >>= _) _ _ _;refine wpAny_bind (q8i (s:={s with heap:=ha}) (g1.keep fun o e=>sa.extBut _ _ D.iz e) (l1.keep fun o e=>sa.extBut _ _ D.az e) hx fun hb ib sb=>wpAny_pure ?_)
 have Ob:IsPair hb O p q:=sb.extBut _ _ D.Oi (sa.extBut _ _ D.Oz gO);refine wpAny_bind (wpAny_seqItems Ob rfl (wpAny_bind (wpAny_updateSeq_pair Ob fun hc Oc sc=>?_)))
 replace Oc:IsPair hc O x q:=Oc
 refine wpAny_bind (wpAny_letGo (wpAny_pure (wpAny_bind (wpAny_bind (wpAny_onRaise ?_)))));show wpAny _ _ (Builtin.SmallTypes.nextOf (.ref j) >>= _) _ _ _;refine wpAny_bind (q8i (s:={s with heap:=hc}) (g2.keep fun o e=>sc.extBut _ _ D.Oj.symm (sb.extBut _ _ D.ij.symm (sa.extBut _ _ D.jz e))) (l2.keep fun o e=>sc.extBut _ _ D.bO (sb.extBut _ _ D.bi (sa.extBut _ _ D.bz e))) hy fun hd jd sd=>wpAny_pure ?_)
 have Od:IsPair hd O x q:=sd.extBut _ _ D.Oj Oc;refine wpAny_bind (wpAny_seqItems Od rfl (wpAny_bind (wpAny_updateSeq_pair Od fun he Oe se=>?_)))
 replace Oe:IsPair he O x y:=Oe
 refine wpAny_bind (wpAny_letGo (wpAny_pure (wpAny_pure (wpAny_bind (wpAny_seqItems Oe rfl (wpAny_bind (wpAny_newTuple ?_)))))));have sz:he.objs.size=s.heap.objs.size:=by rw[se.1,sd.1,sc.1,sb.1,sa.1]
 have ze:IsZip he z I O .ellipsis:=se.extBut _ _ D.Oz.symm (sd.extBut _ _ D.jz.symm (sc.extBut _ _ D.Oz.symm (sb.extBut _ _ D.iz.symm za)));have ke:∀c o,c≠z->c≠O->c≠i->c≠j->s.heap.get? c=some o->he.get? c=some o:=fun c o c1 c2 c3 c4 e=>se.extBut _ _ c2 (sd.extBut _ _ c4 (sc.extBut _ _ c2 (sb.extBut _ _ c3 (sa.extBut _ _ c1 e))))
 have ie:IsIt t i a (k+1) he:=ib.keep fun o e=>se.extBut _ _ D.Oi.symm (sd.extBut _ _ D.ij (sc.extBut _ _ D.Oi.symm e))
 have je:IsIt u j b (k+1) he:=jd.keep fun o e=>se.extBut _ _ D.Oj.symm e
 have zlt:z<he.objs.size:=Heap.lt_size ze;show wpAny _ _ (Builtin.SmallTypes.ownedTupleHandOut (.ref z) (.ref he.objs.size) >>= _) _ _ _;refine wpAny_bind ?_;unfold Builtin.SmallTypes.ownedTupleHandOut;have zf:IsZip (he.push {cls:=.type "tuple", data:=.seq #[x,y]}) z I O .ellipsis:=Heap.get?_push_of_some _ ze;refine wpAny_bind (wpAny_setField_rec zf (by simp) fun hg zg sg=>?_)
 replace zg:IsZip hg z I O (rawInt he.objs.size):=zg
 refine wpAny_setField_rec zg (by simp) fun hk zk sk=>?_
 replace zk:IsZip hk z I O (rawInt he.objs.size):=zk
 have up:∀c o,c≠z->he.get? c=some o->hk.get? c=some o:=fun c o c1 e=>sk.extBut _ _ c1 (sg.extBut _ _ c1 (Heap.get?_push_of_some _ e))
 have Tk:IsPair hk he.objs.size x y:=sk.extBut _ _ (w2x zlt) (sg.extBut _ _ (w2x zlt) (Heap.get?_push_size _ rfl));have nk:hk.objs.size=he.objs.size+1:=by rw[sk.1,sg.1,Heap.size_push]
 rw[sz]at zk Tk nk;refine wpAny_pure ⟨_,rfl,?_⟩;show Q (.ref he.objs.size) _;rw[sz];exact hQ hk zk (up _ _ D.Oz Oe) (ie.keep fun o e=>up _ o D.iz e) (je.keep fun o e=>up _ o D.jz e) Tk nk fun c o c1 c2 c3 c4 e=>up c o c1 (ke c o c1 c2 c3 c4 e)
theorem y3j{z I O i b:Addr}{u:Bool}{xs:Array Value}{p q:Value}{Q:Fin->Shared->Prop}(hh:A.handled=none)(D:Apart z I O i j a b)
  (gz:IsZip s.heap z I O .none)(gI:IsPair s.heap I (.ref i) (.ref j))(gO:IsPair s.heap O p q)
  (g1:IsIt t i a k s.heap)(g2:IsIt u j b k s.heap)(l1:IsSq t a xs s.heap)(l2:IsSq u b ys s.heap)(hend:xs[k]?=none\/ys[k]?=none)
  (hE:∀h' e,(∀c o,c≠z->c≠O->c≠i->c≠j->s.heap.get? c=some o->h'.get? c=some o)->(∃o,h'.get? e=some o/\o.cls=.type "StopIteration")->E (.ref e) {s with heap:=h'}):
  wpAny (model prog w) A (Builtin.«zip.__next__» ⟨[.ref z],[]⟩) Q E s:=by
 show wpAny _ _ (field (.ref z) 2 >>= _) _ _ _;refine wpAny_bind (wpAny_field gz rfl (x:=.bool false) rfl ?_);show wpAny _ _ (field (.ref z) 3 >>= _) _ _ _;refine wpAny_bind (wpAny_field gz rfl (x:=.ref I) rfl (wpAny_bind (wpAny_seqItems gI rfl ?_)));show wpAny _ _ (Builtin.SmallTypes.ownedTupleIsFree (.ref z) >>= _) _ _ _;refine wpAny_bind ?_;unfold Builtin.SmallTypes.ownedTupleIsFree;refine wpAny_bind (wpAny_field gz rfl (x:=.none) rfl (wpAny_pure ?_));simp only[if_true];refine wpAny_bind (wpAny_rule (wpAny_bind (wpAny_field gz rfl (x:=.ref O) rfl (wpAny_bind (wpAny_setField_rec gz (by simp) fun ha za sa=>?_)))))
 replace za:IsZip ha z I O .ellipsis:=za
 refine wpAny_bind ?_;simp only[List.zipIdx_cons,List.zipIdx_nil,w2g,List.forIn_nil];refine wpAny_bind (wpAny_bind (wpAny_onRaise ?_));show wpAny _ _ (Builtin.SmallTypes.nextOf (.ref i) >>= _) _ _ _;cases hx:xs[k]? with
 |none=>
  refine wpAny_bind (x49 (s:={s with heap:=ha}) hh (g1.keep fun o e=>sa.extBut _ _ D.iz e) (l1.keep fun o e=>sa.extBut _ _ D.az e) hx fun hb e sb ge=>?_)
  obtain⟨oe,hoe,hce⟩:=ge;have zb:IsZip hb z I O .ellipsis:=sb _ _ D.iz.symm za;have nz:e≠z:=fun x=>by subst x;rw[zb]at hoe;cases hoe;simp at hce
  refine wpAny_setField_rec zb (by simp) fun hc _ sc=>hE hc e (fun c o c1 _ c3 _ x=>sc.extBut _ _ c1 (sb _ _ c3 (sa.extBut _ _ c1 x))) ⟨oe,sc.extBut _ _ nz hoe,hce⟩
 |some x=>
  have hy:ys[k]?=none:=by rcases hend with h|h;rw[hx]at h;cases h;exact h
  refine wpAny_bind (q8i (s:={s with heap:=ha}) (g1.keep fun o e=>sa.extBut _ _ D.iz e) (l1.keep fun o e=>sa.extBut _ _ D.az e) hx fun hb ib sb=>wpAny_pure ?_)
  have Ob:IsPair hb O p q:=sb.extBut _ _ D.Oi (sa.extBut _ _ D.Oz gO);refine wpAny_bind (wpAny_seqItems Ob rfl (wpAny_bind (wpAny_updateSeq_pair Ob fun hc Oc sc=>?_)))
  refine wpAny_bind (wpAny_letGo (wpAny_pure (wpAny_bind (wpAny_bind (wpAny_onRaise ?_)))));show wpAny _ _ (Builtin.SmallTypes.nextOf (.ref j) >>= _) _ _ _;refine wpAny_bind (x49 (s:={s with heap:=hc}) hh (g2.keep fun o e=>sc.extBut _ _ D.Oj.symm (sb.extBut _ _ D.ij.symm (sa.extBut _ _ D.jz e))) (l2.keep fun o e=>sc.extBut _ _ D.bO (sb.extBut _ _ D.bi (sa.extBut _ _ D.bz e))) hy fun hd e sd ge=>?_)
  obtain⟨oe,hoe,hce⟩:=ge;have zd:IsZip hd z I O .ellipsis:=sd _ _ D.jz.symm (sc.extBut _ _ D.Oz.symm (sb.extBut _ _ D.iz.symm za));have nz:e≠z:=fun x=>by subst x;rw[zd]at hoe;cases hoe;simp at hce
  refine wpAny_setField_rec zd (by simp) fun he _ se=>hE he e (fun c o c1 c2 c3 c4 x=>se.extBut _ _ c1 (sd _ _ c4 (sc.extBut _ _ c2 (sb.extBut _ _ c3 (sa.extBut _ _ c1 x))))) ⟨oe,se.extBut _ _ nz hoe,hce⟩
theorem x96{z I O i b:Addr}{u:Bool}{xs:Array Value}{x y p q:Value}{Q:Option Value->Shared->Prop}(D:Apart z I O i j a b)
  (gz:IsZip s.heap z I O .none)(gI:IsPair s.heap I (.ref i) (.ref j))(gO:IsPair s.heap O p q)
  (g1:IsIt t i a k s.heap)(g2:IsIt u j b k s.heap)(l1:IsSq t a xs s.heap)(l2:IsSq u b ys s.heap)(hx:xs[k]?=some x)(hy:ys[k]?=some y)
  (hQ:∀h',IsZip h' z I O (rawInt s.heap.objs.size)->IsPair h' O x y->IsIt t i a (k+1) h'->IsIt u j b (k+1) h'->IsPair h' s.heap.objs.size x y->h'.objs.size=s.heap.objs.size+1 ->
   (∀c o,c≠z->c≠O->c≠i->c≠j->s.heap.get? c=some o->h'.get? c=some o)->Q (some (.ref s.heap.objs.size)) {s with heap:=h'}):wpAny (model prog w) A (pyNext (.ref z)) Q E s:=by
 have hT:s.TypeIs (.ref z) "zip":=⟨_,gz,rfl⟩;unfold pyNext;exact wpAny_bind (wpAny_attempt (wpAny_callSpecial?_slot (name:=Str.ofString "__next__") hT F.slot_zip_next (wpAny_call_entry F.slot_zip_next hT F.entry_zip_next (x95 D gz gI gO g1 g2 l1 l2 hx hy fun h' a1 a2 a3 a4 a5 a6 a7=>wpAny_pure (hQ h' a1 a2 a3 a4 a5 a6 a7)) (F.args_zip_next_1 _))))
theorem x97{z I O i b:Addr}{u:Bool}{xs:Array Value}{p q:Value}{Q:Option Value->Shared->Prop}(hh:A.handled=none)(D:Apart z I O i j a b)
  (gz:IsZip s.heap z I O .none)(gI:IsPair s.heap I (.ref i) (.ref j))(gO:IsPair s.heap O p q)
  (g1:IsIt t i a k s.heap)(g2:IsIt u j b k s.heap)(l1:IsSq t a xs s.heap)(l2:IsSq u b ys s.heap)(hend:xs[k]?=none\/ys[k]?=none)
  (hQ:∀h',(∀c o,c≠z->c≠O->c≠i->c≠j->s.heap.get? c=some o->h'.get? c=some o)->Q none {s with heap:=h'}):wpAny (model prog w) A (pyNext (.ref z)) Q E s:=by
 have hT:s.TypeIs (.ref z) "zip":=⟨_,gz,rfl⟩;unfold pyNext;refine wpAny_bind (wpAny_attempt (wpAny_callSpecial?_slot (name:=Str.ofString "__next__") hT F.slot_zip_next (wpAny_call_entry F.slot_zip_next hT F.entry_zip_next (y3j hh D gz gI gO g1 g2 l1 l2 hend fun h' e hk he=>?_) (F.args_zip_next_1 _))))
 obtain⟨o,ho,hc⟩:=he;exact wpAny_bind (wpAny_isInstance (T:="StopIteration") (b:=true) ⟨o,ho,hc⟩ isSubtype_stop (wpAny_pure (hQ _ hk)))
end
noncomputable def itT(t:Bool):String:=if t=true then "tuple_iterator" else "list_iterator"
noncomputable abbrev zq1(t:Bool)(h:Heap)(a:Addr):Heap:=h.push {cls:=.type (itT t),data:=.fields #[.ref a,.int 0 0]}
noncomputable abbrev zq2(t u:Bool)(h:Heap)(a b:Addr):Heap:=(zq1 t h a).push {cls:=.type (itT u),data:=.fields #[.ref b,.int 0 0]}
noncomputable abbrev zq3(t u:Bool)(h:Heap)(a b:Addr):Heap:=(zq2 t u h a b).push {cls:=.type "tuple", data:=.seq #[.ref h.objs.size,.ref (zq1 t h a).objs.size]}
noncomputable abbrev zq4(t u:Bool)(h:Heap)(a b:Addr):Heap:=(zq3 t u h a b).push {cls:=.type "tuple", data:=.seq #[.none,.none]}
noncomputable abbrev zq5(t u:Bool)(h:Heap)(a b:Addr):Heap:=(zq4 t u h a b).push {cls:=.type "zip", data:=.fields #[.none,.bool false,.bool false,.ref (zq2 t u h a b).objs.size,.ref (zq3 t u h a b).objs.size]}
theorem y3k(t u:Bool)(a b:Addr)(xs ys:Array Value):
  Meets (Builtin.«zip.__new__» ⟨[.type "zip", .ref a,.ref b],[]⟩) (fun _ R s=>IsSq t a xs s.heap/\IsSq u b ys s.heap/\R (.ok (.ret (.ref (zq4 t u s.heap a b).objs.size))) {s with heap:=zq5 t u s.heap a b}):=
 .of_wp fun prog w A R s hyp=>by
  obtain⟨hp,g,d,tk,os⟩:=s;obtain⟨g1,g2,h⟩:=hyp;have hsub:=sub_zip;have q2:IsSq u b ys (zq1 t hp a):=g2.keep fun o e=>Heap.get?_push_of_some _ e
  cases t with
  |false=>
   have p1:Heap.IsList (Shared.heap ⟨hp,g,d,tk,os⟩) a xs:=g1;cases u with
   |false=>
    have p2:Heap.IsList (Shared.heap ⟨hp.push {cls:=.type "list_iterator", data:=.fields #[.ref a,.int 0 0]},g,d,tk,os⟩) b ys:=q2
    wp_walk using wpAny_pyIter_list p1,wpAny_pyIter_list p2
    exact⟨_,rfl,h⟩
   |true=>
    have p2:Heap.IsTuple (Shared.heap ⟨hp.push {cls:=.type "list_iterator", data:=.fields #[.ref a,.int 0 0]},g,d,tk,os⟩) b ys:=q2
    wp_walk using wpAny_pyIter_list p1,wpAny_pyIter_tuple p2
    exact⟨_,rfl,h⟩
  |true=>
   have p1:Heap.IsTuple (Shared.heap ⟨hp,g,d,tk,os⟩) a xs:=g1;cases u with
   |false=>
    have p2:Heap.IsList (Shared.heap ⟨hp.push {cls:=.type "tuple_iterator", data:=.fields #[.ref a,.int 0 0]},g,d,tk,os⟩) b ys:=q2
    wp_walk using wpAny_pyIter_tuple p1,wpAny_pyIter_list p2
    exact⟨_,rfl,h⟩
   |true=>
    have p2:Heap.IsTuple (Shared.heap ⟨hp.push {cls:=.type "tuple_iterator", data:=.fields #[.ref a,.int 0 0]},g,d,tk,os⟩) b ys:=q2
    wp_walk using wpAny_pyIter_tuple p1,wpAny_pyIter_tuple p2
    exact⟨_,rfl,h⟩
section
variable{prog:Program}{w:World}{E:Value->Shared->Prop}
theorem x00{h:Heap}{o:Obj}(e:h.get? j=some o)(c:o.cls=.type (itT t))(d:o.data=.fields #[.ref a,.int 0 0]):IsIt t j a 0 h:=by
 cases t with
 |true=>exact(show h.IsTupleIter j a 0 from⟨o,e,c,d⟩)
 |false=>exact(show h.IsListIter j a 0 from⟨o,e,c,d⟩)
theorem x5a{u:Bool}{b:Addr}{xs:Array Value}{Q:Value->Shared->Prop}(g1:IsSq t a xs s.heap)(g2:IsSq u b ys s.heap)
  (h:∀h',IsZip h' (s.heap.objs.size+4) (s.heap.objs.size+2) (s.heap.objs.size+3) .none->IsPair h' (s.heap.objs.size+2) (.ref s.heap.objs.size) (.ref (s.heap.objs.size+1)) ->
   IsPair h' (s.heap.objs.size+3) .none .none->IsIt t s.heap.objs.size a 0 h'->IsIt u (s.heap.objs.size+1) b 0 h'->(∀c o,s.heap.get? c=some o->h'.get? c=some o)->Q (.ref (s.heap.objs.size+4)) {s with heap:=h'}):
  wpAny (model prog w) A (call (.type "zip") [.ref a,.ref b]) Q E s:=by
 refine callType_new F.called_zip (by decide) (F.typeCall_zip_2 _ _) (F.newCall_zip_2 _ _) (fun obj=>F.args_object_init_3 obj _ _) F.entry_zip_new (y3k t u a b xs ys) ⟨g1,g2,?_⟩
 have n1:(zq1 t s.heap a).objs.size=s.heap.objs.size+1:=Heap.size_push ..;have n2:(zq2 t u s.heap a b).objs.size=s.heap.objs.size+2:=by rw[Heap.size_push,n1]
 have n3:(zq3 t u s.heap a b).objs.size=s.heap.objs.size+3:=by rw[Heap.size_push,n2]
 have n4:(zq4 t u s.heap a b).objs.size=s.heap.objs.size+4:=by rw[Heap.size_push,n3]
 have k5:(zq5 t u s.heap a b).get? (zq4 t u s.heap a b).objs.size=some _:=Heap.get?_push_size _ rfl;have k4:(zq5 t u s.heap a b).get? (zq3 t u s.heap a b).objs.size=some _:=Heap.get?_push_of_some _ (Heap.get?_push_size _ rfl);have k3:(zq5 t u s.heap a b).get? (zq2 t u s.heap a b).objs.size=some _:=Heap.get?_push_of_some _ (Heap.get?_push_of_some _ (Heap.get?_push_size _ rfl));have k2:(zq5 t u s.heap a b).get? (zq1 t s.heap a).objs.size=some _:=Heap.get?_push_of_some _ (Heap.get?_push_of_some _ (Heap.get?_push_of_some _ (Heap.get?_push_size _ rfl)));have k1:(zq5 t u s.heap a b).get? s.heap.objs.size=some _:=Heap.get?_push_of_some _ (Heap.get?_push_of_some _ (Heap.get?_push_of_some _ (Heap.get?_push_of_some _ (Heap.get?_push_size _ rfl))));have up:∀c o,s.heap.get? c=some o->(zq5 t u s.heap a b).get? c=some o:=fun c o e=>Heap.get?_push_of_some _ (Heap.get?_push_of_some _ (Heap.get?_push_of_some _ (Heap.get?_push_of_some _ (Heap.get?_push_of_some _ e))))
 show _/\_;rw[n2,n3,n4]at k5;rw[n1,n2]at k3;rw[n3]at k4;rw[n1]at k2;rw[n4];exact⟨⟨_,k5,rfl⟩,h _ k5 k3 k4 (x00 k1 rfl rfl) (x00 k2 rfl rfl) up⟩
end
section
variable{e1 e2:Expr}{pt:Pos}
def SqG(K:PySem.W.Frag)(t:Bool)(H:Hp)(a:Addr)(xs:List V):Prop:=if t=true then SqT K H a xs else SqL K H a xs
theorem q4l(I:Inv X pins σ H s)(h:SqG X.K t H a xs):∃its:List Value,Vals xs its/\IsSq t a its.toArray s.heap:=by
 cases t with
 |true=>
  obtain⟨its,r,p,_⟩:=I.tuple h;exact⟨its,r,(show s.heap.IsTuple a its.toArray from p)⟩
 |false=>
  obtain⟨its,r,p,_⟩:=I.list h;exact⟨its,r,p.isList⟩
theorem x5b{ys:List V}(I:Inv X pins σ H s)(h:SqG X.K t H a xs)(h':SqG X.K t H a ys):xs=ys:=by
 cases t with
 |true=>exact I.tuple_inj h h'
 |false=>exact I.list_inj h h'
theorem IsSq.obj{h:Heap}(x:IsSq t a vs h):∃o,h.get? a=some o/\o.cls=.type (if t=true then "tuple" else "list"):=by
 cases t with
 |true=>obtain⟨o,ho,c,_⟩:=(show h.IsTuple a vs from x);exact⟨o,ho,c⟩
 |false=>obtain⟨o,ho,c,_⟩:=(show h.IsList a vs from x);exact⟨o,ho,c⟩
theorem x1u{t':Nat}{fp:List Addr}(I:Inv X pins σ H s)(k:∀b o,b∉fp->s.heap.get? b=some o->h'.get? b=some o)(hf:∀b∈fp,FpOk X pins H b):Inv X pins σ H {s with heap:=h',toks:=t'}:=by
 have nfp:∀c u,H c=some u->c∉fp:=fun c u e z=>by rw[(hf c z).1]at e;cases e
 refine I.step (g':=s.gens) (d':=s.drawn) (ch:=fp) (fun c hc=>?_) (fun c o _ _ hc e _=>k c o hc e) (fun c o _ _ hc e _=>⟨o.slots,k c o hc e⟩) (fun c o _ e n=>n)
  (fun c o hc e=>⟨o,k c o hc e⟩) (fun c xs e=>e) (fun c o u e=>e) (fun c ps e=>⟨#[],by rw[e];simp⟩) (fun m hm=>?_) (fun c u e=>?_) I.bare
 ·obtain⟨f0,f1,f2,f3,f4,f5⟩:=hf c hc;exact⟨f3,f1,f4,f5⟩
 ·obtain⟨o,es,ep,ho,r⟩:=hm;exact⟨o,es,ep,k _ o (fun z=>(hf _ z).2.1 rfl) ho,r⟩
 ·refine(I.hok c u e).stay (fun d v hd q=>k d v ?_ q) (fun d q=>q) fun d xs _ q=>q
  rcases hd with z|z
  ·rw[z];exact nfp c u e
  ·exact nfp d _ z
noncomputable def Itz(K:PySem.W.Frag)(t u:Bool)(a b:Addr):It:=
  ⟨fun i H=>∃xs ys x y,SqG K t H a xs/\SqG K u H b ys/\xs[i]?=some x/\ys[i]?=some y,
   fun i H v H'=>∃c x y,v=.ref c/\H c=none/\(∀xs,SqG K t H a xs->xs[i]?=some x)/\(∀ys,SqG K u H b ys->ys[i]?=some y)/\H'=upd H c (.tup [x,y]),
   fun i H=>∃xs ys,SqG K t H a xs/\SqG K u H b ys/\(xs.length<=i\/ys.length<=i)⟩
theorem x7d{w:World}(t u:Bool)(a b z I O i j:Addr)(D:Apart z I O i j a b):
  Turn P w K (.Tuple elts kt pt) (Itz K t u a b) [z,I,O,i,j] z (fun k h=>IsZip h z I O .none/\IsPair h I (.ref i) (.ref j)/\(∃p q,IsPair h O p q)/\IsIt t i a k h/\IsIt u j b k h) where
 mem:=by simp
 obj:=fun k h ⟨s1,s2,⟨p,q,s3⟩,s4,s5⟩ c hc=>by
  simp only[w0s,w1k,or_false]at hc;rcases hc with rfl|rfl|rfl|rfl|rfl
  ·exact⟨_,s1,fun v z=>by cases z⟩
  ·exact⟨_,s2,fun v z=>by cases z⟩
  ·exact⟨_,s3,fun v z=>by cases z⟩
  ·exact s4.obj
  ·exact s5.obj
 keep:=fun k h h' ⟨s1,s2,⟨p,q,s3⟩,s4,s5⟩ f=>⟨f z (by simp) _ s1,f I (by simp) _ s2,⟨p,q,f O (by simp) _ s3⟩,s4.keep fun o e=>f i (by simp) o e,s5.keep fun o e=>f j (by simp) o e⟩
 item:=by
  intro X hP hw hK hc k pins s σ H E Iv hf st hg;subst hP hw hK;obtain⟨s1,s2,⟨p,q,s3⟩,s4,s5⟩:=st;obtain⟨xs,ys,x,y,q1,q2,hx,hy⟩:=hg;obtain⟨is1,r1,p1⟩:=q4l Iv q1;obtain⟨is2,r2,p2⟩:=q4l Iv q2;obtain⟨ux,hux,rux⟩:=r1.get hx;obtain⟨uy,huy,ruy⟩:=r2.get hy;refine x96 D s1 s2 s3 s4 s5 p1 p2 (x:=ux) (y:=uy) (by simpa using hux) (by simpa using huy) fun h1 z1 o1 i1 j1 t1 n1 k1=>⟨_,rfl,?_⟩
  refine wpAny_letOwnedTupleGo_zip z1 fun h2 z2 b2=>?_
  have b2:Heap.SameBut z h1 h2:=b2;have zlt:z<s.heap.objs.size:=Heap.lt_size s1;have hfr:H s.heap.objs.size=none:=Iv.hok.fresh (w0d _);have t2:IsPair h2 s.heap.objs.size ux uy:=(b2.2 _ (w2x zlt)).trans t1;have I1:IsPair h1 I (.ref i) (.ref j):=k1 I _ D.Iz D.IO D.Ii D.Ij s2;refine⟨.ref s.heap.objs.size,upd H s.heap.objs.size (.tup [x,y]),?_,rfl,⟨_,x,y,rfl,hfr,fun xs' h'=>by rw[x5b Iv h' q1];exact hx,fun ys' h'=>by rw[x5b Iv h' q2];exact hy,rfl⟩,⟨z2,(b2.2 _ D.Iz).trans I1,⟨ux,uy,(b2.2 _ D.Oz).trans o1⟩,i1.keep fun o e=>(b2.2 _ D.iz).trans e,j1.keep fun o e=>(b2.2 _ D.jz).trans e⟩,fun c hc=>?_⟩
  ·show L2.Inv X pins σ _ {s with heap:=h2,toks:=s.toks};refine q9f (fp:=[z,I,O,i,j]) Iv (fun c o hc q=>?_) hf (w0d _) ⟨?_,[ux,uy],.cons rux (.cons ruy .nil),⟨_,t2,rfl,?_⟩,⟨_,t2,rfl⟩⟩
   ·simp only[w0s,w1k,or_false,not_or]at hc;exact(b2.2 c hc.1).trans (k1 c o hc.1 hc.2.2.1 hc.2.2.2.1 hc.2.2.2.2 q)
   ·rw[sizeLine_eq];simp
   ·exact⟨_,rfl⟩
  ·have:c≠s.heap.objs.size:=by
    obtain⟨o,q,_⟩:∃o,s.heap.get? c=some o/\True:=by
     simp only[w0s,w1k,or_false]at hc;rcases hc with rfl|rfl|rfl|rfl|rfl
     ·exact⟨_,s1,trivial⟩
     ·exact⟨_,s2,trivial⟩
     ·exact⟨_,s3,trivial⟩
     ·obtain⟨o,e,_⟩:=s4.obj;exact⟨o,e,trivial⟩
     ·obtain⟨o,e,_⟩:=s5.obj;exact⟨o,e,trivial⟩
    exact w0p (Heap.lt_size q)
   rw[q0b this];exact(hf c hc).1
 done:=by
  intro X hP hw hK hc k pins s σ H E Iv hf st hg;subst hP hw hK;obtain⟨s1,s2,⟨p,q,s3⟩,s4,s5⟩:=st;obtain⟨xs,ys,q1,q2,hlen⟩:=hg;obtain⟨is1,r1,p1⟩:=q4l Iv q1;obtain⟨is2,r2,p2⟩:=q4l Iv q2;have l1:=r1.length;have l2:=r2.length;refine x97 (Iv.ok.hd hc) D s1 s2 s3 s4 s5 p1 p2 (by rcases hlen with h|h;left;simp;omega;right;simp;omega) fun h' k1=>⟨rfl,?_⟩
  have hfp:∀c∈[z,I,O,i,j],FpOk X pins H c:=hf;refine x1u (fp:=[z,I,O,i,j]) (t':=s.toks) Iv (fun c o hc q=>?_) hfp
  simp only[w0s,w1k,or_false,not_or]at hc;exact k1 c o hc.1 hc.2.2.1 hc.2.2.2.1 hc.2.2.2.2 q
 self:=fun _ _ _ _ _ ⟨s1,_⟩ h=>wpAny_pyIter_zip s1 h
end
theorem x5c(n a b:Nat)(ha:a<n)(hb:b<n):Apart (n+4) (n+2) (n+3) n (n+1) a b where
 Iz:=by show ¬(n+2:Nat)=n+4;omega
 Oz:=by show ¬(n+3:Nat)=n+4;omega
 iz:=by show ¬(n:Nat)=n+4;omega
 jz:=by show ¬(n+1:Nat)=n+4;omega
 IO:=by show ¬(n+2:Nat)=n+3;omega
 Ii:=by show ¬(n+2:Nat)=n;omega
 Ij:=by show ¬(n+2:Nat)=n+1;omega
 Oi:=by show ¬(n+3:Nat)=n;omega
 Oj:=by show ¬(n+3:Nat)=n+1;omega
 ij:=by show ¬(n:Nat)=n+1;omega
 az:=by show ¬(a:Nat)=n+4;omega
 aO:=by show ¬(a:Nat)=n+3;omega
 ai:=by show ¬(a:Nat)=n;omega
 aj:=by show ¬(a:Nat)=n+1;omega
 bz:=by show ¬(b:Nat)=n+4;omega
 bO:=by show ¬(b:Nat)=n+3;omega
 bi:=by show ¬(b:Nat)=n;omega
 bj:=by show ¬(b:Nat)=n+1;omega
section
variable{a1 a2:Expr}{pt:Pos}
def iZip(K:PySem.W.Frag)(ta:TA):TI:=fun σ H R=>ta σ H fun vs H1=>∃t u a b,vs=[.ref a,.ref b]/\(∃xs,SqG K t H1 a xs)/\(∃ys,SqG K u H1 b ys)/\R (Itz K t u a b) H1
theorem y3l{ta:TA}{p:Pos}(hg:Gl X "zip")(hm:X.mg "zip"=none)(ha:PA X [a1,a2] ta)(hs:starEach [a1,a2] X.env=[(false,eval a1 X.env),(false,eval a2 X.env)]:=by rfl)(hs2:starEach [a2] X.env=[(false,eval a2 X.env)]:=by rfl):
  PI X (.Tuple elts kt pt) (.Call (.Name "zip" p) [a1,a2] [] pos) (iZip X.K ta):=by
 intro pins s σ H R I h;refine PyProof.Rows.Call_ (q3o I hg hm PyProof.Rows.boot_zip (PyProof.Rows.callWith_type1 (thn (ha pos pins s σ H _ I h) fun us s1 ⟨vs,H1,I1,r1,q1⟩=>?_) (by rw[hs,hs2]) (by rw[hs2];rfl)))
 obtain⟨t,u,a,b,e,⟨xs,hx⟩,⟨ys,hy⟩,q⟩:=q1;subst e;cases r1 with
 |cons r rr=>
  cases rr with
  |cons r' rr=>
   cases rr;cases r;cases r';obtain⟨is1,v1,p1⟩:=q4l I1 hx;obtain⟨is2,v2,p2⟩:=q4l I1 hy;obtain⟨oa,ea,_⟩:=p1.obj;obtain⟨ob,eb,_⟩:=p2.obj;have la:=Heap.lt_size ea;have lb:=Heap.lt_size eb;refine x5a p1 p2 fun h' z1 i1 o1 k1 k2 up=>?_
   refine wpAny_pyIter_zip z1 ?_
   have D:Apart (s1.heap.objs.size+4) (s1.heap.objs.size+2) (s1.heap.objs.size+3) s1.heap.objs.size (s1.heap.objs.size+1) a b:=by
    have la':(a:Nat)<s1.heap.objs.size:=la;have lb':(b:Nat)<s1.heap.objs.size:=lb;generalize s1.heap.objs.size=n at la' lb';exact x5c n a b la' lb'
   refine⟨s1.heap.objs.size+4,[s1.heap.objs.size+4,s1.heap.objs.size+2,s1.heap.objs.size+3,s1.heap.objs.size,s1.heap.objs.size+1],_,_,H1,rfl,I1.kept (t':=s1.toks) up,x7d t u a b _ _ _ _ _ D,⟨z1,i1,⟨_,_,o1⟩,k1,k2⟩,fun c hc=>?_,q⟩
   simp only[w0s,w1k,or_false]at hc;rcases hc with rfl|rfl|rfl|rfl|rfl<;>exact I1.fpOk (by omega) (I1.hok.fresh (by omega))
noncomputable def srcZ(dA:Den (List W)):Den (List (W×W)):=fun e=>(dA e).bind fun ws e1=>match ws with
 |[x,y]=>match seqW x,seqW y with
  |some us,some vs=>.ok (us.zip vs) e1
  |_,_=>.no
 |_=>.no
theorem x2q(h:seqW w=some us)(p:Rep K G w v):∃t a xs,v=.ref a/\SqG K t G a xs/\Reps K G us xs:=by
 cases w with
 |tup l=>
  cases h;obtain⟨a,xs,rfl,hq,rp⟩:=p;exact⟨true,a,xs,rfl,hq,rp⟩
 |lst l=>
  cases h;obtain⟨a,xs,rfl,hq,rp⟩:=p;exact⟨false,a,xs,rfl,hq,rp⟩
 |_=>cases h
theorem q1j(s:Same G H)(h:SqG K t G a xs):SqG K t H a xs:=by
 cases t with
 |true=>exact s.tup h
 |false=>exact s.seq h
theorem x5d{u:Bool}{b:Addr}{vs:List W}{ys:List V}(r1:Reps K G1 us xs)(r2:Reps K G1 vs ys)(h1:SqG K t G1 a xs)(h2:SqG K u G1 b ys):Walk2 K G1 (Itz K t u a b) (us.zip vs):=by
 have l1:=r1.length;have l2:=r2.length;have lz:(us.zip vs).length=min us.length vs.length:=List.length_zip ..;refine⟨fun i G H s s' h=>⟨xs,ys,xs[i]'(by omega),ys[i]'(by omega),q1j s' (q1j s h1),q1j s' (q1j s h2),by simp,by simp⟩,fun i G H x H' s s' hy p q h=>?_,fun i G H s s' h=>⟨xs,ys,q1j s' (q1j s h1),q1j s' (q1j s h2),by omega⟩⟩
 obtain⟨c,x1,y1,rfl,hn,hx1,hy1,rfl⟩:=hy;obtain⟨hu,hv⟩:=List.getElem?_zip_eq_some.mp h;obtain⟨w1,hw1,pw1⟩:=r1.getV (hx1 xs (q1j s' (q1j s h1)));obtain⟨w2,hw2,pw2⟩:=r2.getV (hy1 ys (q1j s' (q1j s h2)));rw[hu]at hw1;rw[hv]at hw2;cases hw1;cases hw2;exact⟨Grow.hid s' hn _,fun m n σ Q hQ=>⟨c,[x1,y1],rfl,SqT.of q0g,rfl,x1,[y1],rfl,y1,[],rfl,rfl,hQ _ _ (Rep.mono s _ pw1) (Rep.mono s _ pw2)⟩⟩
theorem y3m{p:Pos}(hm:X.mg "zip"=none)(ha:DA Z X EE [a1,a2] dA)(hg:Gl X "zip":=by rfl)(hs:starEach [a1,a2] X.env=[(false,eval a1 X.env),(false,eval a2 X.env)]:=by rfl)(hs2:starEach [a2] X.env=[(false,eval a2 X.env)]:=by rfl):
  DI Z X EE (.Tuple elts kt pt) (.Call (.Name "zip" p) [a1,a2] [] pos) (srcZ dA):=by
 refine PI.mono (y3l hg hm ha hs hs2) ?_;rintro σ H RR ⟨G,e,rel,h⟩;simp only[srcZ,R.holds_bind]at h;refine⟨G,e,rel,h.imp (fun ws e1 h G1 vs H1 r1 s1 p1=>?_) fun _ _ h=>h⟩
 split at h
 ·rename_i w1 w2;split at h
  ·rename_i us ws hu hw;obtain⟨y1,r,rfl,q1,y2,r',rfl,q2,q3⟩:=p1;cases(show r'=[]from q3);obtain⟨t,a,xs,rfl,hx,rx⟩:=x2q hu q1;obtain⟨u,b,ys,rfl,hy,ry⟩:=x2q hw q2;exact⟨t,u,a,b,rfl,⟨xs,q1j r1.sub hx⟩,⟨ys,q1j r1.sub hy⟩,h _ _ _ r1 s1 (x5d rx ry hx hy)⟩
  ·exact h.elim
 ·exact h.elim
end
section
variable{vs:List W}
noncomputable def srcZW(e:List S):List W->R (List (W×W))
 |[x,y]=>match seqW x,seqW y with
  |some us,some vs=>.ok (us.zip vs) e
  |_,_=>.no
 |_=>.no
theorem y3n:srcZ dA e=(dA e).bind fun ws e1=>srcZW e1 ws:=by
 unfold srcZ;congr 1
theorem x7e:srcZW e [.tup us,.tup vs]=.ok (us.zip vs) e:=rfl
theorem x7f:srcZW e [.lst us,.lst vs]=.ok (us.zip vs) e:=rfl
theorem x7g:srcZW e [.tup us,.lst vs]=.ok (us.zip vs) e:=rfl
theorem x7h:srcZW e [.lst us,.tup vs]=.ok (us.zip vs) e:=rfl
end
noncomputable def insI(x:Int):List Int->List Int
 |[]=>[x]
 |y::ys=>if x<=y then x::y::ys else y::insI x ys
noncomputable def sortI:List Int->List Int
 |[]=>[]
 |x::xs=>insI x (sortI xs)
theorem q5q(x:Int):∀l:List Int,(insI x l).Perm (x::l)
 |[]=>.refl _
 |y::ys=>by
  unfold insI;split
  ·exact .refl _
  ·exact((q5q x ys).cons y).trans (.swap x y ys)
theorem q2j:∀l:List Int,(sortI l).Perm l
 |[]=>.refl _
 |x::xs=>(q5q x _).trans ((q2j xs).cons x)
theorem q6e{x:Int}:∀{l:List Int},l.Pairwise (·<=·)->(insI x l).Pairwise (·<=·)
 |[],_=>by simp[insI]
 |y::ys,h=>by
  unfold insI;rw[w2h]at h;split
  ·rename_i hxy;refine w2h.mpr ⟨fun z hz=>?_,w2h.mpr h⟩
   rcases w0s.mp hz with rfl|hz
   ·exact hxy
   ·exact Int.le_trans hxy (h.1 z hz)
  ·rename_i hxy;refine w2h.mpr ⟨fun z hz=>?_,q6e h.2⟩
   rcases w0s.mp ((q5q x ys).mem_iff.mp hz)with rfl|hz
   ·omega
   ·exact h.1 z hz
theorem q5r:∀l:List Int,(sortI l).Pairwise (·<=·)
 |[]=>.nil
 |x::xs=>q6e (q5r xs)
theorem q9u{l l':List Int}(p:l.Perm l')(h:l.Pairwise (·<=·))(h':l'.Pairwise (·<=·)):l=l':=p.eq_of_pairwise (fun a b _ _ h1 h2=>Int.le_antisymm h1 h2) h h'
theorem x01:∀{ys:List Int}{its:List Value},Vals (ys.map V.int) its->PyProof.Rows.IntsAre its ys
 |[],its,h=>by cases h;exact .nil
 |y::ys,its,h=>by
  cases h with
  |cons r t=>
   obtain⟨k,rfl⟩:=r;exact .cons y k (x01 t)
theorem x02:∀{ys:List Int}{its:List Value},PyProof.Rows.IntsAre its ys->Vals (ys.map V.int) its
 |_,_,.nil=>.nil
 |_,_,.cons n t h=>.cons ⟨_,rfl⟩ (x02 h)
theorem x1v:CallR X (.builtin "sorted") (fun xs H Q=>∃p ns,xs=[.ref p]/\SqL X.K H p (ns.map V.int)/\ns.length<64/\∀b,H b=none->Q (.ref b) (upd H b (.lst ((sortI ns).map V.int)))):=by
 intro pins s σ H xs us Q I r h;obtain⟨p,ns,rfl,hq,hn,q⟩:=h;obtain⟨u,rfl,ru⟩:=vals1 r;cases ru;obtain⟨its,rv,pl,hz⟩:=I.list hq;have hlen:=rv.length;rw[w0a]at hlen;refine PyProof.Rows.sorted_ints pl.isList (x01 rv) (by omega) fun out ns' a1 a2 a3=>?_
 have e:ns'=sortI ns:=q9u (a2.trans (q2j ns).symm) a3 (q5r ns);subst e;obtain⟨n,hat⟩:=PyProof.Rows.sortedAll_at s.heap its out;have fr:H (s.heap.objs.size+1)=none:=I.hok.fresh (w3o _);refine⟨.ref (s.heap.objs.size+1),_,I.laid (t':=s.toks) (a:=s.heap.objs.size+1) (o:=.lst ((sortI ns).map V.int)) (fun b ob z=>PyProof.Rows.sortedAll_old z) (w3o _) ?_,rfl,q _ fr⟩
 refine⟨?_,out.toList,n,x02 a1,?_⟩
 ·rw[w0a,(q2j ns).length_eq,sizeLine_eq];omega
 ·rw[hat]
noncomputable def sorted1:List W->Option W
 |[.lst ws]=>match intsW ws with
  |some ns=>if ns.length<64 then some (.lst ((sortI ns).map .int))else none
  |none=>none
 |_=>none
theorem x5e:OpN K (fun xs H Q=>∃p ns,xs=[.ref p]/\SqL K H p (ns.map V.int)/\ns.length<64/\∀b,H b=none->Q (.ref b) (upd H b (.lst ((sortI ns).map V.int)))) sorted1:=by
 intro G H xs ws w Q s pr hf h;unfold sorted1 at hf;split at hf
 ·rename_i us;obtain⟨y,r,rfl,py,pr⟩:=pr;cases(show r=[]from pr);split at hf
  ·rename_i ns hns;split at hf
   ·rename_i hl;cases hf;obtain⟨a,cs,rfl,hq,rp⟩:=py;have:=x0y hns rp;subst this;refine⟨a,ns,rfl,s.seq hq,hl,fun b hb=>?_⟩
    exact h _ _ _ (Grow.laid s hb _) ⟨b,_,rfl,SqL.of q0g,q5n _⟩
   ·cases hf
  ·cases hf
 ·cases hf
section
variable{e:Expr}{p:Pos}
theorem x5f(hc:X.calm=true)(hm:X.mg "sorted"=none)(ha:DA Z X EE [e] dA)(hg:Gl X "sorted":=by rfl)(he:starEach [e] X.env=(false,eval e X.env)::starEach [] X.env:=by rfl)(hpl:(backTo pos (starEach [] X.env)).any (·.1)=false:=by rfl):DE Z X EE (.Call (.Name "sorted" p) [e] [] pos) (dFn sorted1 dA):=
 x0i x1v x5e PyProof.Rows.Boot.«sorted» hm ha hg (by decide) (by decide) he hpl
end
theorem x2r:∀ns:List Int,intsW (ns.map .int)=some ns
 |[]=>rfl
 |n::ns=>by rw[w0n];show(intsW (ns.map .int)).map (n::·)=_;rw[x2r ns];rfl
theorem x03{ns:List Int}(h:ns.length<64):sorted1 [.lst (ns.map .int)]=some (.lst ((sortI ns).map .int)):=by
 show(match intsW (ns.map .int)with|some ns=>if ns.length<64 then some (W.lst ((sortI ns).map .int))else none|none=>none)=_;rw[x2r];exact if_pos h
noncomputable def hide1:S->S
 |.own _ ws=>.fr (.lst ws)
 |.dic kvs=>.fr (.dic kvs)
 |.thr us ws vs=>.fr (.tup (us++.lst ws::vs))
 |.nest wss=>.fr (.lst (wss.map W.lst))
 |.x (.old w)=>.fr w
 |.x (.new w)=>.fr w
 |.x (.acc ws)=>.fr (.lst ws)
 |.x (.thro us ws vs)=>.fr (.tup (us++.lst ws::vs))
 |.x (.tn us wss)=>.fr (.tup (us++[.lst (wss.map W.lst)]))
 |.x (.pt _ _ _)=>.no
 |.dw sh ks ws=>.fr (.dw false sh ks ws)
 |s=>s
theorem NestIn.reps{G':Hp}(sg:Same G G')(hf:∀l o ys,FzAt Z G H l o ys->G' l=some (.frz o (.lst ys))):∀{ls:List Addr}{wss:List (List W)},NestIn K Z G H ls wss->Reps K G' (wss.map W.lst) (ls.map V.ref)
 |[],[],_=>rfl
 |l::ls,ws::wss,⟨⟨o,ys,h1,h4⟩,h⟩=>⟨.ref l,ls.map V.ref,rfl,⟨l,ys,rfl,.inl (.inr ⟨o,hf l o ys h1⟩),Reps.mono sg ws h4⟩,h.reps sg hf⟩
 |[],_::_,h=>h.elim
 |_::_,[],h=>h.elim
noncomputable def hideS(e:List S):List S:=e.map hide1
noncomputable def borrowR(e:List S):R W->R W
 |.ok w _=>if scalW w=true then .ok w e else .no
 |.ex c _=>.ex c e
 |.no=>.no
noncomputable def dBorrow(d:Den W):Den W:=fun e=>borrowR e (d (hideS e))
noncomputable def borrowT(e:List S):R Bool->R Bool
 |.ok b _=>.ok b e
 |.ex c _=>.ex c e
 |.no=>.no
noncomputable def dBorrowT(d:Den Bool):Den Bool:=fun e=>borrowT e (d (hideS e))
theorem Rel.hide(r:Rel K Z G σ H e):Rel K ⟨H,H,[]⟩ H σ H (hideS e):=by
 have g:∀(i:Nat)(s:S),(hideS e)[i]?=some s->∃s0,e[i]?=some s0/\s=hide1 s0:=fun i s h=>by
  unfold hideS at h;rw[w1a]at h;obtain⟨s0,h1,h2⟩:=w0m.mp h;exact⟨s0,h1,h2.symm⟩
 refine⟨.refl _,fun i s h=>?_,by unfold hideS;rw[w0a];exact r.len,fun i j b b' ws ws' a h1 _ _ _=>?_,fun a o h _=>h,(fun a h=>nomatch h),fun a _=>rfl⟩
 ·obtain⟨s0,h0,rfl⟩:=g i s h;have q:=r.slot i s0 h0;cases s0 with
  |no=>trivial
  |fr w=>
   obtain⟨u,q1,q2⟩:=q;exact⟨u,q1,Rep.mono r.sub w q2⟩
  |own b ws=>
   obtain⟨a,xs,q1,q2,q3,q4,q5⟩:=q;exact⟨.ref a,q1,a,xs,rfl,SqL.of q2,Reps.mono r.sub ws q5⟩
  |dic kvs=>
   obtain⟨a,q1,q2,_⟩:=q;exact⟨.ref a,q1,a,rfl,q2⟩
  |thr us ws vs=>
   obtain⟨t,l,o,xs,ys,zs,q1,q2,q3,_,_,q6,q7,q8⟩:=q;exact⟨.ref t,q1,t,_,rfl,SqT.of (r.sub _ _ q2),(Reps.mono r.sub us q6).append ⟨.ref l,zs,rfl,⟨l,ys,rfl,.inl (.inr ⟨o,q3⟩),Reps.mono r.sub ws q7⟩,Reps.mono r.sub vs q8⟩⟩
  |nest wss=>
   obtain⟨a,ls,q1,q2,_,q4⟩:=q;exact⟨.ref a,q1,a,_,rfl,SqL.of (r.sub _ _ q2),q4.reps r.sub fun l o ys z=>z.1⟩
  |x k=>
   cases k with
   |old w=>obtain⟨u,q1,_,q2⟩:=q;exact⟨u,q1,Rep.mono r.sub w q2⟩
   |new w=>obtain⟨u,q1,q2⟩:=q;exact⟨u,q1,Rep.mono r.sub w (RepN.rep w q2)⟩
   |acc ws=>obtain⟨a,o,xs,q1,q2,q3⟩:=q;exact⟨.ref a,q1,a,xs,rfl,.inl (.inr ⟨o,q2.1⟩),Reps.mono r.sub ws (RepNs.reps ws q3)⟩
   |thro us ws vs=>
    obtain⟨t,l,o,xs,ys,zs,q1,_,q2,q3,_,q6,q7,q8⟩:=q;exact⟨.ref t,q1,t,_,rfl,SqT.of (r.sub _ _ q2),(Reps.mono r.sub us q6).append ⟨.ref l,zs,rfl,⟨l,ys,rfl,.inl (.inr ⟨o,q3.1⟩),Reps.mono r.sub ws q7⟩,Reps.mono r.sub vs q8⟩⟩
   |tn us wss=>
    obtain⟨t,l,o,ls,xs,q1,q2,q3,_,q5,q6⟩:=q;exact⟨.ref t,q1,t,_,rfl,SqT.of (r.sub _ _ q2),(Reps.mono r.sub us q5).append ⟨.ref l,[],rfl,⟨l,_,rfl,.inl (.inr ⟨o,q3.1⟩),q6.reps r.sub fun l o ys z=>z.1⟩,rfl⟩⟩
   |pt _ _ _=>trivial
  |dw sh ks ws=>
   obtain⟨a,kvs,kas,q1,q2,_,_,q5,q6,q7⟩:=q;exact⟨.ref a,q1,a,kvs,kas,rfl,q2,q5,q6.mono r.sub,Reps.mono r.sub ws q7⟩
 ·obtain⟨s0,_,h2⟩:=g i _ h1;cases s0 with
  |x k=>cases k<;>cases h2
  |_=>cases h2
theorem Rel.back{G2 H2:Hp}{e2:List S}(r:Rel K Z G σ H e)(r2:Rel K ⟨H,H,[]⟩ G2 σ H2 e2):Rel K Z G σ H2 e:=by
 have hh:Same H H2:=fun a o h=>r2.ent a o h (fun z=>nomatch z)
 exact r.grow ⟨hh,.refl _,fun a o h=>hh a o (r.sub a o h),fun _ _=>rfl⟩
theorem x7i{G':Hp}(h:scalW w=true)(p:Rep K G w v):Rep K G' w v:=by
 cases w with
 |non=>exact p
 |bl b=>exact p
 |int b=>exact p
 |str b=>exact p
 |_=>cases h
section
variable{e:Expr}
theorem x5g(he:∀Z',DE Z' X EE e d):DE Z X EE e (dBorrow d):=by
 intro pins s σ H Q I hq;obtain⟨G,e0,rel,h⟩:=hq;refine he ⟨H,H,[]⟩ pins s σ H Q I ⟨H,hideS e0,rel.hide,?_⟩;unfold dBorrow borrowR at h;cases q:d (hideS e0)with
 |ok w e2=>
  rw[q]at h;dsimp only at h;split at h
  ·rename_i hs;intro G2 v H2 r2 s2 p;exact h G v H2 (rel.back r2) (.refl _) (x7i hs p)
  ·exact h.elim
 |ex k e2=>
  rw[q]at h;intro G2 H2 r2 s2;exact h G H2 (rel.back r2) (.refl _)
 |no=>rw[q]at h;exact h.elim
theorem x5h(he:∀Z',DT Z' X EE e c):DT Z X EE e (dBorrowT c):=by
 intro pins s σ H Q I hq;obtain⟨G,e0,rel,h⟩:=hq;refine he ⟨H,H,[]⟩ pins s σ H Q I ⟨H,hideS e0,rel.hide,?_⟩;unfold dBorrowT borrowT at h;cases q:c (hideS e0)with
 |ok w e2=>
  rw[q]at h;intro G2 H2 r2 s2;exact h G H2 (rel.back r2) (.refl _)
 |ex k e2=>
  rw[q]at h;intro G2 H2 r2 s2;exact h G H2 (rel.back r2) (.refl _)
 |no=>rw[q]at h;exact h.elim
end
section
variable{e':List S}{v:Value}{k:Bool}{s:S}{p:Prop} [Decidable p]
theorem x5i:dBorrow d e=borrowR e (d (hideS e)):=rfl
theorem x3j{d:Den Bool}:dBorrowT d e=borrowT e (d (hideS e)):=rfl
theorem x5j:borrowR e (.ok w e')=if scalW w=true then .ok w e else .no:=rfl
theorem x5k:borrowR e (.ex v e')=.ex v e:=rfl
theorem x3k:borrowT e (.ok k e')=.ok k e:=rfl
theorem x3l:borrowT e (.ex v e')=.ex v e:=rfl
theorem x3m{x y:R W}:borrowR e (if p then x else y)=if p then borrowR e x else borrowR e y:=by split<;>rfl
theorem x1w{x y:R Bool}:borrowT e (if p then x else y)=if p then borrowT e x else borrowT e y:=by split<;>rfl
theorem x7j:hideS []=[]:=rfl
theorem x5l:hideS (s::e)=hide1 s::hideS e:=rfl
theorem x7k{b:Option Nat}:hide1 (.own b ws)=.fr (.lst ws):=rfl
theorem x98:hide1 (.fr w)=.fr w:=rfl
theorem x99:hide1 .no=.no:=rfl
end
end D
namespace L2
open PySem PySem.Spec PyProof.Rows
structure FlyA(outer:List Env)(H H':Hp)(h h':Heap)(e:Addr)(cls:Value)(B:Heap):Prop where
 stay:B.StaysIn h'
 bare:B.get? e=none
 ff:h'.FunFrames B outer
 tr:∃a0 fl,h'.TracedAtW B e cls a0 fl
 old:∀b o,h.get? b=some o->H b=none->b∉frs outer->B.get? b=some o
 trk:∀b u o,H' b=some u->h'.get? b=some o->B.get? b=some o
 all:∀b o,h.get? b=some o->b∈frs outer\/∃o',B.get? b=some o'
 new:h.get? e=none
end L2
namespace D
open PySem L2
variable{e:List S}
noncomputable def compX(c:Den Bool)(d:Den W)(pe:List S):List W->Option (Value ⊕ List W)
 |[]=>some (.inr [])
 |w::ws=>match c (.fr w::pe)with
  |.ok true e1=>match d e1 with
   |.ok y _=>(compX c d pe ws).map (Sum.map id (y::·))
   |.ex k _=>some (.inl k)
   |.no=>none
  |.ok false _=>compX c d pe ws
  |.ex k _=>some (.inl k)
  |.no=>none
noncomputable def compXR(e:List S):Option (Value ⊕ List W)->R (List W)
 |some (.inr out)=>.ok out e
 |some (.inl k)=>.ex k e
 |none=>.no
noncomputable def compKX(js:List Nat)(c:Den Bool)(d:Den W)(ws:List W)(e1:List S):R (List W):=
 if ws.length<=16777216 then compXR (frzs js e1) (compX c d (pjS js (frzs js e1)) ws)else .no
theorem x7l{js:List Nat}{cc:Den Bool}{d:Den W}{ws:List W}:compKX js cc d ws e=if ws.length<=16777216 then compXR (frzs js e) (compX cc d (pjS js (frzs js e)) ws)else .no:=rfl
theorem x5m{out:List W}:compXR e (some (.inr out))=.ok out e:=rfl
theorem x5n{k:Value}:compXR e (some (.inl k))=.ex k e:=rfl
section
variable{X:Cx}{Z:Zt}{EE:St->XK}{elt iter a b:Expr}{ifs:List Expr}{scope sc:Scope}{pos pt:Pos}{x:Str}{Nf N:List Str}{js:List Nat}{di:Den W}{dA:Den (List W)}{c:Den Bool}{d:Den W}
theorem y3o{ws:List W}{P:List W->List S->Prop}{Ex:Value->List S->Prop}{e1:List S}(h:(compKX js c d ws e1).holds P Ex):ws.length<=16777216/\∃out,compX c d (pjS js (frzs js e1)) ws=some out/\Sum.elim (fun k=>Ex k (frzs js e1)) (fun o=>P o (frzs js e1)) out:=by
 unfold compKX at h;split at h
 ·rename_i hl;cases ho:compX c d (pjS js (frzs js e1)) ws with
  |none=>rw[ho]at h;exact h.elim
  |some out=>rw[ho]at h;exact⟨hl,out,rfl,by cases out<;>exact h⟩
 ·exact h.elim
end
end D
namespace L2
open PySem PySem.Spec PyProof.Rows
variable{A:Around}{prog:Program}{s:Shared}{E:Value->Shared->Prop}{w:World}
def Rise(t:SetTable):Prop:=t.place.toList.Pairwise (·<·)/\t.dummies=#[]
noncomputable def valI:Value->Int
 |.int n _=>n
 |_=>0
structure SetData(prog:Program)(w:World)(es:Array (Int×Value))(t:SetTable)(S:List Int):Prop where
 el:ElemsOf (intKind prog w) es.toList
 sz:es.size<scanBound
 fit:t.fits es.size=true
 rise:Rise t
 led:t.led=!w.params.followText "set-order"
 whole:∀e∈es.toList,∃n k,e.2=Value.int n k
 perm:(es.toList.map fun e=>valI e.2).Perm S
namespace SI
theorem own:Manifest.owners.lookup (String.ofList ['r','o','t','a','r','e','t','i','_','t','e','s'].reverse)=some Manifest.sig_set_iterator:=by kernel_rfl
theorem next:Slot "set_iterator" "__next__" "set_iterator.__next__":=.of (owner:="set_iterator") (n:="__next__") (by rw[typeLookup_type,builtinLookup_eq_fast];kernel_rfl) (by decide +kernel) (by decide +kernel) (by decide +kernel) (by first|exact .inl (by decide +kernel)|exact .inr (by decide +kernel)) (by rw[isSubtype_type];kernel_rfl)
theorem iter:Slot "set_iterator" "__iter__" "set_iterator.__iter__":=.of (owner:="set_iterator") (n:="__iter__") (by rw[typeLookup_type,builtinLookup_eq_fast];kernel_rfl) (by decide +kernel) (by decide +kernel) (by decide +kernel) (by first|exact .inl (by decide +kernel)|exact .inr (by decide +kernel)) (by rw[isSubtype_type];kernel_rfl)
end SI
open PySem PySem.Spec PyProof.Rows
end L2
namespace D
open PySem L2
open PySem L2 PySem.Spec PyProof.Rows
end D
namespace Att
open PySem PySem.W PySem.Calls PyProof.Rows
theorem x2s:∀{ns:List Int}{m:Nat},WData.weightAll (ns.map WData.int)<=m->∀i∈ns,Builtin.Int.intBits i<=m
 |[],_,_,_,h=>nomatch h
 |n::ns,m,hw,i,h=>by
  have e:WData.weightAll ((n::ns).map WData.int)=Builtin.Int.intBits n+1+WData.weightAll (ns.map WData.int):=rfl;rw[e]at hw;cases h with
  |head=>omega
  |tail _ h=>exact x2s (by omega) i h
theorem x7m{ns:List Int}(h:WData.layableAll [WData.list (ns.map WData.int)]=true):∀i∈ns,Builtin.Int.intBits i<=1048576:=by
 have h1:(WData.layable (WData.list (ns.map WData.int))&&true)=true:=h;rw[w3u]at h1;unfold WData.layable at h1;rw[w0r]at h1;have h2:=of_decide_eq_true h1.2;have e:WData.weight (WData.list (ns.map WData.int))=WData.weightAll (ns.map WData.int):=rfl;rw[e]at h2;exact x2s h2
theorem attach_callB{l:OpenLaw}{n:Nat}{q:Program}{loose:List Str}{XP:(Str->Option Value)->Heap->Prop}{YP:World->Heap->Prop}{d:DefRec}
  (hn:l.most=some n)(hdf:d.params.defaults=[])
  (call:∀(w:World)(s₀ s₁:Shared)(mg mb:Str->Option Value)(fa:Addr)(o:Obj)(pm cd doc:Value)(a:Addr)(vs:List Value)(ns:List Int),
   Ground q loose [] XP w s₀ mg mb s₁.heap->YP w s₁.heap ->
   s₁.heap.get? fa=some o->o.data=.func (docDef d.name d.params d.body d.scope pm cd doc)->s₁.heap.CodeRec cd d.name->mg d.name=some (.ref fa) ->
   s₁.heap.get? a=some {cls:=.type "list", data:=.seq vs.toArray}->IntsAre vs ns->ns.length<=n->(∀i∈ns,Builtin.Int.intBits i<=1048576)->s₁.gens=#[] ->
   codeAny (model l.prog w) callerA (.call (.ref fa) ⟨[.ref a],[]⟩) (fun r s'=>r=.ok (.ret (.bool true))/\OldK s₁.heap s'.heap/\s'.os=s₁.os/\AllBare s'.gens) s₁):
  WalkO q loose XP YP l.row.toRowW d [] (fun f vs=>PySem.call f vs):=by
 intro w s₀ s₁ mg mb G Y fa o pm cd doc dV kV ho hd hcd hD hmg hg args vals as hpre hlay hrd hwl hlo;obtain rfl:dV=.none:=Dflts.none hD hdf;obtain rfl:kV=.none:=Dflts.noKw hD;obtain⟨a,vs,ns,rfl,rfl,hobj,hints,hlen⟩:=q83 hn hpre hwl;refine enter_call (codeAny_mono (call w s₀ s₁ mg mb fa o pm cd doc a vs ns G Y ho (fd_plain hd) hcd hmg hobj hints hlen (x7m hlay) hg) fun r s' hq=>?_)
 obtain⟨rfl,h2,h3,h4⟩:=hq;exact⟨.inl ⟨.bool true,.bool true,[],rfl,fun _=>rfl,.bool true,q84 l _,fun _=>⟨List.Pairwise.nil,fun _ hm=>(nomatch hm)⟩⟩,h2,h3,h4⟩
end Att
namespace L2
open PySem PySem.Spec PyProof.Rows
theorem x7n{l:PySem.W.OpenLaw}{n k:Nat}{q:Program}{loose:List Str}{XP:(Str->Option Value)->Heap->Prop}{YP:World->Heap->Prop}{d:DefRec}{K:Params->PySem.W.Frag}{CX:World->CXT}{sp:World->Sp}{x:Str}
  (hn:l.most=some n)(hn2:n<=sizeLine)(hdf:d.params.defaults=[])(hr:Room k callerA)
  (hY:∀(w:World)(h:Heap),YP w h->(K w.params).In h)
  (F:∀(w:World)(mg:Str->Option Value)(fa:Addr)(h:Heap),(K w.params).In h->h.Ns mainGlobals mg->mg d.name=some (.ref fa) ->
   ∃fd:FuncData,(∀(s:Shared)(u:Value),BindsTo s fd ⟨[u],[]⟩ [(x,u)]) /\
    ∀base:Heap,(K w.params).In base->base.Ns mainGlobals mg->FnOk l.prog w (K w.params) mg base (CX w) k fa fd [x] (sp w))
  (hsp:∀(w:World)(H:Hp)(a:Addr)(ns:List Int),ns.length<=n->(∀i∈ns,Builtin.Int.intBits i<=1048576)->Only H->SqL (K w.params) H a (ns.map V.int)->sp w [.ref a] H (fun v _=>v=.bl true) fun _ _ _=>False)
  (hCX:∀(w:World)(H:Hp)(s:Shared)(e:Value)(s':Shared),CX w [] H s (fun _ _ _=>False) e s'->False)(hNM:∀w:World,noMark (K w.params)=true):
  PySem.W.WalkO q loose XP YP l.row.toRowW d [] (fun f vs=>PySem.call f vs):=by
 refine Att.attach_callB hn hdf fun w s₀ s₁ mg mb fa o pm cd doc a vs ns G Y ho hd hcd hmg hobj hints hlen hbits hg=>?_
 have KX:=hY w _ Y;obtain⟨fd,hb,hF⟩:=F w mg fa _ KX G.T.g hmg;exact x0c KX G.T.g G.T.b G.T.builtins G.T.nolimit hg hobj hints (w0j hlen hn2) hr hF hb (fun H hO hS=>hsp w H a ns hlen hbits hO hS) (fun H e s'=>hCX w H s₁ e s') (hNM w)
theorem y0a{X:Cx}:OpR X (binaryOp .Mult) (rI IntMulOk fun i j=>.int (i*j)):=opI fun _ _ _ _ _ _ _ hc q=>mul_int q hc
end L2
namespace D
open PySem L2
open Classical in
noncomputable def mulB:W->W->Option W
 |.int i,.int j=>if IntMulOk i j then some (.int (i*j))else none
 |_,_=>none
theorem y0b{K:PySem.W.Frag}:Op2 K (rI IntMulOk fun i j=>.int (i*j)) mulB:=by
 intro G H x y wx wy w Q s px py hf h;unfold mulB at hf;split at hf
 ·split at hf
  ·rename_i hc;cases hf;cases px;cases py;exact⟨_,_,rfl,rfl,hc,h G _ H (.refl s) rfl⟩
  ·cases hf
 ·cases hf
theorem y0c{X:Cx}{Z:Zt}{EE:St->XK}{a b:Expr}{da db:Den W}{pos:Pos}(ha:DE Z X EE a da)(hb:DE Z X EE b db):DE Z X EE (.BinOp a .Mult b pos) (dOp mulB da db):=q53 y0a y0b ha hb
theorem y0d{i j:Int}{m n:Nat}(hi:Builtin.Int.intBits i<=m)(hj:Builtin.Int.intBits j<=n)(h:m+n<=134217728):mulB (.int i) (.int j)=some (.int (i*j)):=if_pos (PyProof.Rows.mulOk_of_bits hi hj h)
def Fit(ns:List Int):Prop:=ns.length<=63/\∀i∈ns,Builtin.Int.intBits i<=1048576
noncomputable def spLawB(K:PySem.W.Frag):Sp:=fun vs H Q _=>∃(a:Addr)(ns:List Int),vs=[.ref a]/\SqL K H a (ns.map V.int)/\Fit ns/\∀H',Q (.bl true) H'
theorem x5o{K:PySem.W.Frag}{F:List W->FR}(hF:∀ns:List Int,Fit ns->F [.lst (ns.map .int)]=.ok (.fr (.bl true))){vs:List V}{H:Hp}{Q:VK}{E:XK}(h:spLawB K vs H Q E):spF K F vs H Q E:=by
 obtain⟨a,ns,rfl,hS,hl,q⟩:=h;refine⟨fun b=>if b=a then H a else none,[.lst (ns.map .int)],fun b o z=>?_,⟨.ref a,[],rfl,⟨a,ns.map V.int,rfl,?_,q5n ns⟩,rfl⟩,?_⟩
 ·by_cases hb:b=a
  ·subst hb;simpa using z
  ·simp[hb]at z
 ·rcases hS with(h|⟨o,h⟩)|h
  ·exact .inl (.inl (by simpa using h))
  ·exact .inl (.inr ⟨o,by simpa using h⟩)
  ·exact .inr h
 ·rw[hF ns hl];intro G' H' v g sl;obtain⟨u,h1,h2⟩:=sl;cases h1;cases(show v=V.bl true from h2);exact q H'
end D
namespace L2
open PySem PySem.Spec PyProof.Rows
section
variable{X:Cx}{pins:List (Addr×Obj)}{σ:St}{H:Hp}{s:Shared}{a:Addr}{o:Obj}{kvs:List (Key×V)}
theorem Inv.swapAt{u u':HO}(I:Inv X pins σ H s)(e:H a=some u)(ht:¬TupLike u)(hb:∀ps,u≠.tbl ps)(hf:∀o v,X.H₀ a≠some (.frz o v))(hw:∀x,u≠.own x)(ok:HOk X.prog X.w H s.heap->ObjOk X.prog X.w (upd H a u') s.heap a u'):Inv X pins σ (upd H a u') s:=by
 have up:∀b,H b=none->upd H a u' b=none:=fun b n=>by
  rw[q0b (fun z=>by subst z;rw[e]at n;cases n)];exact n
 refine⟨I.ok,I.os,I.bare,⟨I.base.keep,I.base.slot,fun b ob q n hx=>up b (I.base.free b ob q n hx),I.base.there,fun b xs q=>?_,fun b ob v q=>?_,fun b ps q=>?_⟩,I.loc,I.cell,up _ I.free,fun x c q=>up c (I.freeC x c q),fun p hp=>?_,fun b v q=>?_,I.len⟩
 ·have z:=I.base.tups b xs q
  by_cases hb':b=a
  ·subst hb';rw[e]at z;exact absurd (show TupLike u by rw[Option.some.inj z];exact True.intro) ht
  ·rw[q0b hb'];exact z
 ·by_cases hb':b=a
  ·subst hb';exact absurd q (hf ob v)
  ·rw[q0b hb'];exact I.base.frzs b ob v q
 ·obtain⟨more,z⟩:=I.base.tbls b ps q
  by_cases hb':b=a
  ·subst hb';rw[e]at z;exact absurd (Option.some.inj z) (hb _)
  ·exact⟨more,by rw[q0b hb'];exact z⟩
 ·obtain⟨q1,q2,q3⟩:=I.pin p hp;exact⟨q1,up _ q2,q3⟩
 ·by_cases hb':b=a
  ·subst hb';rw[q0g]at q;cases q;exact ok I.hok
  ·rw[q0b hb']at q;refine(I.hok b v q).stay (fun _ _ _ z=>z) (fun c z=>?_) fun c xs tl z=>?_
   ·rw[q0b (fun y=>by subst y;rw[e]at z;exact hw _ (Option.some.inj z))];exact z
   ·rw[q0b (fun y=>by subst y;rw[e]at z;exact ht ((Option.some.inj z) ▸ tl))];exact z
end
section
variable{X:Cx}{pins:List (Addr×Obj)}{σ:St}{H:Hp}{s:Shared}{a:Addr}{o:Obj}{xs:List V}
theorem Inv.freezeL(I:Inv X pins σ H s)(e:H a=some (.lst xs))(q:s.heap.get? a=some o):Inv X pins σ (upd H a (.frz o (.lst xs))) s:=
 I.swapAt e (fun z=>z) (fun _ z=>nomatch z) (fun ob v z=>by have:=I.base.frzs a ob v z;rw[e]at this;cases this) (fun _ z=>nomatch z) fun ok=>⟨q,(ok a _ e).stay (fun _ _ _ z=>z) (fun c z=>by rw[q0b (q0p z e (fun y=>nomatch y))];exact z) fun c xs tl z=>by rw[q0b (q0p z e (fun y=>by subst y;exact tl))];exact z⟩
theorem Inv.meltL(I:Inv X pins σ H s)(e:H a=some (.frz o (.lst xs)))(hf:∀o v,X.H₀ a≠some (.frz o v)):Inv X pins σ (upd H a (.lst xs)) s:=
 I.swapAt e (fun z=>z) (fun _ z=>nomatch z) hf (fun _ z=>nomatch z) fun ok=>(ok a _ e).2.stay (fun _ _ _ z=>z) (fun c z=>by rw[q0b (q0p z e (fun y=>nomatch y))];exact z) fun c xs tl z=>by rw[q0b (q0p z e (fun y=>by subst y;exact tl))];exact z
end
section
variable{X:Cx}
theorem x2t{l:Expr}{tl:TE}(hl:PE X l tl):PE X l (fun σ H Q=>tl σ H fun v H1=>∃a xs,v=.ref a/\H1 a=some (.lst xs)/\∀o,Q v (upd H1 a (.frz o (.lst xs)))):=by
 intro pins s σ H Q I h;refine thn (hl pins s σ H _ I h) fun v s1 ⟨x,H1,I1,r1,q1⟩=>?_
 obtain⟨a,xs,rfl,e,q⟩:=q1;obtain⟨its,_,⟨o,n,g,_⟩,_⟩:=I1.list (SqL.of e);exact⟨.ref a,_,I1.freezeL e g,r1,q o⟩
theorem x7o{l:Expr}{tl:TE}(hl:PE X l tl):PE X l (fun σ H Q=>tl σ H fun v H1=>∃a o xs,v=.ref a/\H1 a=some (.frz o (.lst xs))/\(∀o v,X.H₀ a≠some (.frz o v))/\Q v (upd H1 a (.lst xs))):=by
 intro pins s σ H Q I h;refine thn (hl pins s σ H _ I h) fun v s1 ⟨x,H1,I1,r1,q1⟩=>?_
 obtain⟨a,o,xs,rfl,e,hf,q⟩:=q1;exact⟨.ref a,_,I1.meltL e hf,r1,q⟩
end
end L2
namespace D
open PySem L2 PySem.Spec PyProof.Rows
open PyProof.Rows (envOfC)
section
variable{P:Program}{w:World}{K:PySem.W.Frag}{mg:Str->Option Value}{base:Heap}
theorem conZ{x:Str}{st:Stmt}{N ps:List Str}{k:Nat}{F:List W->FR}(A:At K mg x st ps)(sc:FnScope N ps (defScope st))(len:∀ws,F ws≠.no->ws.length=ps.length)
  (hb:∀ws,F ws≠.no->∀(f:Addr)(cdv:Value)(A:Around)(outer:List Env)(s:Shared)(H:Hp)(E:XK)(Z:Zt),Room k (A.deeper (envOfC x (defScope st) s.heap.objs.size f cdv))->(Z.H=H/\Z.io=[]) ->
   ∃d,DSs Z (cxOf (CX1 P w) P w K mg base N x (defScope st) f cdv A outer s H E) (fun _=>E) (defBody st) d/\(d (init N.length ws)).fn=F ws):Cal P w K mg base (k+1) x ps (spF K F):=by
 refine A.cal sc (fun vs H Q E h=>?_) (fun f cdv A outer s H vs Q E hr h=>?_)
 ·obtain⟨G,ws,hn,r⟩:=q7l h;rw[r.length];exact len ws hn
 ·obtain⟨G,ws,sg,rp,h⟩:=h;have hn:F ws≠.no:=fun z=>by rw[z]at h;exact h
  obtain⟨d,hd,he⟩:=hb ws hn f cdv A outer s H E ⟨H,G,[]⟩ hr ⟨rfl,rfl⟩;exact⟨_,hd,G,init N.length ws,q6z sg rp,q8e he h⟩
theorem conFZ{x:Str}{st:Stmt}{N ps:List Str}{k:Nat}{F:List W->FR}{f:Addr}{fd:FuncData}(A:Fun K x x st f fd)(sc:FnScope N ps (defScope st))(len:∀ws,F ws≠.no->ws.length=ps.length)
  (hb:∀ws,F ws≠.no->∀(cdv:Value)(A:Around)(outer:List Env)(s:Shared)(H:Hp)(E:XK)(Z:Zt),Room k (A.deeper (PyProof.Rows.envOfC x (defScope st) s.heap.objs.size f cdv))->(Z.H=H/\Z.io=[]) ->
   ∃d,DSs Z (cxOf (CX1 P w) P w K mg base N x (defScope st) f cdv A outer s H E) (fun _=>E) (defBody st) d/\(d (init N.length ws)).fn=F ws):FnOk P w K mg base (CX1 P w) (k+1) f fd ps (spF K F):=by
 refine A.okX sc (fun vs H Q E h=>?_) (fun cdv A outer s H vs Q E hr h=>?_)
 ·obtain⟨G,ws,hn,r⟩:=q7l h;rw[r.length];exact len ws hn
 ·obtain⟨G,ws,sg,rp,h⟩:=h;have hn:F ws≠.no:=fun z=>by rw[z]at h;exact h
  obtain⟨d,hd,he⟩:=hb ws hn cdv A outer s H E ⟨H,G,[]⟩ hr ⟨rfl,rfl⟩;exact⟨_,hd,G,init N.length ws,q6z sg rp,q8e he h⟩
end
section
variable{X:Cx}{Z:Zt}{EE:L2.St->XK}{a b c e:Expr}{es:List Expr}{da db d:Den W}{dF dA:Den (List W)}{x:Str}{pos p tpos:Pos}
noncomputable def isT:S->Bool
 |.thr _ _ _=>true
 |.nest _=>true
 |.x (.acc _)=>true
 |.x (.thro _ _ _)=>true
 |.x (.tn _ _)=>true
 |.x (.pt _ _ _)=>true
 |_=>false
theorem Rel.mutL{K:PySem.W.Frag}{G H:Hp}{σ:L2.St}{e:List S}{l:Addr}{o:Obj}{ys:List V}{u:HO}(r:Rel K Z G σ H e)(hl:H l=some (.frz o (.lst ys)))(hg:G l=none)(hz:Z.H l=none)(hT:∀s∈e,isT s=false):Rel K Z G σ (upd H l u) e:=by
 refine⟨fun c u z=>?_,fun j s z=>?_,r.len,r.dis,fun c u z n=>?_,fun c z=>?_,r.gen⟩
 ·rw[q0b (q0j z hg)];exact r.sub c u z
 ·have y:=r.slot j s z;cases s with
  |no=>trivial
  |fr w=>exact y
  |own b2 w2=>
   obtain⟨c,ys,y1,y2,y3,y4,y5⟩:=y;refine⟨c,ys,y1,?_,y3,y4,y5⟩;rw[q0b (q0p y2 hl (fun z=>nomatch z))];exact y2
  |dic kvs=>
   obtain⟨c,y1,y2,y3,y4⟩:=y;refine⟨c,y1,?_,y3,y4⟩;rw[q0b (q0p y2 hl (q29 rfl))];exact y2
  |thr us ws vs=>have:=hT _ (w0u z);cases this
  |nest _=>have:=hT _ (w0u z);cases this
  |x k=>
   have hk:=hT _ (w0u z);cases k with
   |old _=>exact y
   |new _=>exact y
   |_=>cases hk
  |dw sh ks ws=>exact DwOk.move y (.refl _) fun l o ys k1 k2 k3=>⟨by rw[q0b (q0p k1 hl (fun z=>nomatch z))];exact k1,k2,k3⟩
 ·rw[q0b (q0j z hz)];exact r.ent c u z n
 ·by_cases hc:c=l
  ·subst hc;rw[q0g];exact fun z=>nomatch z
  ·rw[q0b hc];exact r.ion c z
end
section
variable{e e':List S}{ws us vs:List W}{v:Value}
theorem x5p{wss:List (List W)}:hide1 (.nest wss)=.fr (.lst (wss.map W.lst)):=rfl
theorem x7p:hide1 (.thr us ws vs)=.fr (.tup (us++.lst ws::vs)):=rfl
end
end D
namespace L2
open PySem PySem.Spec PyProof.Rows
end L2
namespace D
open PySem L2 PySem.Spec PyProof.Rows
section
variable{K:PySem.W.Frag}{Z:Zt}{G H:Hp}{ls:List Addr}{wss:List (List W)}
theorem NestIn.at:∀{ls:List Addr}{wss:List (List W)}{j:Nat}{ws:List W},NestIn K Z G H ls wss->wss[j]?=some ws->∃l o ys,ls[j]?=some l/\FzAt Z G H l o ys/\Reps K G ws ys
 |l::ls,_::wss,0,_,⟨⟨o,ys,h1,h2⟩,_⟩,e=>by cases e;exact⟨l,o,ys,rfl,h1,h2⟩
 |_::ls,_::wss,j+1,_,⟨_,h⟩,e=>by
  obtain⟨l,o,ys,h1,h2⟩:=h.at e;exact⟨l,o,ys,h1,h2⟩
 |[],[],_,_,_,e=>by simp at e
 |[],_::_,_,_,h,_=>h.elim
 |_::_,[],_,_,h,_=>h.elim
end
section
variable{K:PySem.W.Frag}{Z:Zt}{G H:Hp}{σ:L2.St}{e:List S}
theorem Rel.nest(r:Rel K Z G σ H e){i:Nat}{wss:List (List W)}(h:e[i]?=some (.nest wss)):∃a ls,σ[i]?=some (some (.ref a))/\G a=some (.lst (ls.map V.ref))/\ls.Nodup/\NestIn K Z G H ls wss:=by
 obtain⟨a,ls,h1,h2,h3,h4⟩:=r.slot i _ h;refine⟨a,ls,?_,h2,h3,h4⟩;cases q:σ[i]? with
 |none=>rw[q]at h1;cases h1
 |some z=>rw[q]at h1;rw[show z=some (V.ref a)from h1]
theorem Rel.setNest(r:Rel K Z G σ H e){i:Nat}{wss:List (List W)}{v:V}(q:NestOk K Z G H wss (some v)):Rel K Z G (σ.set i (some v)) H (e.set i (.nest wss)):=by
 refine⟨r.sub,fun j s z=>?_,by simpa using r.len,fun j k b1 b2 w1 w2 c z1 z2 z3 z4=>?_,r.ent,r.ion,r.gen⟩
 ·by_cases hj:j=i
  ·subst hj
   have hi:j<e.length:=by
    have:=(w0b.mp z).1;simpa using this
   rw[w0i hi]at z;cases z;rw[w0i (by rw[<- r.len];exact hi)];exact q
  ·rw[w0g (fun z=>hj z.symm)]at z |-
   exact r.slot j s z
 ·have old:∀(k:Nat)(bb:Option Nat)(ww:List W),(e.set i (S.nest wss))[k]?=some (.own bb ww)->k≠i/\e[k]?=some (.own bb ww):=fun k bb ww z=>by
   by_cases hk:k=i
   ·subst hk
    have hi:k<e.length:=by
     have:=(w0b.mp z).1;simpa using this
    rw[w0i hi]at z;cases z
   ·rw[w0g (fun z=>hk z.symm)]at z;exact⟨hk,z⟩
  obtain⟨n1,q1⟩:=old _ _ _ z1;obtain⟨n2,q2⟩:=old _ _ _ z2;rw[w0g (fun z=>n1 z.symm)]at z3
  rw[w0g (fun z=>n2 z.symm)]at z4
  exact r.dis _ _ _ _ _ _ _ q1 q2 z3 z4
end
end D
namespace L2
open PySem PySem.Spec PyProof.Rows
theorem y0e{X:Cx}{l:Expr}{tl:TE}(hl:PE X l tl):PE X l (fun σ H Q=>tl σ H fun v H1=>∃a xs,H1 a=some (.lst xs)/\∀o,Q v (upd H1 a (.frz o (.lst xs)))):=by
 intro pins s σ H Q I h;refine thn (hl pins s σ H _ I h) fun v s1 ⟨x,H1,I1,r1,q1⟩=>?_
 obtain⟨a,xs,e,q⟩:=q1;obtain⟨its,_,⟨o,n,g,_⟩,_⟩:=I1.list (SqL.of e);exact⟨x,_,I1.freezeL e g,r1,q o⟩
end L2
namespace D
open PySem L2 PySem.Spec PyProof.Rows
variable{e:List S}{i:Nat}
noncomputable def okF:S->Bool
 |.no=>true
 |.fr _=>true
 |_=>false
section
variable{K:PySem.W.Frag}{Z:Zt}{G H:Hp}{σ:L2.St}
theorem Rel.fresh(r:Rel K Z G σ H e)(hok:e.all okF=true):Rel K ⟨H,G,[]⟩ G σ H e:=by
 have ok:∀(i:Nat)(s0:S),e[i]?=some s0->okF s0=true:=fun i s0 h=>w0z.mp hok s0 (w0u h)
 refine⟨r.sub,fun i s h=>?_,r.len,fun i j b b' ws ws' a h1 _ _ _=>?_,fun a o h _=>h,(fun a h=>nomatch h),fun a _=>rfl⟩
 ·have q:=r.slot i s h;have o:=ok i s h;cases s with
  |no=>trivial
  |fr w=>exact q
  |_=>cases o
 ·have o:=ok i _ h1;cases o
theorem NestIn.keep{H':Hp}:∀{ls:List Addr}{wss:List (List W)},NestIn K Z G H ls wss->(∀c∈ls,H' c=H c)->NestIn K Z G H' ls wss
 |[],[],_,_=>trivial
 |l::ls,ws::wss,⟨⟨o,ys,⟨h1,h2,h3⟩,h4⟩,h⟩,hk=>⟨⟨o,ys,⟨by rw[hk l (by simp)];exact h1,h2,h3⟩,h4⟩,h.keep fun c hc=>hk c (by simp[hc])⟩
 |[],_::_,h,_=>h.elim
 |_::_,[],h,_=>h.elim
theorem NestIn.put{l:Addr}{o':Obj}:∀{ls:List Addr}{wss:List (List W)}{j:Nat},NestIn K Z G H ls wss->ls.Nodup->ls[j]?=some l->NestIn K Z G (upd H l (.frz o' (.lst []))) ls (wss.set j [])
 |l0::ls,ws::wss,0,⟨⟨o,ys,⟨h1,h2,h3⟩,h4⟩,h⟩,hn,hl=>by
  cases hl;refine⟨⟨o',[],⟨q0g,h2,h3⟩,rfl⟩,h.keep fun c hc=>q0b fun z=>?_⟩
  subst z;exact(w1t.mp hn).1 hc
 |l0::ls,ws::wss,j+1,⟨⟨o,ys,⟨h1,h2,h3⟩,h4⟩,h⟩,hn,hl=>by
  have hl:ls[j]?=some l:=hl
  have hne:l0≠l:=fun z=>by
   subst z;exact(w1t.mp hn).1 (w0u hl)
  exact⟨⟨o,ys,⟨by rw[q0b hne];exact h1,h2,h3⟩,h4⟩,h.put (w1t.mp hn).2 hl⟩
 |[],[],_,_,_,hl=>by simp at hl
 |[],_::_,_,h,_,_=>h.elim
 |_::_,[],_,h,_,_=>h.elim
end
section
variable{X:Cx}{Z:Zt}{EE:L2.St->XK}{e1 e2:Expr}{d1 d2:Den (List W)}{pos p:Pos}{x:Str}
noncomputable def setN2(i:Nat)(e:List S):R (List W)->R (List W)->SR
 |.ok ws1 _,.ok ws2 _=>if e.all okF=true then .nx (e.set i (.nest [ws1,ws2]))else .no
 |_,_=>.no
noncomputable def dSetN2(i:Nat)(d1 d2:Den (List W)):List S->SR:=fun e=>setN2 i e (d1 e) (d2 e)
theorem x7q(i:Nat){pos' lp:Pos}(hN:X.N.Nodup)(h1:∀Z',DF Z' X EE e1 d1)(h2:∀Z',DF Z' X EE e2 d2)(hs1:starEach [e1,e2] X.env=(false,eval e1 X.env)::starEach [e2] X.env:=by rfl)(hs2:starEach [e2] X.env=(false,eval e2 X.env)::starEach [] X.env:=by rfl)(hi:X.N[i]?=some x:=by rfl)(hx:Loc X.env.scope x:=by walk_at "3")(hs:swapsWith (.List [e1,e2] lp) (some (.Name x pos')) pos.line X.env=pure false:=by rfl)(hf:X.fn x=true\/X.env.scope.names.lookup x=some .local:=by walk_at "2"):
  DS Z X EE (.Assign [.Name x pos'] (.List [e1,e2] lp) pos) (dSetN2 i d1 d2):=by
 have p1:PE X e1 (fun σ H Q=>∃Z',liftF X.K Z' EE d1 σ H Q):=fun pins s σ H Q I ⟨Z',h⟩=>h1 Z' pins s σ H Q I h
 have p2:PE X e2 (fun σ H Q=>∃Z',liftF X.K Z' EE d2 σ H Q):=fun pins s σ H Q I ⟨Z',h⟩=>h2 Z' pins s σ H Q I h
 refine PS.mono (x3a i hN (x37 (q4g (x2t p1) (q4g (x2t p2) q96 hs2) hs1)) hi hx hs hf) ?_;rintro D σ H ⟨G,e,rel,h⟩;unfold dSetN2 setN2 at h;split at h
 ·rename_i ws1 e1' ws2 e2' q1 q2;split at h
  ·rename_i hok;refine⟨⟨H,G,[]⟩,G,e,rel.fresh hok,?_⟩;rw[q1];intro G1 a xs H1 r1 s1 a1 a2 a3 a4 rp1;refine⟨a,xs,rfl,a1,fun o=>?_⟩
   have a3:H a=none:=a3;have g1:=r1.toGrow s1;have rel1:=(rel.grow g1).mutFree (o:=.frz o (.lst xs)) a2 (q20 rel a3) (ionone rel a a3) (q3i rel a3) a1;refine⟨⟨upd H1 a (.frz o (.lst xs)),G1,[]⟩,G1,e,rel1.fresh hok,?_⟩;rw[q2];intro G2 b ys H2 r2 s2 b1 b2 b3 b4 rp2;refine⟨b,ys,rfl,b1,fun o2=>?_⟩
   have b3:upd H1 a (.frz o (.lst xs)) b=none:=b3;have g2:=r2.toGrow s2;have rel2:=(rel1.grow g2).mutFree (o:=.frz o2 (.lst ys)) b2 (q20 rel1 b3) (ionone rel1 b b3) (q3i rel1 b3) b1;have hab:a≠b:=fun z=>by subst z;rw[q0g]at b3;cases b3
   have ha2:H2 a=some (.frz o (.lst xs)):=g2.hh _ _ q0g;have hga2:G2 a=none:=by rw[g2.new a (by rw[q0g];simp)];exact a2
   refine⟨by rw[sizeLine_eq];exact(by decide:2<=16777216),fun pp hp=>?_⟩
   have hpa:a≠pp:=fun z=>by subst z;rw[q0b hab,ha2]at hp;cases hp
   have hpb:b≠pp:=fun z=>by subst z;rw[q0g]at hp;cases hp
   have g3:=Grow.laid rel2.sub hp (.lst [.ref a,.ref b]);have rel3:=rel2.grow g3;refine h _ _ _ (rel3.setNest (v:=.ref pp) ⟨pp,[a,b],rfl,q0g,by simp[hab],⟨⟨o,xs,⟨?_,?_,q20 rel a3⟩,?_⟩,⟨o2,ys,⟨?_,?_,q20 rel1 b3⟩,?_⟩,trivial⟩⟩) (s1.trans (s2.trans g3.gg))
   ·rw[q0b hpa,q0b hab];exact ha2
   ·rw[q0b hpa];exact hga2
   ·exact Reps.mono (s2.trans g3.gg) ws1 rp1
   ·rw[q0b hpb,q0g]
   ·rw[q0b hpb];exact b2
   ·exact Reps.mono g3.gg ws2 rp2
  ·exact h.elim
 ·exact h.elim
noncomputable def clearN(i j:Nat)(e:List S):Option S->SR
 |some (.nest wss)=>if j<wss.length/\(e.set i .no).all (fun s=>!isT s)=true then .nx (e.set i (.nest (wss.set j [])))else .no
 |_=>.no
noncomputable def dClearN(i j:Nat):List S->SR:=fun e=>clearN i j e e[i]?
theorem q9g(i j:Nat){apos cpos spos:Pos}{kk kp}(hz:Z.H=X.H₀)(hN:X.N[i]?=some x:=by rfl)(hv:Vis X.env.scope x:=by walk_at "1")(hd:(x==("__debug__":Str))=false:=by decide)(hcd:(x==("__classdict__":Str))=false:=by decide)
  (hs:PlainIx (.Constant (.int (j:Int)) kk kp):=by intro _ _;rfl)
  (hbase:attributeBase (.Subscript (.Name x p) (.Constant (.int (j:Int)) kk kp) spos) "clear" X.env (eval (.Subscript (.Name x p) (.Constant (.int (j:Int)) kk kp) spos) X.env)=eval (.Subscript (.Name x p) (.Constant (.int (j:Int)) kk kp) spos) X.env:=by rfl)(hline:(apos.endLine==cpos.line)=true:=by rfl)(hsw:swapsWith (.Call (.Attribute (.Subscript (.Name x p) (.Constant (.int (j:Int)) kk kp) spos) "clear" apos) [] [] cpos) none pos.line X.env=pure false:=by rfl):
  DS Z X EE (.Expr (.Call (.Attribute (.Subscript (.Name x p) (.Constant (.int (j:Int)) kk kp) spos) "clear" apos) [] [] cpos) pos) (dClearN i j):=by
 refine PS.mono (q8b (y0e (y1c PySem.F.plainAttrs_list PySem.F.slot_list_clear PySem.F.type_list_clear x6k (x7o (x28 ix_list (pv i hN hv hd hcd) x30 hs)) hbase hline)) hsw) ?_;rintro D σ H ⟨G,e,rel,h⟩;unfold dClearN clearN at h;split at h
 ·rename_i wss he;split at h
  ·rename_i hj;obtain⟨a,ls,g1,g2,g3,g4⟩:=rel.nest he;have hi:i<e.length:=(w0b.mp he).1;obtain⟨l,o,ys,m1,m3,m4⟩:=g4.at (w0f hj.1)
   have hat:atI (ls.map V.ref) (j:Int)=some (.ref l):=by
    refine q4h ?_;rw[w1a,m1];rfl
   have r0:Rel X.K Z G σ H (e.set i .no):=rel.forget (by simp) fun k s z=>by
    by_cases hk:k=i
    ·subst hk;rw[w0i hi]at z;cases z;exact .inl rfl
    ·rw[w0g (fun z=>hk z.symm)]at z;exact .inr z
   have hT:∀s∈e.set i .no,isT s=false:=fun s hs=>by have:=w0z.mp hj.2 s hs;simpa using this
   refine⟨.ref a,g1,a,ls.map V.ref,(j:Int),.ref l,rfl,rfl,SqL.of (rel.sub _ _ g2),hat,l,o,ys,rfl,m3.1,fun _ _ z=>(by rw[<- hz,m3.2.2]at z;cases z),.inl ⟨rfl,ys,SqL.of q0g⟩,l,ys,rfl,rfl,q0g,l,[],q0g,fun o'=>?_⟩
   have eH:upd (upd (upd H l (.lst ys)) l (.lst [])) l (.frz o' (.lst []))=upd H l (.frz o' (.lst [])):=by funext c;unfold upd;split<;>rfl
   rw[eH];have r1:Rel X.K Z G σ (upd H l (.frz o' (.lst []))) (e.set i .no):=r0.mutL m3.1 m3.2.1 m3.2.2 hT;have r2:=r1.setNest (i:=i) (wss:=wss.set j []) (v:=.ref a) ⟨a,ls,rfl,g2,g3,g4.put g3 m1⟩;rw[List.set_set]at r2
   have eσ:σ.set i (some (.ref a))=σ:=by
    apply w2i;intro k
    by_cases hk:i=k
    ·subst hk;rw[w0i (w0b.mp g1).1,g1]
    ·rw[w0g hk]
   rw[eσ]at r2;exact h G σ _ r2 (.refl _)
  ·exact h.elim
 ·exact h.elim
theorem x7r:dSetN2 i d1 d2 e=setN2 i e (d1 e) (d2 e):=rfl
theorem x7s{e' e'':List S}{ws1 ws2:List W}(h:e.all okF=true):setN2 i e (.ok ws1 e') (.ok ws2 e'')=.nx (e.set i (.nest [ws1,ws2])):=if_pos h
theorem x5q{j:Nat}:dClearN i j e=clearN i j e e[i]?:=rfl
theorem x04{j:Nat}{wss:List (List W)}(h:j<wss.length/\(e.set i .no).all (fun s=>!isT s)=true):clearN i j e (some (.nest wss))=.nx (e.set i (.nest (wss.set j []))):=if_pos h
end
end D
namespace M10
noncomputable def numG(a:Int)(row:List Bool):Int:=row.foldl (fun acc b=>2*acc+(if b=true then 1 else 0)) a
noncomputable def num(row:List Bool):Int:=numG 0 row
noncomputable def b2(b:Bool):Int:=if b=true then 1 else 0
theorem x5r(a:Int)(row:List Bool)(b:Bool):numG a (row++[b])=2*numG a row+b2 b:=by
 unfold numG;rw[List.foldl_append];rfl
theorem x2u:num []=0:=rfl
theorem q65(row:List Bool)(b:Bool):num (row++[b])=2*num row+b2 b:=x5r 0 row b
theorem x05(b:Bool):b2 b=0\/b2 b=1:=by cases b<;>simp[b2]
theorem x06{P:List Bool->Prop}(h0:P [])(h1:∀l b,P l->P (l++[b])):∀l,P l:=by
 intro l
 have:∀r:List Bool,P r.reverse:=by
  intro r
  induction r with
  |nil=>simpa using h0
  |cons b r ih=>rw[w1o];exact h1 _ _ ih
 have:=this l.reverse
 rwa [List.reverse_reverse]at this
theorem q7v(row:List Bool):0<=num row/\num row<2^row.length:=by
 induction row using x06 with
 |h0=>simp[x2u]
 |h1 l b ih=>
  rw[q65,w0k,w1e,w3k];rcases x05 b with h|h<;>omega
noncomputable def bits:Nat->Int->List Bool
 |0,_=>[]
 |m+1,n=>decide (n%2=1)::bits m (n / 2)
noncomputable def rest:Nat->Int->Int
 |0,n=>n
 |m+1,n=>rest m (n / 2)
theorem q4w:∀m n,(bits m n).length=m
 |0,_=>rfl
 |m+1,n=>by rw[bits,w0o,q4w m]
theorem q9h:∀m n,bits (m+1) n=bits m n++[decide (rest m n%2=1)]
 |0,n=>rfl
 |m+1,n=>by rw[bits,q9h m (n / 2),bits,rest];rfl
theorem q9i:∀m n,rest (m+1) n=rest m n / 2
 |0,n=>rfl
 |m+1,n=>by rw[rest,q9i m (n / 2)];rfl
theorem x07(m:Nat):∀n:Int,n=num (bits m n).reverse+2^m*rest m n:=by
 induction m with
 |zero=>intro n;simp[bits,rest,x2u]
 |succ m ih=>
  intro n;rw[bits,rest,w1o,q65,w3k];have h:=ih (n / 2)
  have hb:b2 (decide (n%2=1))=n%2:=by
   unfold b2
   by_cases h1:n%2=1
   ·simp[h1]
   ·simp[h1];omega
  rw[hb]
  have e:(2:Int)^m*2*rest m (n / 2)=2*(2^m*rest m (n / 2)):=by
   rw[Int.mul_comm (2^m) 2,Int.mul_assoc]
  rw[e];generalize (2:Int)^m*rest m (n / 2)=z at *;generalize num (bits m (n / 2)).reverse=y at *;omega
theorem x7t(m:Nat):(0:Int)<2^m:=by
 induction m with
 |zero=>decide
 |succ m ih=>rw[w3k];omega
theorem q9j{m:Nat}{n:Int}(h0:0<=n)(h1:n<2^m):rest m n=0:=by
 have h:=x07 m n;have hb:=q7v (bits m n).reverse;rw[w2u,q4w]at hb;have hp:=x7t m
 by_cases hr:rest m n=0
 ·exact hr
 ·exfalso;rcases Int.lt_or_gt_of_ne hr with h2|h2
  ·have:2^m*rest m n<=2^m*(-1):=w2o (by omega) (by omega);omega
  ·have:2^m*1<=2^m*rest m n:=w2o (by omega) (by omega);omega
theorem x7u{m:Nat}{n:Int}(h0:0<=n)(h1:n<2^m):num (bits m n).reverse=n:=by
 have h:=x07 m n;rw[q9j h0 h1,Int.mul_zero]at h;omega
theorem x7v(row:List Bool):(bits row.length (num row)).reverse=row:=by
 induction row using x06 with
 |h0=>rfl
 |h1 l b ih=>
  rw[w0k,w1e,q65,bits,w1o];have hb:=x05 b;have e1:(2*num l+b2 b) / 2=num l:=by rcases hb with h|h<;>omega
  have e2:decide ((2*num l+b2 b)%2=1)=b:=by
   cases b
   ·have:b2 false=0:=rfl;rw[this];simp
   ·have:b2 true=1:=rfl;rw[this,decide_eq_true_eq];omega
  rw[e1,e2,ih]
noncomputable def part(row:List Bool)(i:Nat):Int:=num (row.take i)*2^(row.length-i)
end M10
namespace Q
open PySem L2 D
variable{f:Addr}{A:Around}{H:Hp}{cs:List (List (Option Bool))}{c w:List (Option Bool)}{ns:List Int}{pe:List S}{ws:List W}{k m n q:Nat}{K:PySem.W.Frag}{s:Shared}{mg:Str->Option Value}{α:Type}{cdv:Value}{E:XK}{Z:Zt}
seal DE DF DT DW DA DS DSs DTs DO DFm PE PT PW PA PS PSs PG PGs PI PF PTs PC OpR UnR IxR CallR TruR MtR MtM SlR PO
theorem us1{P:List α->Prop}(h:∀x0,P [x0]):∀us:List α,us.length=1->P us
 |[x0],_=>h x0
theorem us2{P:List α->Prop}(h:∀x0 x1,P [x0,x1]):∀us:List α,us.length=2->P us
 |[x0,x1],_=>h x0 x1
theorem us3{P:List α->Prop}(h:∀x0 x1 x2,P [x0,x1,x2]):∀us:List α,us.length=3->P us
 |[x0,x1,x2],_=>h x0 x1 x2
theorem us4{P:List α->Prop}(h:∀x0 x1 x2 x3,P [x0,x1,x2,x3]):∀us:List α,us.length=4->P us
 |[x0,x1,x2,x3],_=>h x0 x1 x2 x3
noncomputable def top(i:Nat):Stmt:=PySem.Challenge.pw_circuits_k20_covers.main.body.getD i (.Pass ⟨0,0,0,0⟩)
structure Blt(mg:Str->Option Value):Prop where
 b_all:mg "all"=none
 b_bool:mg "bool"=none
 b_enumerate:mg "enumerate"=none
 b_int:mg "int"=none
 b_isinstance:mg "isinstance"=none
 b_len:mg "len"=none
 b_list:mg "list"=none
 b_range:mg "range"=none
 b_reversed:mg "reversed"=none
 b_sorted:mg "sorted"=none
 b_tuple:mg "tuple"=none
 b_zip:mg "zip"=none
structure Adr where
 CircuitError:Addr
 NoRow:Addr
 NoTable:Addr
 MOST_PLACES_tables:Value
 MOST_PLACES_covers:Value
variable{a:Adr}
structure Exs(K:PySem.W.Frag)(mg:Str->Option Value)(a:Adr):Prop where
 z:True
 m_CircuitError:mg "CircuitError"=some (.ref a.CircuitError)
 m_NoRow:mg "NoRow"=some (.ref a.NoRow)
 m_NoTable:mg "NoTable"=some (.ref a.NoTable)
 m_MOST_PLACES_tables:mg "MOST_PLACES_tables"=some a.MOST_PLACES_tables
 m_MOST_PLACES_covers:mg "MOST_PLACES_covers"=some a.MOST_PLACES_covers
 g_MOST_PLACES_tables:conIn K (.int 10) a.MOST_PLACES_tables=true
 g_MOST_PLACES_covers:conIn K (.int 4) a.MOST_PLACES_covers=true
 e_NoRow:excIn K a.NoRow a.CircuitError=true
 e_NoTable:excIn K a.NoTable a.CircuitError=true
 c_NoRow:excClsIn K a.NoRow=true
 x_NoRow_CircuitError:exmOne K (.ref a.NoRow) (.ref a.CircuitError)=some true
 k_NoRow_NoTable:kitOne K (.ref a.NoRow) (.ref a.NoTable)=some false
 c_NoTable:excClsIn K a.NoTable=true
 x_NoTable_CircuitError:exmOne K (.ref a.NoTable) (.ref a.CircuitError)=some true
 k_NoTable_NoTable:kitOne K (.ref a.NoTable) (.ref a.NoTable)=some true
 t_NoneType_bool:kitOne K (.type "NoneType") (.type "bool")=some false
 t_bool_bool:kitOne K (.type "bool") (.type "bool")=some true
 t_int_bool:kitOne K (.type "int") (.type "bool")=some false
 t_str_bool:kitOne K (.type "str") (.type "bool")=some false
 t_tuple_bool:kitOne K (.type "tuple") (.type "bool")=some false
 t_list_bool:kitOne K (.type "list") (.type "bool")=some false
noncomputable abbrev q2r:Nat:=0
noncomputable abbrev q1t:Nat:=1
noncomputable abbrev q2k:Nat:=2
noncomputable abbrev q2s:Nat:=3
noncomputable abbrev q2g:Nat:=4
noncomputable abbrev q16:Nat:=5
noncomputable abbrev q1a:Nat:=6
noncomputable abbrev q33:Nat:=7
noncomputable abbrev q1r:Nat:=8
noncomputable abbrev q1m:Nat:=9
noncomputable abbrev q17:Nat:=10
noncomputable abbrev q04:Nat:=11
noncomputable abbrev q05:Nat:=12
noncomputable abbrev q0m:Nat:=13
noncomputable abbrev q1d:Nat:=14
noncomputable abbrev q1b:Nat:=15
noncomputable abbrev q07:Nat:=16
noncomputable abbrev q1e:Nat:=17
noncomputable abbrev q06:Nat:=18
noncomputable abbrev q1u:Nat:=19
noncomputable abbrev q01:Nat:=20
noncomputable abbrev q13:Nat:=21
noncomputable abbrev q1c:Nat:=22
noncomputable abbrev q39:Nat:=23
noncomputable abbrev q18:Stmt:=top 5
theorem sc_row_of:FnScope ["number", "many", "truths", "rest", "step"] ["number", "many"] (defScope q18):=⟨rfl,rfl,rfl,by decide +kernel,rfl,by decide +kernel,by decide +kernel⟩
noncomputable abbrev q1f:Stmt:=top 6
theorem sc_rows_many:FnScope ["many", "count", "place"] ["many"] (defScope q1f):=⟨rfl,rfl,rfl,by decide +kernel,rfl,by decide +kernel,by decide +kernel⟩
noncomputable abbrev q1k:Stmt:=top 7
theorem x1x:FnScope ["many"] ["many"] (defScope q1k):=⟨rfl,rfl,rfl,by decide +kernel,rfl,by decide +kernel,by decide +kernel⟩
noncomputable abbrev q1p:Stmt:=top 9
theorem x3n:FnScope ["cube", "row"] ["cube", "row"] (defScope q1p):=⟨rfl,rfl,rfl,by decide +kernel,rfl,by decide +kernel,by decide +kernel⟩
noncomputable abbrev q1q:Stmt:=top 10
theorem x3o:FnScope ["cube"] ["cube"] (defScope q1q):=⟨rfl,rfl,rfl,by decide +kernel,rfl,by decide +kernel,by decide +kernel⟩
noncomputable abbrev q1g:Stmt:=top 13
theorem sc_places_of:FnScope ["table", "many"] ["table"] (defScope q1g):=⟨rfl,rfl,rfl,by decide +kernel,rfl,by decide +kernel,by decide +kernel⟩
noncomputable abbrev q02:Stmt:=top 16
theorem sc_wish_places:FnScope ["wish", "many"] ["wish"] (defScope q02):=⟨rfl,rfl,rfl,by decide +kernel,rfl,by decide +kernel,by decide +kernel⟩
noncomputable abbrev q2t:Stmt:=top 17
theorem y0f:FnScope ["cube", "wish"] ["cube", "wish"] (defScope q2t):=⟨rfl,rfl,rfl,by decide +kernel,rfl,by decide +kernel,by decide +kernel⟩
noncomputable abbrev q19:Stmt:=top 18
theorem sc_covers:FnScope ["cover", "wish", "left", "cube"] ["cover", "wish"] (defScope q19):=⟨rfl,rfl,rfl,by decide +kernel,rfl,by decide +kernel,by decide +kernel⟩
noncomputable abbrev q0w:Stmt:=top 19
theorem q8j:FnScope ["wish"] ["wish"] (defScope q0w):=⟨rfl,rfl,rfl,by decide +kernel,rfl,by decide +kernel,by decide +kernel⟩
noncomputable abbrev q09:Stmt:=top 20
theorem x08:FnScope ["numbers", "taken"] ["numbers", "taken"] (defScope q09):=⟨rfl,rfl,rfl,by decide +kernel,rfl,by decide +kernel,by decide +kernel⟩
noncomputable abbrev q0x:Stmt:=top 22
theorem q7w:FnScope ["_law_script", "_law_k"] ["_law_script", "_law_k"] (defScope q0x):=⟨rfl,rfl,rfl,by decide +kernel,rfl,by decide +kernel,by decide +kernel⟩
noncomputable abbrev q1o:Stmt:=top 23
theorem sc__law_way:FnScope ["_law_script", "_law_k", "_law_many", "_law_mark_here"] ["_law_script", "_law_k", "_law_many"] (defScope q1o):=⟨rfl,rfl,rfl,by decide +kernel,rfl,by decide +kernel,by decide +kernel⟩
noncomputable abbrev q1h:Stmt:=top 24
theorem sc__law_mark:FnScope ["_law_script", "_law_k", "_law_mark_here"] ["_law_script", "_law_k"] (defScope q1h):=⟨rfl,rfl,rfl,by decide +kernel,rfl,by decide +kernel,by decide +kernel⟩
noncomputable abbrev q0y:Stmt:=top 25
theorem sc__law_rows:FnScope ["_law_cube", "_law_found", "_law_wished"] ["_law_cube"] (defScope q0y):=⟨rfl,rfl,rfl,by decide +kernel,rfl,by decide +kernel,by decide +kernel⟩
noncomputable abbrev q0r:Stmt:=top 26
theorem sc__law_wish_by:FnScope ["_law_script", "_law_many", "_law_menus", "_law_menu", "_law_some"] ["_law_script", "_law_many"] (defScope q0r):=⟨rfl,rfl,rfl,by decide +kernel,rfl,by decide +kernel,by decide +kernel⟩
noncomputable abbrev q0o:Stmt:=top 27
theorem sc__law_odd_wish:FnScope ["_law_script", "_law_size"] ["_law_script"] (defScope q0o):=⟨rfl,rfl,rfl,by decide +kernel,rfl,by decide +kernel,by decide +kernel⟩
noncomputable abbrev q1i:Stmt:=top 28
theorem sc__law_fits:FnScope ["_law_cube", "_law_wish", "_law_number"] ["_law_cube", "_law_wish"] (defScope q1i):=⟨rfl,rfl,rfl,by decide +kernel,rfl,by decide +kernel,by decide +kernel⟩
noncomputable abbrev q0s:Stmt:=top 29
theorem q7x:FnScope ["_law_script", "_law_first", "_law_many"] ["_law_script", "_law_first", "_law_many"] (defScope q0s):=⟨rfl,rfl,rfl,by decide +kernel,rfl,by decide +kernel,by decide +kernel⟩
noncomputable abbrev q00:Stmt:=top 30
theorem sc__law_grown:FnScope ["_law_wish", "_law_number", "_law_many", "_law_back", "_law_cube", "_law_k", "_law_at", "_law_wider"] ["_law_wish", "_law_number", "_law_many", "_law_back"] (defScope q00):=⟨rfl,rfl,rfl,by decide +kernel,rfl,by decide +kernel,by decide +kernel⟩
noncomputable abbrev q03:Stmt:=top 31
theorem sc__law_greedy:FnScope ["_law_wish", "_law_many", "_law_back", "_law_cover", "_law_inside", "_law_number"] ["_law_wish", "_law_many", "_law_back"] (defScope q03):=⟨rfl,rfl,rfl,by decide +kernel,rfl,by decide +kernel,by decide +kernel⟩
noncomputable abbrev q1l:Stmt:=top 32
theorem sc__law_due:FnScope ["_law_cover", "_law_wish", "_law_inside", "_law_cube"] ["_law_cover", "_law_wish"] (defScope q1l):=⟨rfl,rfl,rfl,by decide +kernel,rfl,by decide +kernel,by decide +kernel⟩
noncomputable abbrev q0z:Stmt:=top 33
theorem sc__law_refused:FnScope ["_law_wish", "e"] ["_law_wish"] (defScope q0z):=⟨rfl,rfl,rfl,by decide +kernel,rfl,by decide +kernel,by decide +kernel⟩
noncomputable abbrev q2x:Stmt:=top 34
theorem sc_law:FnScope ["_law_script", "_law_many", "_law_wish", "_law_way_here", "_law_cover", "_law_back", "_law_at", "_law_handed", "_law_found"] ["_law_script"] (defScope q2x):=⟨rfl,rfl,rfl,by decide +kernel,rfl,by decide +kernel,by decide +kernel⟩
noncomputable def q4x(K:PySem.W.Frag)(a:Adr)(r:Nat->List W->FR):List S->SR:=
 (dSeq (dApp 2 (dCons (dOp eq2 (dOp modW (dVar 3) (dC (.int 2))) (dC (.int 1))) dNil))
  (dSet 3 (dOp fdivW (dVar 3) (dC (.int 2)))))
noncomputable def q34(K:PySem.W.Frag)(a:Adr)(r:Nat->List W->FR):List S->SR:=
 (dSeq (dSetO 2 (dLst dNil))
  (dSeq (dSet 3 (dVar 0))
  (dSeq (dForR 4 rng1 (dCons (dVar 1) dNil)
  (q4x K a r))
  (dSeq (dIfS (dTest (dOp ne2 (dVar 3) (dC (.int 0))))
  (dRaise a.NoRow (dCons (dC (.str "no row of so many places has that number")) dNil))
  dNx)
  (dRet (dUn tuprevW (dVar 2)))))))
noncomputable def q3r(K:PySem.W.Frag)(a:Adr)(r:Nat->List W->FR):List S->SR:=
 (dSet 1 (dOp mulW (dC (.int 2)) (dVar 1)))
noncomputable def q21(K:PySem.W.Frag)(a:Adr)(r:Nat->List W->FR):List S->SR:=
 (dSeq (dSet 1 (dC (.int 1)))
  (dSeq (dForR 2 rng1 (dCons (dVar 0) dNil)
  (q3r K a r))
  (dRet (dVar 1))))
noncomputable def q5s(K:PySem.W.Frag)(a:Adr)(r:Nat->List W->FR):Den W:=
 (dCall (r q2r) (dCons (dVar 0) (dCons (dVar 1) dNil)))
noncomputable def q3a(K:PySem.W.Frag)(a:Adr)(r:Nat->List W->FR):List S->SR:=
 (dRetF (dCompR rng1 [0] (dCons (dCall (r q1t) (dCons (dVar 0) dNil)) dNil) dYes (q5s K a r)))
noncomputable def q4e(K:PySem.W.Frag)(a:Adr)(r:Nat->List W->FR):Den W:=
 (dOrV (dOp isW (dVar 0) (dC .non)) (dOp eq2 (dVar 0) (dVar 1)))
noncomputable def q3p(K:PySem.W.Frag)(a:Adr)(r:Nat->List W->FR):List S->SR:=
 (dSeq (dIfS (dTest (dOp ne2 (dFn len1 (dCons (dVar 0) dNil)) (dFn len1 (dCons (dVar 1) dNil))))
  (dRet (dC (.bl false)))
  dNx)
  (dRet (dFn all1 (dCons (dFz (dCompP [] (srcZ (dCons (dVar 0) (dCons (dVar 1) dNil))) dYes (q4e K a r))) dNil))))
noncomputable def q6f(K:PySem.W.Frag)(a:Adr)(r:Nat->List W->FR):Den W:=
 (dVar 0)
noncomputable def q6g(K:PySem.W.Frag)(a:Adr)(r:Nat->List W->FR):Den Bool:=
 (dTru (dCall (r q2s) (dCons (dVar 2) (dCons (dVar 1) dNil))))
noncomputable def q3q(K:PySem.W.Frag)(a:Adr)(r:Nat->List W->FR):List S->SR:=
 (dRetF (dCompP [0] (srcE (dCons (dCall (r q2k) (dCons (dFn len1 (dCons (dVar 0) dNil)) dNil)) dNil)) (q6g K a r) (q6f K a r)))
noncomputable def q3s(K:PySem.W.Frag)(a:Adr)(r:Nat->List W->FR):List S->SR:=
 (dIfS (dTest (dOp eq2 (dFn len1 (dCons (dVar 0) dNil)) (dCall (r q1t) (dCons (dVar 1) dNil))))
  (dRet (dVar 1))
  dNx)
noncomputable def q22(K:PySem.W.Frag)(a:Adr)(r:Nat->List W->FR):List S->SR:=
 (dSeq (dForR 1 rng1 (dCons (dOp addW (dC (.int 10)) (dC (.int 1))) dNil)
  (q3s K a r))
  (dRaise a.NoTable (dCons (dC (.str "no table has that length")) dNil)))
noncomputable def q1x(K:PySem.W.Frag)(a:Adr)(r:Nat->List W->FR):List S->SR:=
 (dSeq (dSet 1 (dCall (r q16) (dCons (dVar 0) dNil)))
  (dSeq (dIfS (dTest (dOp gtW (dVar 1) (dC (.int 4))))
  (dRaise a.NoTable (dCons (dC (.str "no wish has that length")) dNil))
  dNx)
  (dRet (dVar 1))))
noncomputable def x09(K:PySem.W.Frag)(a:Adr)(r:Nat->List W->FR):Den W:=
 (dOp nisW (dOp ixW (dVar 1) (dVar 0)) (dC (.bl false)))
noncomputable def q5t(K:PySem.W.Frag)(a:Adr)(r:Nat->List W->FR):List S->SR:=
 (dSeq (dIfS (dTest (dOp ne2 (dCall (r q1a) (dCons (dVar 1) dNil)) (dFn len1 (dCons (dVar 0) dNil))))
  (dRet (dC (.bl false)))
  dNx)
  (dRet (dFn all1 (dCons (dFz (dComp [1] (dCall (r q2g) (dCons (dVar 0) dNil)) dYes (x09 K a r))) dNil))))
noncomputable def q3b(K:PySem.W.Frag)(a:Adr)(r:Nat->List W->FR):List S->SR:=
 (dSeq (dIfS (dNot (dTru (dCall (r q33) (dCons (dVar 3) (dCons (dVar 1) dNil)))))
  (dRet (dC (.bl false)))
  dNx)
  (dSet 2 (dCall (r q17) (dCons (dVar 2) (dCons (dCall (r q2g) (dCons (dVar 3) dNil)) dNil)))))
noncomputable def q3l(K:PySem.W.Frag)(a:Adr)(r:Nat->List W->FR):List S->SR:=
 (dSeq (dSet 2 (dCall (r q1m) (dCons (dVar 1) dNil)))
  (dSeq (dFor 3 (dVar 0)
  (q3b K a r))
  (dRet (dOp eq2 (dFn len1 (dCons (dVar 2) dNil)) (dC (.int 0))))))
noncomputable def q4a(K:PySem.W.Frag)(a:Adr)(r:Nat->List W->FR):Den W:=
 (dVar 0)
noncomputable def q4b(K:PySem.W.Frag)(a:Adr)(r:Nat->List W->FR):Den Bool:=
 (dTest (dOp isW (dVar 1) (dC (.bl true))))
noncomputable def q1y(K:PySem.W.Frag)(a:Adr)(r:Nat->List W->FR):List S->SR:=
 (dSeq (dDrop (dCall (r q1a) (dCons (dVar 0) dNil)))
  (dRetF (dCompP [] (srcE (dCons (dVar 0) dNil)) (q4b K a r) (q4a K a r))))
noncomputable def q41(K:PySem.W.Frag)(a:Adr)(r:Nat->List W->FR):Den W:=
 (dVar 0)
noncomputable def q42(K:PySem.W.Frag)(a:Adr)(r:Nat->List W->FR):Den Bool:=
 (dTest (dOp ninW (dVar 0) (dVar 1)))
noncomputable def q23(K:PySem.W.Frag)(a:Adr)(r:Nat->List W->FR):List S->SR:=
 (dRetF (dComp [1] (dVar 0) (q42 K a r) (q41 K a r)))
noncomputable def q2c(K:PySem.W.Frag)(a:Adr)(r:Nat->List W->FR):List S->SR:=
 (dSeq (dIfS (dTest (dOp ltW (dVar 1) (dFn len1 (dCons (dVar 0) dNil))))
  (dRet (dOp ixW (dVar 0) (dVar 1)))
  dNx)
  (dRet (dC (.int 0))))
noncomputable def q3c(K:PySem.W.Frag)(a:Adr)(r:Nat->List W->FR):List S->SR:=
 (dSeq (dSet 3 (dOp modW (dOp addW (dOp addW (dOp mulW (dCall (r q04) (dCons (dVar 0) (dCons (dVar 1) dNil))) (dC (.int 48271))) (dOp mulW (dC (.int 7919)) (dFn len1 (dCons (dVar 0) dNil)))) (dOp mulW (dC (.int 104729)) (dVar 1))) (dC (.int 2147483647))))
  (dRet (dOp modW (dOp modW (dOp mulW (dVar 3) (dVar 3)) (dC (.int 2147483647))) (dVar 2))))
noncomputable def q24(K:PySem.W.Frag)(a:Adr)(r:Nat->List W->FR):List S->SR:=
 (dSeq (dSet 2 (dOp addW (dOp addW (dOp mulW (dCall (r q04) (dCons (dVar 0) (dCons (dOp addW (dC (.int 4)) (dVar 1)) dNil))) (dC (.int 40692))) (dOp mulW (dOp mulW (dCall (r q04) (dCons (dVar 0) (dCons (dC (.int 3)) dNil))) (dC (.int 48271))) (dOp addW (dVar 1) (dC (.int 1))))) (dOp mulW (dC (.int 7919)) (dVar 1))))
  (dRet (dOp modW (dOp mulB (dVar 2) (dVar 2)) (dC (.int 2147483399)))))
noncomputable def q43(K:PySem.W.Frag)(a:Adr)(r:Nat->List W->FR):Den W:=
 (dOp mulW (dC (.int 2)) (dVar 0))
noncomputable def q44(K:PySem.W.Frag)(a:Adr)(r:Nat->List W->FR):Den W:=
 (dOp addW (dOp mulW (dC (.int 2)) (dVar 0)) (dC (.int 1)))
noncomputable def q45(K:PySem.W.Frag)(a:Adr)(r:Nat->List W->FR):Den W:=
 (dOp addW (dOp mulW (dC (.int 2)) (dVar 0)) (dFn int1 (dCons (dVar 1) dNil)))
noncomputable def q1z(K:PySem.W.Frag)(a:Adr)(r:Nat->List W->FR):List S->SR:=
 (dIfS (dTest (dOp isW (dVar 2) (dC .non)))
  (dSet 1 (dOp addW (dFz (dComp [] (dVar 1) dYes (q43 K a r))) (dFz (dComp [] (dVar 1) dYes (q44 K a r)))))
  (dSet 1 (dFz (dComp [2] (dVar 1) dYes (q45 K a r)))))
noncomputable def q2o(K:PySem.W.Frag)(a:Adr)(r:Nat->List W->FR):List S->SR:=
 (dSeq (dSet 1 (dFz (dLst (dCons (dC (.int 0)) dNil))))
  (dSeq (dFor 2 (dVar 0)
  (q1z K a r))
  (dRet (dFn sorted1 (dCons (dVar 1) dNil)))))
noncomputable def q1v(K:PySem.W.Frag)(a:Adr)(r:Nat->List W->FR):Den W:=
 (dOp ixW (dVar 2) (dOp modW (dCall (r q0m) (dCons (dVar 1) (dCons (dVar 0) dNil))) (dFn len1 (dCons (dVar 2) dNil))))
noncomputable def q2d(K:PySem.W.Frag)(a:Adr)(r:Nat->List W->FR):List S->SR:=
 (dSeq (dSet 2 (dFz (dLst (dCons (dFz (dLst (dCons (dC (.bl false)) (dCons (dC (.bl true)) (dCons (dC .non) dNil))))) (dCons (dFz (dLst (dCons (dC (.bl false)) (dCons (dC (.bl true)) (dCons (dC (.bl true)) dNil))))) (dCons (dFz (dLst (dCons (dC (.bl false)) (dCons (dC (.bl false)) (dCons (dC (.bl true)) (dCons (dC .non) dNil)))))) (dCons (dFz (dLst (dCons (dC (.bl true)) (dCons (dC (.bl true)) (dCons (dC .non) (dCons (dC (.bl false)) (dCons (dC (.bl true)) dNil))))))) dNil)))))))
  (dSeq (dSet 2 (dOp addW (dVar 2) (dFz (dLst (dCons (dFz (dLst (dCons (dC (.bl false)) (dCons (dC (.bl true)) dNil)))) (dCons (dFz (dLst (dCons (dC (.bl false)) (dCons (dC (.bl true)) dNil)))) (dCons (dFz (dLst (dCons (dC (.bl false)) (dCons (dC .non) (dCons (dC (.bl true)) dNil))))) (dCons (dFz (dLst (dCons (dC (.bl true)) (dCons (dC (.bl false)) (dCons (dC (.bl false)) (dCons (dC (.bl false)) dNil)))))) dNil))))))))
  (dSeq (dSet 3 (dOp ixW (dVar 2) (dCall (r q05) (dCons (dVar 0) (dCons (dC (.int 1)) (dCons (dC (.int 8)) dNil))))))
  (dSeq (dSet 4 (dCall (r q05) (dCons (dVar 0) (dCons (dC (.int 2)) (dCons (dC (.int 20)) dNil)))))
  (dSeq (dIfS (dTest (dOp ltW (dVar 4) (dC (.int 3))))
  (dSet 3 (dOp ixW (dFz (dLst (dCons (dFz (dLst (dCons (dC (.bl true)) dNil))) (dCons (dFz (dLst (dCons (dC (.bl false)) dNil))) (dCons (dFz (dLst (dCons (dC .non) dNil))) dNil))))) (dVar 4)))
  dNx)
  (dRetF (dCompR rng1 [0,3] (dCons (dOp ixW (dFz (dLst (dCons (dC (.int 1)) (dCons (dC (.int 2)) (dCons (dC (.int 4)) (dCons (dC (.int 8)) (dCons (dC (.int 16)) dNil))))))) (dVar 1)) dNil) dYes (q1v K a r))))))))
noncomputable def q2y(K:PySem.W.Frag)(a:Adr)(r:Nat->List W->FR):Den W:=
 (dOp ixW (dFz (dLst (dCons (dC (.bl true)) (dCons (dC (.bl false)) (dCons (dC .non) dNil))))) (dOp modW (dCall (r q0m) (dCons (dVar 1) (dCons (dVar 0) dNil))) (dC (.int 3))))
noncomputable def q14(K:PySem.W.Frag)(a:Adr)(r:Nat->List W->FR):List S->SR:=
 (dSeq (dSet 1 (dOp ixW (dFz (dLst (dCons (dC (.int 0)) (dCons (dC (.int 3)) (dCons (dC (.int 5)) (dCons (dC (.int 6)) (dCons (dC (.int 7)) (dCons (dC (.int 9)) (dCons (dC (.int 12)) (dCons (dC (.int 15)) (dCons (dC (.int 17)) (dCons (dC (.int 24)) (dCons (dC (.int 31)) (dCons (dC (.int 32)) (dCons (dC (.int 64)) dNil))))))))))))))) (dCall (r q05) (dCons (dVar 0) (dCons (dC (.int 2)) (dCons (dC (.int 13)) dNil))))))
  (dRetF (dCompR rng1 [0] (dCons (dVar 1) dNil) dYes (q2y K a r))))
noncomputable def q2m(K:PySem.W.Frag)(a:Adr)(r:Nat->List W->FR):List S->SR:=
 (dIfS (dTest (dOp isW (dOp ixW (dVar 1) (dVar 2)) (dC (.bl false))))
  (dRet (dC (.bl false)))
  dNx)
noncomputable def q2p(K:PySem.W.Frag)(a:Adr)(r:Nat->List W->FR):List S->SR:=
 (dSeq (dFor 2 (dCall (r q1d) (dCons (dVar 0) dNil))
  (q2m K a r))
  (dRet (dC (.bl true))))
noncomputable def q26(K:PySem.W.Frag)(a:Adr)(r:Nat->List W->FR):Den W:=
 (dOp ixW (dFz (dLst (dCons (dC .non) (dCons (dC (.bl false)) (dCons (dC (.bl true)) dNil))))) (dOp modW (dCall (r q0m) (dCons (dVar 1) (dCons (dOp addW (dVar 2) (dVar 0)) dNil))) (dC (.int 3))))
noncomputable def q2e(K:PySem.W.Frag)(a:Adr)(r:Nat->List W->FR):List S->SR:=
 (dRet (dFn tup1 (dCons (dFz (dCompR rng1 [0,1] (dCons (dVar 2) dNil) dYes (q26 K a r))) dNil)))
noncomputable def q3m(K:PySem.W.Frag)(a:Adr)(r:Nat->List W->FR):List S->SR:=
 (dSeq (dSet 6 (dIf (dTru (dVar 3)) (dOp subW (dOp subW (dVar 2) (dC (.int 1))) (dVar 5)) (dVar 5)))
  (dSeq (dSet 7 (dOp addW (dOp addW (dSl (dVar 4) dNoPart (dPart (dVar 6))) (dFz (dLst (dCons (dC .non) dNil)))) (dSl (dVar 4) (dPart (dOp addW (dVar 6) (dC (.int 1)))) dNoPart)))
  (dIfS (dTru (dCall (r q1e) (dCons (dVar 7) (dCons (dVar 0) dNil))))
  (dSet 4 (dVar 7))
  dNx)))
noncomputable def q3n(K:PySem.W.Frag)(a:Adr)(r:Nat->List W->FR):Den W:=
 (dOp eq2 (dOp modW (dOp fdivW (dVar 1) (dOp ixW (dFz (dLst (dCons (dC (.int 1)) (dCons (dC (.int 2)) (dCons (dC (.int 4)) (dCons (dC (.int 8)) (dCons (dC (.int 16)) dNil))))))) (dOp subW (dOp subW (dVar 2) (dC (.int 1))) (dVar 0)))) (dC (.int 2))) (dC (.int 1)))
noncomputable def q2u(K:PySem.W.Frag)(a:Adr)(r:Nat->List W->FR):List S->SR:=
 (dSeq (dSet 4 (dFz (dCompR rng1 [1,2] (dCons (dVar 2) dNil) dYes (q3n K a r))))
  (dSeq (dForR 5 rng1 (dCons (dVar 2) dNil)
  (q3m K a r))
  (dRet (dFn tup1 (dCons (dVar 4) dNil)))))
noncomputable def q3d(K:PySem.W.Frag)(a:Adr)(r:Nat->List W->FR):List S->SR:=
 (dIfS (dAnd (dTest (dOp isW (dOp ixW (dVar 0) (dVar 5)) (dC (.bl true)))) (dTest (dOp ninW (dVar 5) (dVar 4))))
  (dSeq (dApp 3 (dCons (dCall (r q1u) (dCons (dVar 0) (dCons (dVar 5) (dCons (dVar 1) (dCons (dVar 2) dNil))))) dNil))
  (dSet 4 (dOp addW (dVar 4) (dCall (r q1d) (dCons (dIxV 3 (dUn negW (dC (.int 1)))) dNil)))))
  dNx)
noncomputable def q2n(K:PySem.W.Frag)(a:Adr)(r:Nat->List W->FR):List S->SR:=
 (dSeq (dSetO 3 (dLst dNil))
  (dSeq (dSet 4 (dFz (dLst dNil)))
  (dSeq (dForR 5 rng1 (dCons (dFn len1 (dCons (dVar 0) dNil)) dNil)
  (q3d K a r))
  (dRetO 3))))
noncomputable def q5u(K:PySem.W.Frag)(a:Adr)(r:Nat->List W->FR):Den W:=
 (dVar 0)
noncomputable def q5v(K:PySem.W.Frag)(a:Adr)(r:Nat->List W->FR):Den Bool:=
 (dAnd (dTest (dOp isW (dOp ixW (dVar 1) (dVar 0)) (dC (.bl true)))) (dTest (dOp ninW (dVar 0) (dVar 2))))
noncomputable def q2v(K:PySem.W.Frag)(a:Adr)(r:Nat->List W->FR):List S->SR:=
 (dSeq (dIfS (dNot (dTru (dCall (r q1e) (dCons (dVar 3) (dCons (dVar 1) dNil)))))
  (dRet (dC (.bl false)))
  dNx)
  (dSet 2 (dOp addW (dVar 2) (dCall (r q1d) (dCons (dVar 3) dNil)))))
noncomputable def q3e(K:PySem.W.Frag)(a:Adr)(r:Nat->List W->FR):List S->SR:=
 (dSeq (dSet 2 (dFz (dLst dNil)))
  (dSeq (dFor 3 (dVar 0)
  (q2v K a r))
  (dRet (dOp eq2 (dFz (dCompR rng1 [1,2] (dCons (dFn len1 (dCons (dVar 1) dNil)) dNil) (q5v K a r) (q5u K a r))) (dFz (dLst dNil))))))
noncomputable def q2f(K:PySem.W.Frag)(a:Adr)(r:Nat->List W->FR):List S->SR:=
 (dSeq (dTry K a.CircuitError 1 2
  (dDrop (dCall (r q1r) (dCons (dFz (dLst dNil)) (dCons (dVar 0) dNil))))
  (dRet (dIsi K (.ref a.NoTable) (dVar 1))))
  (dRet (dC (.bl false))))
noncomputable def q57(K:PySem.W.Frag)(a:Adr)(r:Nat->List W->FR):Den W:=
 (dCall (r q06) (dCons (dVar 1) (dCons (dOp addW (dC (.int 20)) (dOp mulW (dC (.int 5)) (dVar 0))) (dCons (dVar 2) dNil))))
noncomputable def q7y(K:PySem.W.Frag)(a:Adr)(r:Nat->List W->FR):List S->SR:=
 (dSeq (dIfS (dTest (dOp eq2 (dOp fdivW (dCall (r q05) (dCons (dVar 0) (dCons (dC (.int 0)) (dCons (dC (.int 40)) dNil)))) (dC (.int 5))) (dC (.int 1))))
  (dRet (dCall (r q1c) (dCons (dCall (r q07) (dCons (dVar 0) dNil)) dNil)))
  dNx)
  (dSeq (dSet 1 (dCall (r q05) (dCons (dVar 0) (dCons (dC (.int 0)) (dCons (dC (.int 5)) dNil)))))
  (dSeq (dSet 2 (dCall (r q1b) (dCons (dVar 0) (dCons (dVar 1) dNil))))
  (dSeq (dSet 3 (dOp modW (dCall (r q0m) (dCons (dVar 0) (dCons (dC (.int 18)) dNil))) (dC (.int 8))))
  (dSeq (dSet 4 (dFz (dCompR rng1 [0,1] (dCons (dOp modW (dCall (r q0m) (dCons (dVar 0) (dCons (dC (.int 19)) dNil))) (dOp addW (dC (.int 7)) (dOp mulW (dC (.int 10)) (dOp modW (dVar 3) (dC (.int 2)))))) dNil) dYes (q57 K a r))))
  (dSeq (dSet 5 (dOp eq2 (dOp modW (dCall (r q0m) (dCons (dVar 0) (dCons (dC (.int 17)) dNil))) (dC (.int 2))) (dC (.int 1))))
  (dSeq (dIfS (dTest (dOp gtW (dVar 3) (dC (.int 2))))
  (dSet 4 (dCall (r q01) (dCons (dVar 2) (dCons (dVar 1) (dCons (dVar 5) dNil)))))
  dNx)
  (dSeq (dIfS (dOr (dTest (dOp eq2 (dVar 3) (dC (.int 4)))) (dTest (dOp eq2 (dVar 3) (dC (.int 7)))))
  (dSet 4 (dOp addW (dVar 4) (dCall (r q01) (dCons (dVar 2) (dCons (dVar 1) (dCons (dNotV (dVar 5)) dNil))))))
  dNx)
  (dSeq (dSet 6 (dOp modW (dCall (r q0m) (dCons (dVar 0) (dCons (dC (.int 16)) dNil))) (dOp addW (dFn len1 (dCons (dVar 4) dNil)) (dC (.int 1)))))
  (dSeq (dIfS (dOr (dTest (dOp eq2 (dVar 3) (dC (.int 5)))) (dTest (dOp eq2 (dVar 3) (dC (.int 6)))))
  (dSet 4 (dOp addW (dSl (dVar 4) dNoPart (dPart (dVar 6))) (dSl (dVar 4) (dPart (dOp addW (dVar 6) (dC (.int 1)))) dNoPart)))
  dNx)
  (dSeq (dIfS (dTest (dOp eq2 (dVar 3) (dC (.int 7))))
  (dSet 4 (dOp addW (dOp addW (dSl (dVar 4) dNoPart (dPart (dVar 6))) (dFz (dLst (dCons (dCall (r q06) (dCons (dVar 0) (dCons (dC (.int 60)) (dCons (dVar 1) dNil)))) dNil)))) (dSl (dVar 4) (dPart (dVar 6)) dNoPart)))
  dNx)
  (dSeq (dSetN2 7 (dList (dCons (dVar 4) dNil)) (dList (dCons (dVar 2) dNil)))
  (dSeq (dSet 8 (dBorrow (dCall (r q1r) (dCons (dOp ixW (dVar 7) (dC (.int 0))) (dCons (dOp ixW (dVar 7) (dC (.int 1))) dNil)))))
  (dSeq (dIfS (dOr (dNot (dTru (dIsi K (.type "bool") (dVar 8)))) (dOr (dTest (dOp ne2 (dVar 8) (dCall (r q13) (dCons (dVar 4) (dCons (dVar 2) dNil))))) (dBorrowT (dTest (dOp ne2 (dVar 7) (dFz (dLst (dCons (dVar 4) (dCons (dVar 2) dNil)))))))))
  (dRet (dC (.bl false)))
  dNx)
  (dSeq (dClearN 7 0)
  (dSeq (dClearN 7 1)
  (dRet (dOp eq2 (dCall (r q1r) (dCons (dVar 4) (dCons (dVar 2) dNil))) (dVar 8)))))))))))))))))))
noncomputable def body(K:PySem.W.Frag)(a:Adr)(r:Nat->List W->FR)(ws:List W):Nat->FR
 |0=>if ws.length=2 then(q34 K a r (init 5 ws)).fn else .no
 |1=>if ws.length=1 then(q21 K a r (init 3 ws)).fn else .no
 |2=>if ws.length=1 then(q3a K a r (init 1 ws)).fn else .no
 |3=>if ws.length=2 then(q3p K a r (init 2 ws)).fn else .no
 |4=>if ws.length=1 then(q3q K a r (init 1 ws)).fn else .no
 |5=>if ws.length=1 then(q22 K a r (init 2 ws)).fn else .no
 |6=>if ws.length=1 then(q1x K a r (init 2 ws)).fn else .no
 |7=>if ws.length=2 then(q5t K a r (init 2 ws)).fn else .no
 |8=>if ws.length=2 then(q3l K a r (init 4 ws)).fn else .no
 |9=>if ws.length=1 then(q1y K a r (init 1 ws)).fn else .no
 |10=>if ws.length=2 then(q23 K a r (init 2 ws)).fn else .no
 |11=>if ws.length=2 then(q2c K a r (init 2 ws)).fn else .no
 |12=>if ws.length=3 then(q3c K a r (init 4 ws)).fn else .no
 |13=>if ws.length=2 then(q24 K a r (init 3 ws)).fn else .no
 |14=>if ws.length=1 then(q2o K a r (init 3 ws)).fn else .no
 |15=>if ws.length=2 then(q2d K a r (init 5 ws)).fn else .no
 |16=>if ws.length=1 then(q14 K a r (init 2 ws)).fn else .no
 |17=>if ws.length=2 then(q2p K a r (init 3 ws)).fn else .no
 |18=>if ws.length=3 then(q2e K a r (init 3 ws)).fn else .no
 |19=>if ws.length=4 then(q2u K a r (init 8 ws)).fn else .no
 |20=>if ws.length=3 then(q2n K a r (init 6 ws)).fn else .no
 |21=>if ws.length=2 then(q3e K a r (init 4 ws)).fn else .no
 |22=>if ws.length=1 then(q2f K a r (init 2 ws)).fn else .no
 |23=>if ws.length=1 then(q7y K a r (init 9 ws)).fn else .no
 |_=>.no
noncomputable def run(K:PySem.W.Frag)(a:Adr):Nat->Nat->List W->FR
 |0,_,_=>.no
 |n+1,i,ws=>body K a (run K a n) ws i
theorem q7z:run K a (n+1) q2r ws=if ws.length=2 then(q34 K a (run K a n) (init 5 ws)).fn else .no:=rfl
theorem q46:run K a (n+1) q1t ws=if ws.length=1 then(q21 K a (run K a n) (init 3 ws)).fn else .no:=rfl
theorem q5w:run K a (n+1) q2k ws=if ws.length=1 then(q3a K a (run K a n) (init 1 ws)).fn else .no:=rfl
theorem q6h:run K a (n+1) q2s ws=if ws.length=2 then(q3p K a (run K a n) (init 2 ws)).fn else .no:=rfl
theorem q6i:run K a (n+1) q2g ws=if ws.length=1 then(q3q K a (run K a n) (init 1 ws)).fn else .no:=rfl
theorem q47:run K a (n+1) q16 ws=if ws.length=1 then(q22 K a (run K a n) (init 2 ws)).fn else .no:=rfl
theorem q3f:run K a (n+1) q1a ws=if ws.length=1 then(q1x K a (run K a n) (init 2 ws)).fn else .no:=rfl
theorem x1a:run K a (n+1) q33 ws=if ws.length=2 then(q5t K a (run K a n) (init 2 ws)).fn else .no:=rfl
theorem q4y:run K a (n+1) q1r ws=if ws.length=2 then(q3l K a (run K a n) (init 4 ws)).fn else .no:=rfl
theorem q3g:run K a (n+1) q1m ws=if ws.length=1 then(q1y K a (run K a n) (init 1 ws)).fn else .no:=rfl
theorem q48:run K a (n+1) q17 ws=if ws.length=2 then(q23 K a (run K a n) (init 2 ws)).fn else .no:=rfl
theorem q35:run K a (n+1) q04 ws=if ws.length=2 then(q2c K a (run K a n) (init 2 ws)).fn else .no:=rfl
theorem q5x:run K a (n+1) q05 ws=if ws.length=3 then(q3c K a (run K a n) (init 4 ws)).fn else .no:=rfl
theorem q49:run K a (n+1) q0m ws=if ws.length=2 then(q24 K a (run K a n) (init 3 ws)).fn else .no:=rfl
theorem q3t:run K a (n+1) q1d ws=if ws.length=1 then(q2o K a (run K a n) (init 3 ws)).fn else .no:=rfl
theorem q36:run K a (n+1) q1b ws=if ws.length=2 then(q2d K a (run K a n) (init 5 ws)).fn else .no:=rfl
theorem q3v:run K a (n+1) q07 ws=if ws.length=1 then(q14 K a (run K a n) (init 2 ws)).fn else .no:=rfl
theorem q3u:run K a (n+1) q1e ws=if ws.length=2 then(q2p K a (run K a n) (init 3 ws)).fn else .no:=rfl
theorem q37:run K a (n+1) q06 ws=if ws.length=3 then(q2e K a (run K a n) (init 3 ws)).fn else .no:=rfl
theorem q4m:run K a (n+1) q1u ws=if ws.length=4 then(q2u K a (run K a n) (init 8 ws)).fn else .no:=rfl
theorem q4c:run K a (n+1) q01 ws=if ws.length=3 then(q2n K a (run K a n) (init 6 ws)).fn else .no:=rfl
theorem q5y:run K a (n+1) q13 ws=if ws.length=2 then(q3e K a (run K a n) (init 4 ws)).fn else .no:=rfl
theorem q38:run K a (n+1) q1c ws=if ws.length=1 then(q2f K a (run K a n) (init 2 ws)).fn else .no:=rfl
theorem x2v:run K a (n+1) q39 ws=if ws.length=1 then(q7y K a (run K a n) (init 9 ws)).fn else .no:=rfl
section
variable{P:Program}{w:World}{base:Heap}
structure Ats(K:PySem.W.Frag)(mg:Str->Option Value):Prop where
 row_of:At K mg "row_of" q18 ["number", "many"]
 rows_many:At K mg "rows_many" q1f ["many"]
 all_rows:At K mg "all_rows" q1k ["many"]
 in_cube:At K mg "in_cube" q1p ["cube", "row"]
 rows_in:At K mg "rows_in" q1q ["cube"]
 places_of:At K mg "places_of" q1g ["table"]
 wish_places:At K mg "wish_places" q02 ["wish"]
 fits:At K mg "fits" q2t ["cube", "wish"]
 covers:At K mg "covers" q19 ["cover", "wish"]
 wished_rows:At K mg "wished_rows" q0w ["wish"]
 rows_left:At K mg "rows_left" q09 ["numbers", "taken"]
 _law_cell_at:At K mg "_law_cell_at" q0x ["_law_script", "_law_k"]
 _law_way:At K mg "_law_way" q1o ["_law_script", "_law_k", "_law_many"]
 _law_mark:At K mg "_law_mark" q1h ["_law_script", "_law_k"]
 _law_rows:At K mg "_law_rows" q0y ["_law_cube"]
 _law_wish_by:At K mg "_law_wish_by" q0r ["_law_script", "_law_many"]
 _law_odd_wish:At K mg "_law_odd_wish" q0o ["_law_script"]
 _law_fits:At K mg "_law_fits" q1i ["_law_cube", "_law_wish"]
 _law_cube_at:At K mg "_law_cube_at" q0s ["_law_script", "_law_first", "_law_many"]
 _law_grown:At K mg "_law_grown" q00 ["_law_wish", "_law_number", "_law_many", "_law_back"]
 _law_greedy:At K mg "_law_greedy" q03 ["_law_wish", "_law_many", "_law_back"]
 _law_due:At K mg "_law_due" q1l ["_law_cover", "_law_wish"]
 _law_refused:At K mg "_law_refused" q0z ["_law_wish"]
 law:At K mg "law" q2x ["_law_script"]
structure Cals(P:Program)(w:World)(K:PySem.W.Frag)(mg:Str->Option Value)(base:Heap)(a:Adr)(n:Nat):Prop where
 row_of:Cal P w K mg base n "row_of" ["number", "many"] (spF K (run K a n q2r))
 rows_many:Cal P w K mg base n "rows_many" ["many"] (spF K (run K a n q1t))
 all_rows:Cal P w K mg base n "all_rows" ["many"] (spF K (run K a n q2k))
 in_cube:Cal P w K mg base n "in_cube" ["cube", "row"] (spF K (run K a n q2s))
 rows_in:Cal P w K mg base n "rows_in" ["cube"] (spF K (run K a n q2g))
 places_of:Cal P w K mg base n "places_of" ["table"] (spF K (run K a n q16))
 wish_places:Cal P w K mg base n "wish_places" ["wish"] (spF K (run K a n q1a))
 fits:Cal P w K mg base n "fits" ["cube", "wish"] (spF K (run K a n q33))
 covers:Cal P w K mg base n "covers" ["cover", "wish"] (spF K (run K a n q1r))
 wished_rows:Cal P w K mg base n "wished_rows" ["wish"] (spF K (run K a n q1m))
 rows_left:Cal P w K mg base n "rows_left" ["numbers", "taken"] (spF K (run K a n q17))
 _law_cell_at:Cal P w K mg base n "_law_cell_at" ["_law_script", "_law_k"] (spF K (run K a n q04))
 _law_way:Cal P w K mg base n "_law_way" ["_law_script", "_law_k", "_law_many"] (spF K (run K a n q05))
 _law_mark:Cal P w K mg base n "_law_mark" ["_law_script", "_law_k"] (spF K (run K a n q0m))
 _law_rows:Cal P w K mg base n "_law_rows" ["_law_cube"] (spF K (run K a n q1d))
 _law_wish_by:Cal P w K mg base n "_law_wish_by" ["_law_script", "_law_many"] (spF K (run K a n q1b))
 _law_odd_wish:Cal P w K mg base n "_law_odd_wish" ["_law_script"] (spF K (run K a n q07))
 _law_fits:Cal P w K mg base n "_law_fits" ["_law_cube", "_law_wish"] (spF K (run K a n q1e))
 _law_cube_at:Cal P w K mg base n "_law_cube_at" ["_law_script", "_law_first", "_law_many"] (spF K (run K a n q06))
 _law_grown:Cal P w K mg base n "_law_grown" ["_law_wish", "_law_number", "_law_many", "_law_back"] (spF K (run K a n q1u))
 _law_greedy:Cal P w K mg base n "_law_greedy" ["_law_wish", "_law_many", "_law_back"] (spF K (run K a n q01))
 _law_due:Cal P w K mg base n "_law_due" ["_law_cover", "_law_wish"] (spF K (run K a n q13))
 _law_refused:Cal P w K mg base n "_law_refused" ["_law_wish"] (spF K (run K a n q1c))
 law:Cal P w K mg base n "law" ["_law_script"] (spF K (run K a n q39))
structure CalsH(P:Program)(w:World)(K:PySem.W.Frag)(mg:Str->Option Value)(base:Heap)(a:Adr)(n:Nat):Prop where
 z:True
theorem x7w(B:Blt mg)(M:Exs K mg a)(C:Cals P w K mg base a n)(CH:CalsH P w K mg base a n){outer:List Env}(hr:Room n (A.deeper (PyProof.Rows.envOfC "row_of" (defScope q18) s.heap.objs.size f cdv))):
  DSs Z (cxOf (CX1 P w) P w K mg base ["number", "many", "truths", "rest", "step"] "row_of" (defScope q18) f cdv A outer s H E) (fun _=>E) (defBody q18) (q34 K a (run K a n)):=
 (q0e (x4k 2 sc_row_of.nd (q0n q0c))
  (q0e (q0l 3 sc_row_of.nd (dv 0))
  (q0e (q4k 4 sc_row_of.nd PassesOwn.leaving rfl B.b_range (q0a (dv 1) q0c)
  (q0e (x4n 2 (q0a (q4u (q0u hr) (q11 (dv 3) q0d) q0d) q0c))
  (q0f (q0l 3 sc_row_of.nd (q8h (dv 3) q0d)))))
  (q0e (q1s (q7q (q0u hr) (dv 3) q0d)
  (q0f (q60 rais1 M.e_NoRow M.m_NoRow rfl (q0a x0e q0c)))
  q08)
  (q0f (q0t (x42 rfl B.b_tuple B.b_reversed (dv 2))))))))
theorem x1b(h:run K a (n+1) q2r ws≠.no):ws.length=2/\(q34 K a (run K a n) (init 5 ws)).fn=run K a (n+1) q2r ws:=by
 rw[q7z]at h |-;split at h
 ·rename_i hl;rw[if_pos hl];exact⟨hl,rfl⟩
 ·exact absurd rfl h
theorem x5s(B:Blt mg)(M:Exs K mg a)(C:Cals P w K mg base a n)(CH:CalsH P w K mg base a n)(A:Ats K mg):Cal P w K mg base (n+1) "row_of" ["number", "many"] (spF K (run K a (n+1) q2r)):=
 con A.row_of sc_row_of (fun ws hw=>(x1b hw).1) fun ws hw f cdv A outer s H E Z hr=>⟨_,x7w B M C CH hr,(x1b hw).2⟩
theorem x1y(B:Blt mg)(M:Exs K mg a)(C:Cals P w K mg base a n)(CH:CalsH P w K mg base a n){outer:List Env}(hr:Room n (A.deeper (PyProof.Rows.envOfC "rows_many" (defScope q1f) s.heap.objs.size f cdv))):
  DSs Z (cxOf (CX1 P w) P w K mg base ["many", "count", "place"] "rows_many" (defScope q1f) f cdv A outer s H E) (fun _=>E) (defBody q1f) (q21 K a (run K a n)):=
 (q0e (q0l 1 sc_rows_many.nd q0d)
  (q0e (q4k 2 sc_rows_many.nd PassesOwn.leaving rfl B.b_range (q0a (dv 0) q0c)
  (q0f (q0l 1 sc_rows_many.nd (q10 q0d (dv 1)))))
  (q0f (q0t (dv 1)))))
theorem q6j(h:run K a (n+1) q1t ws≠.no):ws.length=1/\(q21 K a (run K a n) (init 3 ws)).fn=run K a (n+1) q1t ws:=by
 rw[q46]at h |-;split at h
 ·rename_i hl;rw[if_pos hl];exact⟨hl,rfl⟩
 ·exact absurd rfl h
theorem x1c(B:Blt mg)(M:Exs K mg a)(C:Cals P w K mg base a n)(CH:CalsH P w K mg base a n)(A:Ats K mg):Cal P w K mg base (n+1) "rows_many" ["many"] (spF K (run K a (n+1) q1t)):=
 con A.rows_many sc_rows_many (fun ws hw=>(q6j hw).1) fun ws hw f cdv A outer s H E Z hr=>⟨_,x1y B M C CH hr,(q6j hw).2⟩
theorem x3p(B:Blt mg)(M:Exs K mg a)(C:Cals P w K mg base a n)(CH:CalsH P w K mg base a n){outer:List Env}(hr:Room n (A.deeper (PyProof.Rows.envOfC "all_rows" (defScope q1k) s.heap.objs.size f cdv))):
  DSs Z (cxOf (CX1 P w) P w K mg base ["many"] "all_rows" (defScope q1k) f cdv A outer s H E) (fun _=>E) (defBody q1k) (q3a K a (run K a n)):=
 (q0f (q3x (q32 (x:="number") (Nf:=["many"]) (js:=[0]) (sc:=defScope q1k) (N:=["many"]) rfl B.b_range (q0a (q0i C.rows_many hr pass1 (q0a (dv 0) q0c)) q0c) (by decide +kernel)
   (fun _ _ _ _ _ _=>q2b)
   (fun _ _ _ _ _ _=>(q0i C.row_of hr passE (q0a (dv 0) (q0a (dv 1) q0c))))
   (fun _ _ _ _ _=>q1w 0 (show(["number", "many"]:List Str).Nodup by decide +kernel)))))
theorem q70(h:run K a (n+1) q2k ws≠.no):ws.length=1/\(q3a K a (run K a n) (init 1 ws)).fn=run K a (n+1) q2k ws:=by
 rw[q5w]at h |-;split at h
 ·rename_i hl;rw[if_pos hl];exact⟨hl,rfl⟩
 ·exact absurd rfl h
theorem x1z(B:Blt mg)(M:Exs K mg a)(C:Cals P w K mg base a n)(CH:CalsH P w K mg base a n)(A:Ats K mg):Cal P w K mg base (n+1) "all_rows" ["many"] (spF K (run K a (n+1) q2k)):=
 con A.all_rows x1x (fun ws hw=>(q70 hw).1) fun ws hw f cdv A outer s H E Z hr=>⟨_,x3p B M C CH hr,(q70 hw).2⟩
theorem x5t(B:Blt mg)(M:Exs K mg a)(C:Cals P w K mg base a n)(CH:CalsH P w K mg base a n){outer:List Env}(hr:Room n (A.deeper (PyProof.Rows.envOfC "in_cube" (defScope q1p) s.heap.objs.size f cdv))):
  DSs Z (cxOf (CX1 P w) P w K mg base ["cube", "row"] "in_cube" (defScope q1p) f cdv A outer s H E) (fun _=>E) (defBody q1p) (q3p K a (run K a n)):=
 (q0e (q1s (q7q (q0u hr) (q2l B.b_len (q0a (dv 0) q0c)) (q2l B.b_len (q0a (dv 1) q0c)))
  (q0f (q0t q0k))
  q08)
  (q0f (q0t (x43 rfl B.b_all (q0a (q0q (q64 (x:="wanted") (y:="truth") (Nf:=[]) (js:=[]) (sc:=defScope q1p) (N:=["cube", "row"]) rfl (y3m B.b_zip (q0a (dv 0) (q0a (dv 1) q0c))) (by decide +kernel)
   (fun _ _ _ _ _ _=>q2b)
   (fun _ _ _ _ _ _=>(y39 (y4g (dv 0) q2z) (y1i (q4u (q0u hr) (dv 0) (dv 1)))))
   (fun _ _ _ _ _=>x0x (show(["wanted", "truth"]:List Str).Nodup by decide +kernel) rfl))) q0c)))))
theorem q9k(h:run K a (n+1) q2s ws≠.no):ws.length=2/\(q3p K a (run K a n) (init 2 ws)).fn=run K a (n+1) q2s ws:=by
 rw[q6h]at h |-;split at h
 ·rename_i hl;rw[if_pos hl];exact⟨hl,rfl⟩
 ·exact absurd rfl h
theorem x3q(B:Blt mg)(M:Exs K mg a)(C:Cals P w K mg base a n)(CH:CalsH P w K mg base a n)(A:Ats K mg):Cal P w K mg base (n+1) "in_cube" ["cube", "row"] (spF K (run K a (n+1) q2s)):=
 con A.in_cube x3n (fun ws hw=>(q9k hw).1) fun ws hw f cdv A outer s H E Z hr=>⟨_,x5t B M C CH hr,(q9k hw).2⟩
theorem x5u(B:Blt mg)(M:Exs K mg a)(C:Cals P w K mg base a n)(CH:CalsH P w K mg base a n){outer:List Env}(hr:Room n (A.deeper (PyProof.Rows.envOfC "rows_in" (defScope q1q) s.heap.objs.size f cdv))):
  DSs Z (cxOf (CX1 P w) P w K mg base ["cube"] "rows_in" (defScope q1q) f cdv A outer s H E) (fun _=>E) (defBody q1q) (q3q K a (run K a n)):=
 (q0f (q3x (q64 (x:="number") (y:="row") (Nf:=["cube"]) (js:=[0]) (sc:=defScope q1q) (N:=["cube"]) rfl (x2p B.b_enumerate (q0a (q0i C.all_rows hr pass1 (q0a (q2l B.b_len (q0a (dv 0) q0c)) q0c)) q0c)) (by decide +kernel)
   (fun _ _ _ _ _ _=>(q54 (q4j (q0i C.in_cube hr passE (q0a (dv 2) (q0a (dv 1) q0c))))))
   (fun _ _ _ _ _ _=>(dv 0))
   (fun _ _ _ _ _=>x0x (show(["number", "row", "cube"]:List Str).Nodup by decide +kernel) rfl))))
theorem q9l(h:run K a (n+1) q2g ws≠.no):ws.length=1/\(q3q K a (run K a n) (init 1 ws)).fn=run K a (n+1) q2g ws:=by
 rw[q6i]at h |-;split at h
 ·rename_i hl;rw[if_pos hl];exact⟨hl,rfl⟩
 ·exact absurd rfl h
theorem x3r(B:Blt mg)(M:Exs K mg a)(C:Cals P w K mg base a n)(CH:CalsH P w K mg base a n)(A:Ats K mg):Cal P w K mg base (n+1) "rows_in" ["cube"] (spF K (run K a (n+1) q2g)):=
 con A.rows_in x3o (fun ws hw=>(q9l hw).1) fun ws hw f cdv A outer s H E Z hr=>⟨_,x5u B M C CH hr,(q9l hw).2⟩
theorem x10(B:Blt mg)(M:Exs K mg a)(C:Cals P w K mg base a n)(CH:CalsH P w K mg base a n){outer:List Env}(hr:Room n (A.deeper (PyProof.Rows.envOfC "places_of" (defScope q1g) s.heap.objs.size f cdv))):
  DSs Z (cxOf (CX1 P w) P w K mg base ["table", "many"] "places_of" (defScope q1g) f cdv A outer s H E) (fun _=>E) (defBody q1g) (q22 K a (run K a n)):=
 (q0e (q4k 1 sc_places_of.nd PassesOwn.leaving rfl B.b_range (q0a (q0v (x46 M.m_MOST_PLACES_tables M.g_MOST_PLACES_tables) q0d) q0c)
  (q0f (q1s (q4v (q0u hr) (q2l B.b_len (q0a (dv 0) q0c)) (q0i C.rows_many hr pass1 (q0a (dv 1) q0c)))
  (q0f (q0t (dv 1)))
  q08)))
  (q0f (q60 rais1 M.e_NoTable M.m_NoTable rfl (q0a x0e q0c))))
theorem q6k(h:run K a (n+1) q16 ws≠.no):ws.length=1/\(q22 K a (run K a n) (init 2 ws)).fn=run K a (n+1) q16 ws:=by
 rw[q47]at h |-;split at h
 ·rename_i hl;rw[if_pos hl];exact⟨hl,rfl⟩
 ·exact absurd rfl h
theorem x1d(B:Blt mg)(M:Exs K mg a)(C:Cals P w K mg base a n)(CH:CalsH P w K mg base a n)(A:Ats K mg):Cal P w K mg base (n+1) "places_of" ["table"] (spF K (run K a (n+1) q16)):=
 con A.places_of sc_places_of (fun ws hw=>(q6k hw).1) fun ws hw f cdv A outer s H E Z hr=>⟨_,x10 B M C CH hr,(q6k hw).2⟩
theorem q9v(B:Blt mg)(M:Exs K mg a)(C:Cals P w K mg base a n)(CH:CalsH P w K mg base a n){outer:List Env}(hr:Room n (A.deeper (PyProof.Rows.envOfC "wish_places" (defScope q02) s.heap.objs.size f cdv))):
  DSs Z (cxOf (CX1 P w) P w K mg base ["wish", "many"] "wish_places" (defScope q02) f cdv A outer s H E) (fun _=>E) (defBody q02) (q1x K a (run K a n)):=
 (q0e (q0l 1 sc_wish_places.nd (q0i C.places_of hr pass1 (q0a (dv 0) q0c)))
  (q0e (q1s (x75 (dv 1) (x46 M.m_MOST_PLACES_covers M.g_MOST_PLACES_covers))
  (q0f (q60 rais1 M.e_NoTable M.m_NoTable rfl (q0a x0e q0c)))
  q08)
  (q0f (q0t (dv 1)))))
theorem q5a(h:run K a (n+1) q1a ws≠.no):ws.length=1/\(q1x K a (run K a n) (init 2 ws)).fn=run K a (n+1) q1a ws:=by
 rw[q3f]at h |-;split at h
 ·rename_i hl;rw[if_pos hl];exact⟨hl,rfl⟩
 ·exact absurd rfl h
theorem q8k(B:Blt mg)(M:Exs K mg a)(C:Cals P w K mg base a n)(CH:CalsH P w K mg base a n)(A:Ats K mg):Cal P w K mg base (n+1) "wish_places" ["wish"] (spF K (run K a (n+1) q1a)):=
 con A.wish_places sc_wish_places (fun ws hw=>(q5a hw).1) fun ws hw f cdv A outer s H E Z hr=>⟨_,q9v B M C CH hr,(q5a hw).2⟩
theorem y3p(B:Blt mg)(M:Exs K mg a)(C:Cals P w K mg base a n)(CH:CalsH P w K mg base a n){outer:List Env}(hr:Room n (A.deeper (PyProof.Rows.envOfC "fits" (defScope q2t) s.heap.objs.size f cdv))):
  DSs Z (cxOf (CX1 P w) P w K mg base ["cube", "wish"] "fits" (defScope q2t) f cdv A outer s H E) (fun _=>E) (defBody q2t) (q5t K a (run K a n)):=
 (q0e (q1s (q7q (q0u hr) (q0i C.wish_places hr pass1 (q0a (dv 1) q0c)) (q2l B.b_len (q0a (dv 0) q0c)))
  (q0f (q0t q0k))
  q08)
  (q0f (q0t (x43 rfl B.b_all (q0a (q0q (q55 (x:="number") (Nf:=["wish"]) (js:=[1]) (sc:=defScope q2t) (N:=["cube", "wish"]) rfl (q0i C.rows_in hr pass1 (q0a (dv 0) q0c)) (by decide +kernel)
   (fun _ _ _ _ _ _=>q2b)
   (fun _ _ _ _ _ _=>(y1z (q2i (dv 1) (dv 0)) q0k))
   (fun _ _ _ _ _=>q1w 0 (show(["number", "wish"]:List Str).Nodup by decide +kernel)))) q0c)))))
theorem x5v(h:run K a (n+1) q33 ws≠.no):ws.length=2/\(q5t K a (run K a n) (init 2 ws)).fn=run K a (n+1) q33 ws:=by
 rw[x1a]at h |-;split at h
 ·rename_i hl;rw[if_pos hl];exact⟨hl,rfl⟩
 ·exact absurd rfl h
theorem y0g(B:Blt mg)(M:Exs K mg a)(C:Cals P w K mg base a n)(CH:CalsH P w K mg base a n)(A:Ats K mg):Cal P w K mg base (n+1) "fits" ["cube", "wish"] (spF K (run K a (n+1) q33)):=
 con A.fits y0f (fun ws hw=>(x5v hw).1) fun ws hw f cdv A outer s H E Z hr=>⟨_,y3p B M C CH hr,(x5v hw).2⟩
theorem x7x(B:Blt mg)(M:Exs K mg a)(C:Cals P w K mg base a n)(CH:CalsH P w K mg base a n){outer:List Env}(hr:Room n (A.deeper (PyProof.Rows.envOfC "covers" (defScope q19) s.heap.objs.size f cdv))):
  DSs Z (cxOf (CX1 P w) P w K mg base ["cover", "wish", "left", "cube"] "covers" (defScope q19) f cdv A outer s H E) (fun _=>E) (defBody q19) (q3l K a (run K a n)):=
 (q0e (q0l 2 sc_covers.nd (q0i C.wished_rows hr pass1 (q0a (dv 1) q0c)))
  (q0e (q7j 3 sc_covers.nd PassesOwn.leaving rfl (dv 0)
  (q0e (q1s (x0h (q4j (q0i C.fits hr pass1 (q0a (dv 3) (q0a (dv 1) q0c)))))
  (q0f (q0t q0k))
  q08)
  (q0f (q0l 2 sc_covers.nd (q0i C.rows_left hr pass1 (q0a (dv 2) (q0a (q0i C.rows_in hr pass1 (q0a (dv 3) q0c)) q0c)))))))
  (q0f (q0t (q4u (q0u hr) (q2l B.b_len (q0a (dv 2) q0c)) q0d)))))
theorem x1e(h:run K a (n+1) q1r ws≠.no):ws.length=2/\(q3l K a (run K a n) (init 4 ws)).fn=run K a (n+1) q1r ws:=by
 rw[q4y]at h |-;split at h
 ·rename_i hl;rw[if_pos hl];exact⟨hl,rfl⟩
 ·exact absurd rfl h
theorem x5w(B:Blt mg)(M:Exs K mg a)(C:Cals P w K mg base a n)(CH:CalsH P w K mg base a n)(A:Ats K mg):Cal P w K mg base (n+1) "covers" ["cover", "wish"] (spF K (run K a (n+1) q1r)):=
 con A.covers sc_covers (fun ws hw=>(x1e hw).1) fun ws hw f cdv A outer s H E Z hr=>⟨_,x7x B M C CH hr,(x1e hw).2⟩
theorem q9w(B:Blt mg)(M:Exs K mg a)(C:Cals P w K mg base a n)(CH:CalsH P w K mg base a n){outer:List Env}(hr:Room n (A.deeper (PyProof.Rows.envOfC "wished_rows" (defScope q0w) s.heap.objs.size f cdv))):
  DSs Z (cxOf (CX1 P w) P w K mg base ["wish"] "wished_rows" (defScope q0w) f cdv A outer s H E) (fun _=>E) (defBody q0w) (q1y K a (run K a n)):=
 (q0e (x2j (q0i C.wish_places hr pass1 (q0a (dv 0) q0c)))
  (q0f (q3x (q64 (x:="number") (y:="wanted") (Nf:=[]) (js:=[]) (sc:=defScope q0w) (N:=["wish"]) rfl (x2p B.b_enumerate (q0a (dv 0) q0c)) (by decide +kernel)
   (fun _ _ _ _ _ _=>(q54 (q7r (dv 1) q0k)))
   (fun _ _ _ _ _ _=>(dv 0))
   (fun _ _ _ _ _=>x0x (show(["number", "wanted"]:List Str).Nodup by decide +kernel) rfl)))))
theorem q5b(h:run K a (n+1) q1m ws≠.no):ws.length=1/\(q1y K a (run K a n) (init 1 ws)).fn=run K a (n+1) q1m ws:=by
 rw[q3g]at h |-;split at h
 ·rename_i hl;rw[if_pos hl];exact⟨hl,rfl⟩
 ·exact absurd rfl h
theorem q8l(B:Blt mg)(M:Exs K mg a)(C:Cals P w K mg base a n)(CH:CalsH P w K mg base a n)(A:Ats K mg):Cal P w K mg base (n+1) "wished_rows" ["wish"] (spF K (run K a (n+1) q1m)):=
 con A.wished_rows q8j (fun ws hw=>(q5b hw).1) fun ws hw f cdv A outer s H E Z hr=>⟨_,q9w B M C CH hr,(q5b hw).2⟩
theorem x11(B:Blt mg)(M:Exs K mg a)(C:Cals P w K mg base a n)(CH:CalsH P w K mg base a n){outer:List Env}(hr:Room n (A.deeper (PyProof.Rows.envOfC "rows_left" (defScope q09) s.heap.objs.size f cdv))):
  DSs Z (cxOf (CX1 P w) P w K mg base ["numbers", "taken"] "rows_left" (defScope q09) f cdv A outer s H E) (fun _=>E) (defBody q09) (q23 K a (run K a n)):=
 (q0f (q3x (q55 (x:="number") (Nf:=["taken"]) (js:=[1]) (sc:=defScope q09) (N:=["numbers", "taken"]) rfl (dv 0) (by decide +kernel)
   (fun _ _ _ _ _ _=>(q54 (x0v (q0u hr) (dv 0) (dv 1))))
   (fun _ _ _ _ _ _=>(dv 0))
   (fun _ _ _ _ _=>q1w 0 (show(["number", "taken"]:List Str).Nodup by decide +kernel)))))
theorem q6l(h:run K a (n+1) q17 ws≠.no):ws.length=2/\(q23 K a (run K a n) (init 2 ws)).fn=run K a (n+1) q17 ws:=by
 rw[q48]at h |-;split at h
 ·rename_i hl;rw[if_pos hl];exact⟨hl,rfl⟩
 ·exact absurd rfl h
theorem x1f(B:Blt mg)(M:Exs K mg a)(C:Cals P w K mg base a n)(CH:CalsH P w K mg base a n)(A:Ats K mg):Cal P w K mg base (n+1) "rows_left" ["numbers", "taken"] (spF K (run K a (n+1) q17)):=
 con A.rows_left x08 (fun ws hw=>(q6l hw).1) fun ws hw f cdv A outer s H E Z hr=>⟨_,x11 B M C CH hr,(q6l hw).2⟩
theorem q8m(B:Blt mg)(M:Exs K mg a)(C:Cals P w K mg base a n)(CH:CalsH P w K mg base a n){outer:List Env}(hr:Room n (A.deeper (PyProof.Rows.envOfC "_law_cell_at" (defScope q0x) s.heap.objs.size f cdv))):
  DSs Z (cxOf (CX1 P w) P w K mg base ["_law_script", "_law_k"] "_law_cell_at" (defScope q0x) f cdv A outer s H E) (fun _=>E) (defBody q0x) (q2c K a (run K a n)):=
 (q0e (q1s (x74 (dv 1) (q2l B.b_len (q0a (dv 0) q0c)))
  (q0f (q0t (q2i (dv 0) (dv 1))))
  q08)
  (q0f (q0t q0d)))
theorem q4n(h:run K a (n+1) q04 ws≠.no):ws.length=2/\(q2c K a (run K a n) (init 2 ws)).fn=run K a (n+1) q04 ws:=by
 rw[q35]at h |-;split at h
 ·rename_i hl;rw[if_pos hl];exact⟨hl,rfl⟩
 ·exact absurd rfl h
theorem q71(B:Blt mg)(M:Exs K mg a)(C:Cals P w K mg base a n)(CH:CalsH P w K mg base a n)(A:Ats K mg):Cal P w K mg base (n+1) "_law_cell_at" ["_law_script", "_law_k"] (spF K (run K a (n+1) q04)):=
 con A._law_cell_at q7w (fun ws hw=>(q4n hw).1) fun ws hw f cdv A outer s H E Z hr=>⟨_,q8m B M C CH hr,(q4n hw).2⟩
theorem x3s(B:Blt mg)(M:Exs K mg a)(C:Cals P w K mg base a n)(CH:CalsH P w K mg base a n){outer:List Env}(hr:Room n (A.deeper (PyProof.Rows.envOfC "_law_way" (defScope q1o) s.heap.objs.size f cdv))):
  DSs Z (cxOf (CX1 P w) P w K mg base ["_law_script", "_law_k", "_law_many", "_law_mark_here"] "_law_way" (defScope q1o) f cdv A outer s H E) (fun _=>E) (defBody q1o) (q3c K a (run K a n)):=
 (q0e (q0l 3 sc__law_way.nd (q11 (q0v (q0v (q10 (q0i C._law_cell_at hr pass1 (q0a (dv 0) (q0a (dv 1) q0c))) q0d) (q10 q0d (q2l B.b_len (q0a (dv 0) q0c)))) (q10 q0d (dv 1))) q0d))
  (q0f (q0t (q11 (q11 (q10 (dv 3) (dv 3)) q0d) (dv 2)))))
theorem q72(h:run K a (n+1) q05 ws≠.no):ws.length=3/\(q3c K a (run K a n) (init 4 ws)).fn=run K a (n+1) q05 ws:=by
 rw[q5x]at h |-;split at h
 ·rename_i hl;rw[if_pos hl];exact⟨hl,rfl⟩
 ·exact absurd rfl h
theorem x12(B:Blt mg)(M:Exs K mg a)(C:Cals P w K mg base a n)(CH:CalsH P w K mg base a n)(A:Ats K mg):Cal P w K mg base (n+1) "_law_way" ["_law_script", "_law_k", "_law_many"] (spF K (run K a (n+1) q05)):=
 con A._law_way sc__law_way (fun ws hw=>(q72 hw).1) fun ws hw f cdv A outer s H E Z hr=>⟨_,x3s B M C CH hr,(q72 hw).2⟩
theorem x13(B:Blt mg)(M:Exs K mg a)(C:Cals P w K mg base a n)(CH:CalsH P w K mg base a n){outer:List Env}(hr:Room n (A.deeper (PyProof.Rows.envOfC "_law_mark" (defScope q1h) s.heap.objs.size f cdv))):
  DSs Z (cxOf (CX1 P w) P w K mg base ["_law_script", "_law_k", "_law_mark_here"] "_law_mark" (defScope q1h) f cdv A outer s H E) (fun _=>E) (defBody q1h) (q24 K a (run K a n)):=
 (q0e (q0l 2 sc__law_mark.nd (q0v (q0v (q10 (q0i C._law_cell_at hr pass1 (q0a (dv 0) (q0a (q0v q0d (dv 1)) q0c))) q0d) (q10 (q10 (q0i C._law_cell_at hr pass1 (q0a (dv 0) (q0a q0d q0c))) q0d) (q0v (dv 1) q0d))) (q10 q0d (dv 1))))
  (q0f (q0t (q11 (y0c (dv 2) (dv 2)) q0d))))
theorem q6m(h:run K a (n+1) q0m ws≠.no):ws.length=2/\(q24 K a (run K a n) (init 3 ws)).fn=run K a (n+1) q0m ws:=by
 rw[q49]at h |-;split at h
 ·rename_i hl;rw[if_pos hl];exact⟨hl,rfl⟩
 ·exact absurd rfl h
theorem x1g(B:Blt mg)(M:Exs K mg a)(C:Cals P w K mg base a n)(CH:CalsH P w K mg base a n)(A:Ats K mg):Cal P w K mg base (n+1) "_law_mark" ["_law_script", "_law_k"] (spF K (run K a (n+1) q0m)):=
 con A._law_mark sc__law_mark (fun ws hw=>(q6m hw).1) fun ws hw f cdv A outer s H E Z hr=>⟨_,x13 B M C CH hr,(q6m hw).2⟩
theorem x14(B:Blt mg)(M:Exs K mg a)(C:Cals P w K mg base a n)(CH:CalsH P w K mg base a n){outer:List Env}(hr:Room n (A.deeper (PyProof.Rows.envOfC "_law_rows" (defScope q0y) s.heap.objs.size f cdv))):
  DSs Z (cxOf (CX1 P w) P w K mg base ["_law_cube", "_law_found", "_law_wished"] "_law_rows" (defScope q0y) f cdv A outer s H E) (fun _=>E) (defBody q0y) (q2o K a (run K a n)):=
 (q0e (q0l 1 sc__law_rows.nd (q0q (q0n (q0a q0d q0c))))
  (q0e (q7j 2 sc__law_rows.nd PassesOwn.leaving rfl (dv 0)
  (q0f (q1s (q7r (dv 2) q2z)
  (q0f (q0l 1 sc__law_rows.nd (q0v (q0q (q55 (x:="_law_k") (Nf:=[]) (js:=[]) (sc:=defScope q0y) (N:=["_law_cube", "_law_found", "_law_wished"]) rfl (dv 1) (by decide +kernel)
   (fun _ _ _ _ _ _=>q2b)
   (fun _ _ _ _ _ _=>(q10 q0d (dv 0)))
   (fun _ _ _ _ _=>q1w 0 (show(["_law_k"]:List Str).Nodup by decide +kernel)))) (q0q (q55 (x:="_law_k") (Nf:=[]) (js:=[]) (sc:=defScope q0y) (N:=["_law_cube", "_law_found", "_law_wished"]) rfl (dv 1) (by decide +kernel)
   (fun _ _ _ _ _ _=>q2b)
   (fun _ _ _ _ _ _=>(q0v (q10 q0d (dv 0)) q0d))
   (fun _ _ _ _ _=>q1w 0 (show(["_law_k"]:List Str).Nodup by decide +kernel)))))))
  (q0f (x3b 1 sc__law_rows.nd (x:="_law_k") (Nf:=["_law_wished"]) (js:=[2]) (sc:=defScope q0y) (N:=["_law_cube", "_law_found", "_law_wished"]) rfl (dv 1) (by decide +kernel)
   (fun _ _ _ _ _ _=>q2b)
   (fun _ _ _ _ _ _=>(q0v (q10 q0d (dv 0)) (x92 B.b_int (q0a (dv 1) q0c))))
   (fun _ _ _ _ _=>q1w 0 (show(["_law_k", "_law_wished"]:List Str).Nodup by decide +kernel)))))))
  (q0f (q0t (x5f rfl B.b_sorted (q0a (dv 1) q0c))))))
theorem q6n(h:run K a (n+1) q1d ws≠.no):ws.length=1/\(q2o K a (run K a n) (init 3 ws)).fn=run K a (n+1) q1d ws:=by
 rw[q3t]at h |-;split at h
 ·rename_i hl;rw[if_pos hl];exact⟨hl,rfl⟩
 ·exact absurd rfl h
theorem x1h(B:Blt mg)(M:Exs K mg a)(C:Cals P w K mg base a n)(CH:CalsH P w K mg base a n)(A:Ats K mg):Cal P w K mg base (n+1) "_law_rows" ["_law_cube"] (spF K (run K a (n+1) q1d)):=
 con A._law_rows sc__law_rows (fun ws hw=>(q6n hw).1) fun ws hw f cdv A outer s H E Z hr=>⟨_,x14 B M C CH hr,(q6n hw).2⟩
theorem q8n(B:Blt mg)(M:Exs K mg a)(C:Cals P w K mg base a n)(CH:CalsH P w K mg base a n){outer:List Env}(hr:Room n (A.deeper (PyProof.Rows.envOfC "_law_wish_by" (defScope q0r) s.heap.objs.size f cdv))):
  DSs Z (cxOf (CX1 P w) P w K mg base ["_law_script", "_law_many", "_law_menus", "_law_menu", "_law_some"] "_law_wish_by" (defScope q0r) f cdv A outer s H E) (fun _=>E) (defBody q0r) (q2d K a (run K a n)):=
 (q0e (q0l 2 sc__law_wish_by.nd (q0q (q0n (q0a (q0q (q0n (q0a q0k (q0a q0k (q0a q2z q0c))))) (q0a (q0q (q0n (q0a q0k (q0a q0k (q0a q0k q0c))))) (q0a (q0q (q0n (q0a q0k (q0a q0k (q0a q0k (q0a q2z q0c)))))) (q0a (q0q (q0n (q0a q0k (q0a q0k (q0a q2z (q0a q0k (q0a q0k q0c))))))) q0c)))))))
  (q0e (q0l 2 sc__law_wish_by.nd (q0v (dv 2) (q0q (q0n (q0a (q0q (q0n (q0a q0k (q0a q0k q0c)))) (q0a (q0q (q0n (q0a q0k (q0a q0k q0c)))) (q0a (q0q (q0n (q0a q0k (q0a q2z (q0a q0k q0c))))) (q0a (q0q (q0n (q0a q0k (q0a q0k (q0a q0k (q0a q0k q0c)))))) q0c))))))))
  (q0e (q0l 3 sc__law_wish_by.nd (q2i (dv 2) (q0i C._law_way hr pass1 (q0a (dv 0) (q0a q0d (q0a q0d q0c))))))
  (q0e (q0l 4 sc__law_wish_by.nd (q0i C._law_way hr pass1 (q0a (dv 0) (q0a q0d (q0a q0d q0c)))))
  (q0e (q1s (x74 (dv 4) q0d)
  (q0f (q0l 3 sc__law_wish_by.nd (q2i (q0q (q0n (q0a (q0q (q0n (q0a q0k q0c))) (q0a (q0q (q0n (q0a q0k q0c))) (q0a (q0q (q0n (q0a q2z q0c))) q0c))))) (dv 4))))
  q08)
  (q0f (q3x (q32 (x:="_law_k") (Nf:=["_law_script", "_law_menu"]) (js:=[0,3]) (sc:=defScope q0r) (N:=["_law_script", "_law_many", "_law_menus", "_law_menu", "_law_some"]) rfl B.b_range (q0a (q2i (q0q (q0n (q0a q0d (q0a q0d (q0a q0d (q0a q0d (q0a q0d q0c))))))) (dv 1)) q0c) (by decide +kernel)
   (fun _ _ _ _ _ _=>q2b)
   (fun _ _ _ _ _ _=>(q2i (dv 2) (q11 (q0i C._law_mark hr passE (q0a (dv 1) (q0a (dv 0) q0c))) (q2l B.b_len (q0a (dv 2) q0c)))))
   (fun _ _ _ _ _=>q1w 0 (show(["_law_k", "_law_script", "_law_menu"]:List Str).Nodup by decide +kernel))))))))))
theorem q4o(h:run K a (n+1) q1b ws≠.no):ws.length=2/\(q2d K a (run K a n) (init 5 ws)).fn=run K a (n+1) q1b ws:=by
 rw[q36]at h |-;split at h
 ·rename_i hl;rw[if_pos hl];exact⟨hl,rfl⟩
 ·exact absurd rfl h
theorem q73(B:Blt mg)(M:Exs K mg a)(C:Cals P w K mg base a n)(CH:CalsH P w K mg base a n)(A:Ats K mg):Cal P w K mg base (n+1) "_law_wish_by" ["_law_script", "_law_many"] (spF K (run K a (n+1) q1b)):=
 con A._law_wish_by sc__law_wish_by (fun ws hw=>(q4o hw).1) fun ws hw f cdv A outer s H E Z hr=>⟨_,q8n B M C CH hr,(q4o hw).2⟩
theorem q74(B:Blt mg)(M:Exs K mg a)(C:Cals P w K mg base a n)(CH:CalsH P w K mg base a n){outer:List Env}(hr:Room n (A.deeper (PyProof.Rows.envOfC "_law_odd_wish" (defScope q0o) s.heap.objs.size f cdv))):
  DSs Z (cxOf (CX1 P w) P w K mg base ["_law_script", "_law_size"] "_law_odd_wish" (defScope q0o) f cdv A outer s H E) (fun _=>E) (defBody q0o) (q14 K a (run K a n)):=
 (q0e (q0l 1 sc__law_odd_wish.nd (q2i (q0q (q0n (q0a q0d (q0a q0d (q0a q0d (q0a q0d (q0a q0d (q0a q0d (q0a q0d (q0a q0d (q0a q0d (q0a q0d (q0a q0d (q0a q0d (q0a q0d q0c))))))))))))))) (q0i C._law_way hr pass1 (q0a (dv 0) (q0a q0d (q0a q0d q0c))))))
  (q0f (q3x (q32 (x:="_law_k") (Nf:=["_law_script"]) (js:=[0]) (sc:=defScope q0o) (N:=["_law_script", "_law_size"]) rfl B.b_range (q0a (dv 1) q0c) (by decide +kernel)
   (fun _ _ _ _ _ _=>q2b)
   (fun _ _ _ _ _ _=>(q2i (q0q (q0n (q0a q0k (q0a q0k (q0a q2z q0c))))) (q11 (q0i C._law_mark hr passE (q0a (dv 1) (q0a (dv 0) q0c))) q0d)))
   (fun _ _ _ _ _=>q1w 0 (show(["_law_k", "_law_script"]:List Str).Nodup by decide +kernel))))))
theorem q4d(h:run K a (n+1) q07 ws≠.no):ws.length=1/\(q14 K a (run K a n) (init 2 ws)).fn=run K a (n+1) q07 ws:=by
 rw[q3v]at h |-;split at h
 ·rename_i hl;rw[if_pos hl];exact⟨hl,rfl⟩
 ·exact absurd rfl h
theorem q66(B:Blt mg)(M:Exs K mg a)(C:Cals P w K mg base a n)(CH:CalsH P w K mg base a n)(A:Ats K mg):Cal P w K mg base (n+1) "_law_odd_wish" ["_law_script"] (spF K (run K a (n+1) q07)):=
 con A._law_odd_wish sc__law_odd_wish (fun ws hw=>(q4d hw).1) fun ws hw f cdv A outer s H E Z hr=>⟨_,q74 B M C CH hr,(q4d hw).2⟩
theorem x15(B:Blt mg)(M:Exs K mg a)(C:Cals P w K mg base a n)(CH:CalsH P w K mg base a n){outer:List Env}(hr:Room n (A.deeper (PyProof.Rows.envOfC "_law_fits" (defScope q1i) s.heap.objs.size f cdv))):
  DSs Z (cxOf (CX1 P w) P w K mg base ["_law_cube", "_law_wish", "_law_number"] "_law_fits" (defScope q1i) f cdv A outer s H E) (fun _=>E) (defBody q1i) (q2p K a (run K a n)):=
 (q0e (q7j 2 sc__law_fits.nd PassesOwn.leaving rfl (q0i C._law_rows hr pass1 (q0a (dv 0) q0c))
  (q0f (q1s (q7r (q2i (dv 1) (dv 2)) q0k)
  (q0f (q0t q0k))
  q08)))
  (q0f (q0t q0k)))
theorem q6o(h:run K a (n+1) q1e ws≠.no):ws.length=2/\(q2p K a (run K a n) (init 3 ws)).fn=run K a (n+1) q1e ws:=by
 rw[q3u]at h |-;split at h
 ·rename_i hl;rw[if_pos hl];exact⟨hl,rfl⟩
 ·exact absurd rfl h
theorem x1i(B:Blt mg)(M:Exs K mg a)(C:Cals P w K mg base a n)(CH:CalsH P w K mg base a n)(A:Ats K mg):Cal P w K mg base (n+1) "_law_fits" ["_law_cube", "_law_wish"] (spF K (run K a (n+1) q1e)):=
 con A._law_fits sc__law_fits (fun ws hw=>(q6o hw).1) fun ws hw f cdv A outer s H E Z hr=>⟨_,x15 B M C CH hr,(q6o hw).2⟩
theorem q8o(B:Blt mg)(M:Exs K mg a)(C:Cals P w K mg base a n)(CH:CalsH P w K mg base a n){outer:List Env}(hr:Room n (A.deeper (PyProof.Rows.envOfC "_law_cube_at" (defScope q0s) s.heap.objs.size f cdv))):
  DSs Z (cxOf (CX1 P w) P w K mg base ["_law_script", "_law_first", "_law_many"] "_law_cube_at" (defScope q0s) f cdv A outer s H E) (fun _=>E) (defBody q0s) (q2e K a (run K a n)):=
 (q0f (q0t (x0q B.b_tuple (q0a (q0q (q32 (x:="_law_k") (Nf:=["_law_script", "_law_first"]) (js:=[0,1]) (sc:=defScope q0s) (N:=["_law_script", "_law_first", "_law_many"]) rfl B.b_range (q0a (dv 2) q0c) (by decide +kernel)
   (fun _ _ _ _ _ _=>q2b)
   (fun _ _ _ _ _ _=>(q2i (q0q (q0n (q0a q2z (q0a q0k (q0a q0k q0c))))) (q11 (q0i C._law_mark hr passE (q0a (dv 1) (q0a (q0v (dv 2) (dv 0)) q0c))) q0d)))
   (fun _ _ _ _ _=>q1w 0 (show(["_law_k", "_law_script", "_law_first"]:List Str).Nodup by decide +kernel)))) q0c))))
theorem q4p(h:run K a (n+1) q06 ws≠.no):ws.length=3/\(q2e K a (run K a n) (init 3 ws)).fn=run K a (n+1) q06 ws:=by
 rw[q37]at h |-;split at h
 ·rename_i hl;rw[if_pos hl];exact⟨hl,rfl⟩
 ·exact absurd rfl h
theorem q75(B:Blt mg)(M:Exs K mg a)(C:Cals P w K mg base a n)(CH:CalsH P w K mg base a n)(A:Ats K mg):Cal P w K mg base (n+1) "_law_cube_at" ["_law_script", "_law_first", "_law_many"] (spF K (run K a (n+1) q06)):=
 con A._law_cube_at q7x (fun ws hw=>(q4p hw).1) fun ws hw f cdv A outer s H E Z hr=>⟨_,q8o B M C CH hr,(q4p hw).2⟩
theorem x1j(B:Blt mg)(M:Exs K mg a)(C:Cals P w K mg base a n)(CH:CalsH P w K mg base a n){outer:List Env}(hr:Room n (A.deeper (PyProof.Rows.envOfC "_law_grown" (defScope q00) s.heap.objs.size f cdv))):
  DSs Z (cxOf (CX1 P w) P w K mg base ["_law_wish", "_law_number", "_law_many", "_law_back", "_law_cube", "_law_k", "_law_at", "_law_wider"] "_law_grown" (defScope q00) f cdv A outer s H E) (fun _=>E) (defBody q00) (q2u K a (run K a n)):=
 (q0e (q6d 4 sc__law_grown.nd (x:="_law_k") (Nf:=["_law_number", "_law_many"]) (js:=[1,2]) (sc:=defScope q00) (N:=["_law_wish", "_law_number", "_law_many", "_law_back", "_law_cube", "_law_k", "_law_at", "_law_wider"]) rfl B.b_range (q0a (dv 2) q0c) (by decide +kernel)
   (fun _ _ _ _ _ _=>q2b)
   (fun _ _ _ _ _ _=>(q4u (q0u hr) (q11 (q8h (dv 1) (q2i (q0q (q0n (q0a q0d (q0a q0d (q0a q0d (q0a q0d (q0a q0d q0c))))))) (q7p (q7p (dv 2) q0d) (dv 0)))) q0d) q0d))
   (fun _ _ _ _ _=>q1w 0 (show(["_law_k", "_law_number", "_law_many"]:List Str).Nodup by decide +kernel)))
  (q0e (q4k 5 sc__law_grown.nd PassesOwn.leaving rfl B.b_range (q0a (dv 2) q0c)
  (q0e (q0l 6 sc__law_grown.nd (y4a (q4j (dv 3)) (q7p (q7p (dv 2) q0d) (dv 5)) (dv 5)))
  (q0e (q0l 7 sc__law_grown.nd (q0v (q0v (q3k (dv 4) q3y (q3z (dv 6))) (q0q (q0n (q0a q2z q0c)))) (q3k (dv 4) (q3z (q0v (dv 6) q0d)) q3y)))
  (q0f (q1s (q4j (q0i C._law_fits hr pass1 (q0a (dv 7) (q0a (dv 0) q0c))))
  (q0f (q0l 4 sc__law_grown.nd (dv 7)))
  q08)))))
  (q0f (q0t (x0q B.b_tuple (q0a (dv 4) q0c))))))
theorem q5z(h:run K a (n+1) q1u ws≠.no):ws.length=4/\(q2u K a (run K a n) (init 8 ws)).fn=run K a (n+1) q1u ws:=by
 rw[q4m]at h |-;split at h
 ·rename_i hl;rw[if_pos hl];exact⟨hl,rfl⟩
 ·exact absurd rfl h
theorem q9x(B:Blt mg)(M:Exs K mg a)(C:Cals P w K mg base a n)(CH:CalsH P w K mg base a n)(A:Ats K mg):Cal P w K mg base (n+1) "_law_grown" ["_law_wish", "_law_number", "_law_many", "_law_back"] (spF K (run K a (n+1) q1u)):=
 con A._law_grown sc__law_grown (fun ws hw=>(q5z hw).1) fun ws hw f cdv A outer s H E Z hr=>⟨_,x1j B M C CH hr,(q5z hw).2⟩
theorem q9y(B:Blt mg)(M:Exs K mg a)(C:Cals P w K mg base a n)(CH:CalsH P w K mg base a n){outer:List Env}(hr:Room n (A.deeper (PyProof.Rows.envOfC "_law_greedy" (defScope q03) s.heap.objs.size f cdv))):
  DSs Z (cxOf (CX1 P w) P w K mg base ["_law_wish", "_law_many", "_law_back", "_law_cover", "_law_inside", "_law_number"] "_law_greedy" (defScope q03) f cdv A outer s H E) (fun _=>E) (defBody q03) (q2n K a (run K a n)):=
 (q0e (x4k 3 sc__law_greedy.nd (q0n q0c))
  (q0e (q0l 4 sc__law_greedy.nd (q0q (q0n q0c)))
  (q0e (q4k 5 sc__law_greedy.nd PassesOwn.leaving rfl B.b_range (q0a (q2l B.b_len (q0a (dv 0) q0c)) q0c)
  (q0f (q1s (dt_w (x4i (q7r (q2i (dv 0) (dv 5)) q0k) (x2h (x0v (q0u hr) (dv 5) (dv 4)))))
  (q0e (x4n 3 (q0a (q0i C._law_grown hr pass1 (q0a (dv 0) (q0a (dv 5) (q0a (dv 1) (q0a (dv 2) q0c))))) q0c))
  (q0f (q0l 4 sc__law_greedy.nd (q0v (dv 4) (q0i C._law_rows hr pass1 (q0a (y1r 3 (y1y q0d)) q0c))))))
  q08)))
  (q0f (x8u 3)))))
theorem q5c(h:run K a (n+1) q01 ws≠.no):ws.length=3/\(q2n K a (run K a n) (init 6 ws)).fn=run K a (n+1) q01 ws:=by
 rw[q4c]at h |-;split at h
 ·rename_i hl;rw[if_pos hl];exact⟨hl,rfl⟩
 ·exact absurd rfl h
theorem q8p(B:Blt mg)(M:Exs K mg a)(C:Cals P w K mg base a n)(CH:CalsH P w K mg base a n)(A:Ats K mg):Cal P w K mg base (n+1) "_law_greedy" ["_law_wish", "_law_many", "_law_back"] (spF K (run K a (n+1) q01)):=
 con A._law_greedy sc__law_greedy (fun ws hw=>(q5c hw).1) fun ws hw f cdv A outer s H E Z hr=>⟨_,q9y B M C CH hr,(q5c hw).2⟩
theorem x3t(B:Blt mg)(M:Exs K mg a)(C:Cals P w K mg base a n)(CH:CalsH P w K mg base a n){outer:List Env}(hr:Room n (A.deeper (PyProof.Rows.envOfC "_law_due" (defScope q1l) s.heap.objs.size f cdv))):
  DSs Z (cxOf (CX1 P w) P w K mg base ["_law_cover", "_law_wish", "_law_inside", "_law_cube"] "_law_due" (defScope q1l) f cdv A outer s H E) (fun _=>E) (defBody q1l) (q3e K a (run K a n)):=
 (q0e (q0l 2 sc__law_due.nd (q0q (q0n q0c)))
  (q0e (q7j 3 sc__law_due.nd PassesOwn.leaving rfl (dv 0)
  (q0e (q1s (x0h (q4j (q0i C._law_fits hr pass1 (q0a (dv 3) (q0a (dv 1) q0c)))))
  (q0f (q0t q0k))
  q08)
  (q0f (q0l 2 sc__law_due.nd (q0v (dv 2) (q0i C._law_rows hr pass1 (q0a (dv 3) q0c)))))))
  (q0f (q0t (q4u (q0u hr) (q0q (q32 (x:="_law_number") (Nf:=["_law_wish", "_law_inside"]) (js:=[1,2]) (sc:=defScope q1l) (N:=["_law_cover", "_law_wish", "_law_inside", "_law_cube"]) rfl B.b_range (q0a (q2l B.b_len (q0a (dv 1) q0c)) q0c) (by decide +kernel)
   (fun _ _ _ _ _ _=>(q54 (dt_w (x4i (q7r (q2i (dv 1) (dv 0)) q0k) (x2h (x0v (q0u hr) (dv 0) (dv 2)))))))
   (fun _ _ _ _ _ _=>(dv 0))
   (fun _ _ _ _ _=>q1w 0 (show(["_law_number", "_law_wish", "_law_inside"]:List Str).Nodup by decide +kernel)))) (q0q (q0n q0c)))))))
theorem q76(h:run K a (n+1) q13 ws≠.no):ws.length=2/\(q3e K a (run K a n) (init 4 ws)).fn=run K a (n+1) q13 ws:=by
 rw[q5y]at h |-;split at h
 ·rename_i hl;rw[if_pos hl];exact⟨hl,rfl⟩
 ·exact absurd rfl h
theorem x16(B:Blt mg)(M:Exs K mg a)(C:Cals P w K mg base a n)(CH:CalsH P w K mg base a n)(A:Ats K mg):Cal P w K mg base (n+1) "_law_due" ["_law_cover", "_law_wish"] (spF K (run K a (n+1) q13)):=
 con A._law_due sc__law_due (fun ws hw=>(q76 hw).1) fun ws hw f cdv A outer s H E Z hr=>⟨_,x3t B M C CH hr,(q76 hw).2⟩
theorem q8q(B:Blt mg)(M:Exs K mg a)(C:Cals P w K mg base a n)(CH:CalsH P w K mg base a n){outer:List Env}(hr:Room n (A.deeper (PyProof.Rows.envOfC "_law_refused" (defScope q0z) s.heap.objs.size f cdv))):
  DSs Z (cxOf (CX1 P w) P w K mg base ["_law_wish", "e"] "_law_refused" (defScope q0z) f cdv A outer s H E) (fun _=>E) (defBody q0z) (q2f K a (run K a n)):=
 (q0e (y1k M.m_CircuitError sc__law_refused.nd (i:=1) rfl rfl (fun EE pn xe hx1=>(q0f (x2j (q0i C.covers hr hx1 (q0a (q0q (q0n q0c)) (q0a (dv 0) q0c))))))
  (fun e=>(q0f (q0t (x4s (c0:=.ref _) rfl (x81 M.m_NoTable) B.b_isinstance (dv 1))))))
  (q0f (q0t q0k)))
theorem q4q(h:run K a (n+1) q1c ws≠.no):ws.length=1/\(q2f K a (run K a n) (init 2 ws)).fn=run K a (n+1) q1c ws:=by
 rw[q38]at h |-;split at h
 ·rename_i hl;rw[if_pos hl];exact⟨hl,rfl⟩
 ·exact absurd rfl h
theorem q77(B:Blt mg)(M:Exs K mg a)(C:Cals P w K mg base a n)(CH:CalsH P w K mg base a n)(A:Ats K mg):Cal P w K mg base (n+1) "_law_refused" ["_law_wish"] (spF K (run K a (n+1) q1c)):=
 con A._law_refused sc__law_refused (fun ws hw=>(q4q hw).1) fun ws hw f cdv A outer s H E Z hr=>⟨_,q8q B M C CH hr,(q4q hw).2⟩
theorem x77(B:Blt mg)(M:Exs K mg a)(C:Cals P w K mg base a n)(CH:CalsH P w K mg base a n){outer:List Env}(hr:Room n (A.deeper (PyProof.Rows.envOfC "law" (defScope q2x) s.heap.objs.size f cdv)))(hz:Z.H=H/\Z.io=[]):
  DSs Z (cxOf (CX1 P w) P w K mg base ["_law_script", "_law_many", "_law_wish", "_law_way_here", "_law_cover", "_law_back", "_law_at", "_law_handed", "_law_found"] "law" (defScope q2x) f cdv A outer s H E) (fun _=>E) (defBody q2x) (q7y K a (run K a n)):=
 (q0e (q1s (q4v (q0u hr) (q8h (q0i C._law_way hr pass1 (q0a (dv 0) (q0a q0d (q0a q0d q0c)))) q0d) q0d)
  (q0f (q0t (q0i C._law_refused hr pass1 (q0a (q0i C._law_odd_wish hr pass1 (q0a (dv 0) q0c)) q0c))))
  q08)
  (q0e (q0l 1 sc_law.nd (q0i C._law_way hr pass1 (q0a (dv 0) (q0a q0d (q0a q0d q0c)))))
  (q0e (q0l 2 sc_law.nd (q0i C._law_wish_by hr pass1 (q0a (dv 0) (q0a (dv 1) q0c))))
  (q0e (q0l 3 sc_law.nd (q11 (q0i C._law_mark hr pass1 (q0a (dv 0) (q0a q0d q0c))) q0d))
  (q0e (q6d 4 sc_law.nd (x:="_law_k") (Nf:=["_law_script", "_law_many"]) (js:=[0,1]) (sc:=defScope q2x) (N:=["_law_script", "_law_many", "_law_wish", "_law_way_here", "_law_cover", "_law_back", "_law_at", "_law_handed", "_law_found"]) rfl B.b_range (q0a (q11 (q0i C._law_mark hr pass1 (q0a (dv 0) (q0a q0d q0c))) (q0v q0d (q10 q0d (q11 (dv 3) q0d)))) q0c) (by decide +kernel)
   (fun _ _ _ _ _ _=>q2b)
   (fun _ _ _ _ _ _=>(q0i C._law_cube_at hr passE (q0a (dv 1) (q0a (q0v q0d (q10 q0d (dv 0))) (q0a (dv 2) q0c)))))
   (fun _ _ _ _ _=>q1w 0 (show(["_law_k", "_law_script", "_law_many"]:List Str).Nodup by decide +kernel)))
  (q0e (q0l 5 sc_law.nd (q4u (q0u hr) (q11 (q0i C._law_mark hr pass1 (q0a (dv 0) (q0a q0d q0c))) q0d) q0d))
  (q0e (q1s (x75 (dv 3) q0d)
  (q0f (q0l 4 sc_law.nd (q0i C._law_greedy hr pass1 (q0a (dv 2) (q0a (dv 1) (q0a (dv 5) q0c))))))
  q08)
  (q0e (q1s (dt_w (q90 (q4v (q0u hr) (dv 3) q0d) (x0g (q4v (q0u hr) (dv 3) q0d))))
  (q0f (q0l 4 sc_law.nd (q0v (dv 4) (q0i C._law_greedy hr pass1 (q0a (dv 2) (q0a (dv 1) (q0a (y1j (dv 5)) q0c)))))))
  q08)
  (q0e (q0l 6 sc_law.nd (q11 (q0i C._law_mark hr pass1 (q0a (dv 0) (q0a q0d q0c))) (q0v (q2l B.b_len (q0a (dv 4) q0c)) q0d)))
  (q0e (q1s (dt_w (q90 (q4v (q0u hr) (dv 3) q0d) (x0g (q4v (q0u hr) (dv 3) q0d))))
  (q0f (q0l 4 sc_law.nd (q0v (q3k (dv 4) q3y (q3z (dv 6))) (q3k (dv 4) (q3z (q0v (dv 6) q0d)) q3y))))
  q08)
  (q0e (q1s (q4v (q0u hr) (dv 3) q0d)
  (q0f (q0l 4 sc_law.nd (q0v (q0v (q3k (dv 4) q3y (q3z (dv 6))) (q0q (q0n (q0a (q0i C._law_cube_at hr pass1 (q0a (dv 0) (q0a q0d (q0a (dv 1) q0c)))) q0c)))) (q3k (dv 4) (q3z (dv 6)) q3y))))
  q08)
  (q0e (x7q 7 sc_law.nd (fun _=>(x2m B.b_list (q0a (dv 4) q0c))) (fun _=>(x2m B.b_list (q0a (dv 2) q0c))))
  (q0e (q0l 8 sc_law.nd (x5g fun _=>(q0i C.covers hr pass1 (q0a (q2i (dv 7) q0d) (q0a (q2i (dv 7) q0d) q0c)))))
  (q0e (q1s (dt_w (q90 (x0h (q4j (x4s (c0:=.ty _) rfl (x82 PyProof.Rows.Boot.«bool» B.b_bool) B.b_isinstance (dv 8)))) (q90 (q7q (q0u hr) (dv 8) (q0i C._law_due hr pass1 (q0a (dv 4) (q0a (dv 2) q0c)))) (x0g (x5h fun _=>(q7q (q0u hr) (dv 7) (q0q (q0n (q0a (dv 4) (q0a (dv 2) q0c))))))))))
  (q0f (q0t q0k))
  q08)
  (q0e (q9g 7 0 hz.1)
  (q0e (q9g 7 1 hz.1)
  (q0f (q0t (q4u (q0u hr) (q0i C.covers hr pass1 (q0a (dv 4) (q0a (dv 2) q0c))) (dv 8))))))))))))))))))))
theorem q91(h:run K a (n+1) q39 ws≠.no):ws.length=1/\(q7y K a (run K a n) (init 9 ws)).fn=run K a (n+1) q39 ws:=by
 rw[x2v]at h |-;split at h
 ·rename_i hl;rw[if_pos hl];exact⟨hl,rfl⟩
 ·exact absurd rfl h
theorem y3q(B:Blt mg)(M:Exs K mg a)(C:Cals P w K mg base a n)(CH:CalsH P w K mg base a n)(A:Ats K mg):Cal P w K mg base (n+1) "law" ["_law_script"] (spF K (run K a (n+1) q39)):=
 conZ A.law sc_law (fun ws hw=>(q91 hw).1) fun ws hw f cdv A outer s H E Z hr hz=>⟨_,x77 B M C CH hr hz,(q91 hw).2⟩
theorem allH(A:Ats K mg)(B:Blt mg)(M:Exs K mg a):∀n,CalsH P w K mg base a n
 |0=>⟨trivial⟩
 |n+1=>⟨trivial⟩
theorem all(A:Ats K mg)(B:Blt mg)(M:Exs K mg a):∀n,Cals P w K mg base a n
 |0=>⟨con0 A.row_of,con0 A.rows_many,con0 A.all_rows,con0 A.in_cube,con0 A.rows_in,con0 A.places_of,con0 A.wish_places,con0 A.fits,con0 A.covers,con0 A.wished_rows,con0 A.rows_left,con0 A._law_cell_at,con0 A._law_way,con0 A._law_mark,con0 A._law_rows,con0 A._law_wish_by,con0 A._law_odd_wish,con0 A._law_fits,con0 A._law_cube_at,con0 A._law_grown,con0 A._law_greedy,con0 A._law_due,con0 A._law_refused,con0 A.law⟩
 |n+1=>⟨x5s B M (all A B M n) (allH A B M n) A,x1c B M (all A B M n) (allH A B M n) A,x1z B M (all A B M n) (allH A B M n) A,x3q B M (all A B M n) (allH A B M n) A,x3r B M (all A B M n) (allH A B M n) A,x1d B M (all A B M n) (allH A B M n) A,q8k B M (all A B M n) (allH A B M n) A,y0g B M (all A B M n) (allH A B M n) A,x5w B M (all A B M n) (allH A B M n) A,q8l B M (all A B M n) (allH A B M n) A,x1f B M (all A B M n) (allH A B M n) A,q71 B M (all A B M n) (allH A B M n) A,x12 B M (all A B M n) (allH A B M n) A,x1g B M (all A B M n) (allH A B M n) A,x1h B M (all A B M n) (allH A B M n) A,q73 B M (all A B M n) (allH A B M n) A,q66 B M (all A B M n) (allH A B M n) A,x1i B M (all A B M n) (allH A B M n) A,q75 B M (all A B M n) (allH A B M n) A,q9x B M (all A B M n) (allH A B M n) A,q8p B M (all A B M n) (allH A B M n) A,x16 B M (all A B M n) (allH A B M n) A,q77 B M (all A B M n) (allH A B M n) A,y3q B M (all A B M n) (allH A B M n) A⟩
theorem law_fn{fd:FuncData}(A:Ats K mg)(B:Blt mg)(M:Exs K mg a)(F:Fun K "law" "law" q2x f fd)(n:Nat):FnOk P w K mg base (CX1 P w) (n+1) f fd ["_law_script"] (spF K (run K a (n+1) q39)):=
 conFZ F sc_law (fun ws hw=>(q91 hw).1) fun ws hw cdv A' outer s H E Z hr hz=>⟨_,x77 B M (all A B M n) (allH A B M n) hr hz,(q91 hw).2⟩
end
theorem mk{l:PySem.W.OpenLaw}{w:World}{h:Heap}{fa:Addr}(X:K.In h)(G:h.Ns mainGlobals mg)(hfa:mg "law"=some (.ref fa))
  {f0:Addr}{od0 an0:Option Addr}{sl0:Array (Option Value)}{oc0 kV0 dc0 pm0 cd0 ct0:Value}
  {f1:Addr}{od1 an1:Option Addr}{sl1:Array (Option Value)}{oc1 kV1 dc1 pm1 cd1 ct1:Value}
  {f2:Addr}{od2 an2:Option Addr}{sl2:Array (Option Value)}{oc2 kV2 dc2 pm2 cd2 ct2:Value}
  {f3:Addr}{od3 an3:Option Addr}{sl3:Array (Option Value)}{oc3 kV3 dc3 pm3 cd3 ct3:Value}
  {f4:Addr}{od4 an4:Option Addr}{sl4:Array (Option Value)}{oc4 kV4 dc4 pm4 cd4 ct4:Value}
  {f5:Addr}{od5 an5:Option Addr}{sl5:Array (Option Value)}{oc5 kV5 dc5 pm5 cd5 ct5:Value}
  {f6:Addr}{od6 an6:Option Addr}{sl6:Array (Option Value)}{oc6 kV6 dc6 pm6 cd6 ct6:Value}
  {f7:Addr}{od7 an7:Option Addr}{sl7:Array (Option Value)}{oc7 kV7 dc7 pm7 cd7 ct7:Value}
  {f8:Addr}{od8 an8:Option Addr}{sl8:Array (Option Value)}{oc8 kV8 dc8 pm8 cd8 ct8:Value}
  {f9:Addr}{od9 an9:Option Addr}{sl9:Array (Option Value)}{oc9 kV9 dc9 pm9 cd9 ct9:Value}
  {f10:Addr}{od10 an10:Option Addr}{sl10:Array (Option Value)}{oc10 kV10 dc10 pm10 cd10 ct10:Value}
  {f11:Addr}{od11 an11:Option Addr}{sl11:Array (Option Value)}{oc11 kV11 dc11 pm11 cd11 ct11:Value}
  {f12:Addr}{od12 an12:Option Addr}{sl12:Array (Option Value)}{oc12 kV12 dc12 pm12 cd12 ct12:Value}
  {f13:Addr}{od13 an13:Option Addr}{sl13:Array (Option Value)}{oc13 kV13 dc13 pm13 cd13 ct13:Value}
  {f14:Addr}{od14 an14:Option Addr}{sl14:Array (Option Value)}{oc14 kV14 dc14 pm14 cd14 ct14:Value}
  {f15:Addr}{od15 an15:Option Addr}{sl15:Array (Option Value)}{oc15 kV15 dc15 pm15 cd15 ct15:Value}
  {f16:Addr}{od16 an16:Option Addr}{sl16:Array (Option Value)}{oc16 kV16 dc16 pm16 cd16 ct16:Value}
  {f17:Addr}{od17 an17:Option Addr}{sl17:Array (Option Value)}{oc17 kV17 dc17 pm17 cd17 ct17:Value}
  {f18:Addr}{od18 an18:Option Addr}{sl18:Array (Option Value)}{oc18 kV18 dc18 pm18 cd18 ct18:Value}
  {f19:Addr}{od19 an19:Option Addr}{sl19:Array (Option Value)}{oc19 kV19 dc19 pm19 cd19 ct19:Value}
  {f20:Addr}{od20 an20:Option Addr}{sl20:Array (Option Value)}{oc20 kV20 dc20 pm20 cd20 ct20:Value}
  {f21:Addr}{od21 an21:Option Addr}{sl21:Array (Option Value)}{oc21 kV21 dc21 pm21 cd21 ct21:Value}
  {f22:Addr}{od22 an22:Option Addr}{sl22:Array (Option Value)}{oc22 kV22 dc22 pm22 cd22 ct22:Value}
  {f23:Addr}{od23 an23:Option Addr}{sl23:Array (Option Value)}{oc23 kV23 dc23 pm23 cd23 ct23:Value}
  {A_CircuitError:Addr}
  {A_NoRow:Addr}
  {A_NoTable:Addr}
  {A_MOST_PLACES_tables:Value}
  {A_MOST_PLACES_covers:Value}
  (a0:PySem.W.nsIn K mainGlobals "row_of"=some (some (.ref f0)))
  (l0:K.lookup f0=some ⟨oc0,od0,.func (PySem.W.fnOf "row_of" "row_of" (defArgs q18) (defBody q18) (defScope q18) .none kV0 dc0 pm0 an0 cd0 ct0),sl0⟩)
  (c0:PySem.W.codeIn K cd0 "row_of"=true)
  (k0:keepIn K (.ref f0)=true)
  (a1:PySem.W.nsIn K mainGlobals "rows_many"=some (some (.ref f1)))
  (l1:K.lookup f1=some ⟨oc1,od1,.func (PySem.W.fnOf "rows_many" "rows_many" (defArgs q1f) (defBody q1f) (defScope q1f) .none kV1 dc1 pm1 an1 cd1 ct1),sl1⟩)
  (c1:PySem.W.codeIn K cd1 "rows_many"=true)
  (k1:keepIn K (.ref f1)=true)
  (a2:PySem.W.nsIn K mainGlobals "all_rows"=some (some (.ref f2)))
  (l2:K.lookup f2=some ⟨oc2,od2,.func (PySem.W.fnOf "all_rows" "all_rows" (defArgs q1k) (defBody q1k) (defScope q1k) .none kV2 dc2 pm2 an2 cd2 ct2),sl2⟩)
  (c2:PySem.W.codeIn K cd2 "all_rows"=true)
  (k2:keepIn K (.ref f2)=true)
  (a3:PySem.W.nsIn K mainGlobals "in_cube"=some (some (.ref f3)))
  (l3:K.lookup f3=some ⟨oc3,od3,.func (PySem.W.fnOf "in_cube" "in_cube" (defArgs q1p) (defBody q1p) (defScope q1p) .none kV3 dc3 pm3 an3 cd3 ct3),sl3⟩)
  (c3:PySem.W.codeIn K cd3 "in_cube"=true)
  (k3:keepIn K (.ref f3)=true)
  (a4:PySem.W.nsIn K mainGlobals "rows_in"=some (some (.ref f4)))
  (l4:K.lookup f4=some ⟨oc4,od4,.func (PySem.W.fnOf "rows_in" "rows_in" (defArgs q1q) (defBody q1q) (defScope q1q) .none kV4 dc4 pm4 an4 cd4 ct4),sl4⟩)
  (c4:PySem.W.codeIn K cd4 "rows_in"=true)
  (k4:keepIn K (.ref f4)=true)
  (a5:PySem.W.nsIn K mainGlobals "places_of"=some (some (.ref f5)))
  (l5:K.lookup f5=some ⟨oc5,od5,.func (PySem.W.fnOf "places_of" "places_of" (defArgs q1g) (defBody q1g) (defScope q1g) .none kV5 dc5 pm5 an5 cd5 ct5),sl5⟩)
  (c5:PySem.W.codeIn K cd5 "places_of"=true)
  (k5:keepIn K (.ref f5)=true)
  (a6:PySem.W.nsIn K mainGlobals "wish_places"=some (some (.ref f6)))
  (l6:K.lookup f6=some ⟨oc6,od6,.func (PySem.W.fnOf "wish_places" "wish_places" (defArgs q02) (defBody q02) (defScope q02) .none kV6 dc6 pm6 an6 cd6 ct6),sl6⟩)
  (c6:PySem.W.codeIn K cd6 "wish_places"=true)
  (k6:keepIn K (.ref f6)=true)
  (a7:PySem.W.nsIn K mainGlobals "fits"=some (some (.ref f7)))
  (l7:K.lookup f7=some ⟨oc7,od7,.func (PySem.W.fnOf "fits" "fits" (defArgs q2t) (defBody q2t) (defScope q2t) .none kV7 dc7 pm7 an7 cd7 ct7),sl7⟩)
  (c7:PySem.W.codeIn K cd7 "fits"=true)
  (k7:keepIn K (.ref f7)=true)
  (a8:PySem.W.nsIn K mainGlobals "covers"=some (some (.ref f8)))
  (l8:K.lookup f8=some ⟨oc8,od8,.func (PySem.W.fnOf "covers" "covers" (defArgs q19) (defBody q19) (defScope q19) .none kV8 dc8 pm8 an8 cd8 ct8),sl8⟩)
  (c8:PySem.W.codeIn K cd8 "covers"=true)
  (k8:keepIn K (.ref f8)=true)
  (a9:PySem.W.nsIn K mainGlobals "wished_rows"=some (some (.ref f9)))
  (l9:K.lookup f9=some ⟨oc9,od9,.func (PySem.W.fnOf "wished_rows" "wished_rows" (defArgs q0w) (defBody q0w) (defScope q0w) .none kV9 dc9 pm9 an9 cd9 ct9),sl9⟩)
  (c9:PySem.W.codeIn K cd9 "wished_rows"=true)
  (k9:keepIn K (.ref f9)=true)
  (a10:PySem.W.nsIn K mainGlobals "rows_left"=some (some (.ref f10)))
  (l10:K.lookup f10=some ⟨oc10,od10,.func (PySem.W.fnOf "rows_left" "rows_left" (defArgs q09) (defBody q09) (defScope q09) .none kV10 dc10 pm10 an10 cd10 ct10),sl10⟩)
  (c10:PySem.W.codeIn K cd10 "rows_left"=true)
  (k10:keepIn K (.ref f10)=true)
  (a11:PySem.W.nsIn K mainGlobals "_law_cell_at"=some (some (.ref f11)))
  (l11:K.lookup f11=some ⟨oc11,od11,.func (PySem.W.fnOf "_law_cell_at" "_law_cell_at" (defArgs q0x) (defBody q0x) (defScope q0x) .none kV11 dc11 pm11 an11 cd11 ct11),sl11⟩)
  (c11:PySem.W.codeIn K cd11 "_law_cell_at"=true)
  (k11:keepIn K (.ref f11)=true)
  (a12:PySem.W.nsIn K mainGlobals "_law_way"=some (some (.ref f12)))
  (l12:K.lookup f12=some ⟨oc12,od12,.func (PySem.W.fnOf "_law_way" "_law_way" (defArgs q1o) (defBody q1o) (defScope q1o) .none kV12 dc12 pm12 an12 cd12 ct12),sl12⟩)
  (c12:PySem.W.codeIn K cd12 "_law_way"=true)
  (k12:keepIn K (.ref f12)=true)
  (a13:PySem.W.nsIn K mainGlobals "_law_mark"=some (some (.ref f13)))
  (l13:K.lookup f13=some ⟨oc13,od13,.func (PySem.W.fnOf "_law_mark" "_law_mark" (defArgs q1h) (defBody q1h) (defScope q1h) .none kV13 dc13 pm13 an13 cd13 ct13),sl13⟩)
  (c13:PySem.W.codeIn K cd13 "_law_mark"=true)
  (k13:keepIn K (.ref f13)=true)
  (a14:PySem.W.nsIn K mainGlobals "_law_rows"=some (some (.ref f14)))
  (l14:K.lookup f14=some ⟨oc14,od14,.func (PySem.W.fnOf "_law_rows" "_law_rows" (defArgs q0y) (defBody q0y) (defScope q0y) .none kV14 dc14 pm14 an14 cd14 ct14),sl14⟩)
  (c14:PySem.W.codeIn K cd14 "_law_rows"=true)
  (k14:keepIn K (.ref f14)=true)
  (a15:PySem.W.nsIn K mainGlobals "_law_wish_by"=some (some (.ref f15)))
  (l15:K.lookup f15=some ⟨oc15,od15,.func (PySem.W.fnOf "_law_wish_by" "_law_wish_by" (defArgs q0r) (defBody q0r) (defScope q0r) .none kV15 dc15 pm15 an15 cd15 ct15),sl15⟩)
  (c15:PySem.W.codeIn K cd15 "_law_wish_by"=true)
  (k15:keepIn K (.ref f15)=true)
  (a16:PySem.W.nsIn K mainGlobals "_law_odd_wish"=some (some (.ref f16)))
  (l16:K.lookup f16=some ⟨oc16,od16,.func (PySem.W.fnOf "_law_odd_wish" "_law_odd_wish" (defArgs q0o) (defBody q0o) (defScope q0o) .none kV16 dc16 pm16 an16 cd16 ct16),sl16⟩)
  (c16:PySem.W.codeIn K cd16 "_law_odd_wish"=true)
  (k16:keepIn K (.ref f16)=true)
  (a17:PySem.W.nsIn K mainGlobals "_law_fits"=some (some (.ref f17)))
  (l17:K.lookup f17=some ⟨oc17,od17,.func (PySem.W.fnOf "_law_fits" "_law_fits" (defArgs q1i) (defBody q1i) (defScope q1i) .none kV17 dc17 pm17 an17 cd17 ct17),sl17⟩)
  (c17:PySem.W.codeIn K cd17 "_law_fits"=true)
  (k17:keepIn K (.ref f17)=true)
  (a18:PySem.W.nsIn K mainGlobals "_law_cube_at"=some (some (.ref f18)))
  (l18:K.lookup f18=some ⟨oc18,od18,.func (PySem.W.fnOf "_law_cube_at" "_law_cube_at" (defArgs q0s) (defBody q0s) (defScope q0s) .none kV18 dc18 pm18 an18 cd18 ct18),sl18⟩)
  (c18:PySem.W.codeIn K cd18 "_law_cube_at"=true)
  (k18:keepIn K (.ref f18)=true)
  (a19:PySem.W.nsIn K mainGlobals "_law_grown"=some (some (.ref f19)))
  (l19:K.lookup f19=some ⟨oc19,od19,.func (PySem.W.fnOf "_law_grown" "_law_grown" (defArgs q00) (defBody q00) (defScope q00) .none kV19 dc19 pm19 an19 cd19 ct19),sl19⟩)
  (c19:PySem.W.codeIn K cd19 "_law_grown"=true)
  (k19:keepIn K (.ref f19)=true)
  (a20:PySem.W.nsIn K mainGlobals "_law_greedy"=some (some (.ref f20)))
  (l20:K.lookup f20=some ⟨oc20,od20,.func (PySem.W.fnOf "_law_greedy" "_law_greedy" (defArgs q03) (defBody q03) (defScope q03) .none kV20 dc20 pm20 an20 cd20 ct20),sl20⟩)
  (c20:PySem.W.codeIn K cd20 "_law_greedy"=true)
  (k20:keepIn K (.ref f20)=true)
  (a21:PySem.W.nsIn K mainGlobals "_law_due"=some (some (.ref f21)))
  (l21:K.lookup f21=some ⟨oc21,od21,.func (PySem.W.fnOf "_law_due" "_law_due" (defArgs q1l) (defBody q1l) (defScope q1l) .none kV21 dc21 pm21 an21 cd21 ct21),sl21⟩)
  (c21:PySem.W.codeIn K cd21 "_law_due"=true)
  (k21:keepIn K (.ref f21)=true)
  (a22:PySem.W.nsIn K mainGlobals "_law_refused"=some (some (.ref f22)))
  (l22:K.lookup f22=some ⟨oc22,od22,.func (PySem.W.fnOf "_law_refused" "_law_refused" (defArgs q0z) (defBody q0z) (defScope q0z) .none kV22 dc22 pm22 an22 cd22 ct22),sl22⟩)
  (c22:PySem.W.codeIn K cd22 "_law_refused"=true)
  (k22:keepIn K (.ref f22)=true)
  (a23:PySem.W.nsIn K mainGlobals "law"=some (some (.ref f23)))
  (l23:K.lookup f23=some ⟨oc23,od23,.func (PySem.W.fnOf "law" "law" (defArgs q2x) (defBody q2x) (defScope q2x) .none kV23 dc23 pm23 an23 cd23 ct23),sl23⟩)
  (c23:PySem.W.codeIn K cd23 "law"=true)
  (k23:keepIn K (.ref f23)=true)
  (n_CircuitError:PySem.W.nsIn K mainGlobals "CircuitError"=some (some (.ref A_CircuitError)))
  (n_NoRow:PySem.W.nsIn K mainGlobals "NoRow"=some (some (.ref A_NoRow)))
  (n_NoTable:PySem.W.nsIn K mainGlobals "NoTable"=some (some (.ref A_NoTable)))
  (n_MOST_PLACES_tables:PySem.W.nsIn K mainGlobals "MOST_PLACES_tables"=some (some A_MOST_PLACES_tables))
  (n_MOST_PLACES_covers:PySem.W.nsIn K mainGlobals "MOST_PLACES_covers"=some (some A_MOST_PLACES_covers))
  (z_all:PySem.W.nsIn K mainGlobals "all"=some none)
  (z_bool:PySem.W.nsIn K mainGlobals "bool"=some none)
  (z_enumerate:PySem.W.nsIn K mainGlobals "enumerate"=some none)
  (z_int:PySem.W.nsIn K mainGlobals "int"=some none)
  (z_isinstance:PySem.W.nsIn K mainGlobals "isinstance"=some none)
  (z_len:PySem.W.nsIn K mainGlobals "len"=some none)
  (z_list:PySem.W.nsIn K mainGlobals "list"=some none)
  (z_range:PySem.W.nsIn K mainGlobals "range"=some none)
  (z_reversed:PySem.W.nsIn K mainGlobals "reversed"=some none)
  (z_sorted:PySem.W.nsIn K mainGlobals "sorted"=some none)
  (z_tuple:PySem.W.nsIn K mainGlobals "tuple"=some none)
  (z_zip:PySem.W.nsIn K mainGlobals "zip"=some none)
  (g_MOST_PLACES_tables:conIn K (.int 10) A_MOST_PLACES_tables=true)
  (g_MOST_PLACES_covers:conIn K (.int 4) A_MOST_PLACES_covers=true)
  (e_NoRow:excIn K A_NoRow A_CircuitError=true)
  (e_NoTable:excIn K A_NoTable A_CircuitError=true)
  (c_NoRow:excClsIn K A_NoRow=true)
  (x_NoRow_CircuitError:exmOne K (.ref A_NoRow) (.ref A_CircuitError)=some true)
  (k_NoRow_NoTable:kitOne K (.ref A_NoRow) (.ref A_NoTable)=some false)
  (c_NoTable:excClsIn K A_NoTable=true)
  (x_NoTable_CircuitError:exmOne K (.ref A_NoTable) (.ref A_CircuitError)=some true)
  (k_NoTable_NoTable:kitOne K (.ref A_NoTable) (.ref A_NoTable)=some true)
  (t_NoneType_bool:kitOne K (.type "NoneType") (.type "bool")=some false)
  (t_bool_bool:kitOne K (.type "bool") (.type "bool")=some true)
  (t_int_bool:kitOne K (.type "int") (.type "bool")=some false)
  (t_str_bool:kitOne K (.type "str") (.type "bool")=some false)
  (t_tuple_bool:kitOne K (.type "tuple") (.type "bool")=some false)
  (t_list_bool:kitOne K (.type "list") (.type "bool")=some false)
  (n:Nat)(hL:∀a:Adr,Exs K mg a->∀ns:List Int,Fit ns->run K a (n+1) q39 [.lst (ns.map .int)]=.ok (.fr (.bl true))):
  ∃fd:FuncData,(∀(s:Shared)(v:Value),BindsTo s fd ⟨[v],[]⟩ [("_law_script", v)])/\∀base:Heap,K.In base->base.Ns mainGlobals mg->FnOk l.prog w K mg base (CX1 l.prog w) (n+1) fa fd ["_law_script"] (spLawB K):=by
 have e:=hfa.symm.trans (mg_of X G a23);cases e
 have A:Ats K mg:=⟨⟨⟨_,_,q0h (st:=q18) l0 c0 k0,mg_of X G a0,(q0h (st:=q18) l0 c0 k0).binds (ps:=["number", "many"]) fun _ _ _ _ _ _=>us2 fun _ _=>rfl⟩⟩,
  ⟨⟨_,_,q0h (st:=q1f) l1 c1 k1,mg_of X G a1,(q0h (st:=q1f) l1 c1 k1).binds (ps:=["many"]) fun _ _ _ _ _ _=>us1 fun _=>rfl⟩⟩,
  ⟨⟨_,_,q0h (st:=q1k) l2 c2 k2,mg_of X G a2,(q0h (st:=q1k) l2 c2 k2).binds (ps:=["many"]) fun _ _ _ _ _ _=>us1 fun _=>rfl⟩⟩,
  ⟨⟨_,_,q0h (st:=q1p) l3 c3 k3,mg_of X G a3,(q0h (st:=q1p) l3 c3 k3).binds (ps:=["cube", "row"]) fun _ _ _ _ _ _=>us2 fun _ _=>rfl⟩⟩,
  ⟨⟨_,_,q0h (st:=q1q) l4 c4 k4,mg_of X G a4,(q0h (st:=q1q) l4 c4 k4).binds (ps:=["cube"]) fun _ _ _ _ _ _=>us1 fun _=>rfl⟩⟩,
  ⟨⟨_,_,q0h (st:=q1g) l5 c5 k5,mg_of X G a5,(q0h (st:=q1g) l5 c5 k5).binds (ps:=["table"]) fun _ _ _ _ _ _=>us1 fun _=>rfl⟩⟩,
  ⟨⟨_,_,q0h (st:=q02) l6 c6 k6,mg_of X G a6,(q0h (st:=q02) l6 c6 k6).binds (ps:=["wish"]) fun _ _ _ _ _ _=>us1 fun _=>rfl⟩⟩,
  ⟨⟨_,_,q0h (st:=q2t) l7 c7 k7,mg_of X G a7,(q0h (st:=q2t) l7 c7 k7).binds (ps:=["cube", "wish"]) fun _ _ _ _ _ _=>us2 fun _ _=>rfl⟩⟩,
  ⟨⟨_,_,q0h (st:=q19) l8 c8 k8,mg_of X G a8,(q0h (st:=q19) l8 c8 k8).binds (ps:=["cover", "wish"]) fun _ _ _ _ _ _=>us2 fun _ _=>rfl⟩⟩,
  ⟨⟨_,_,q0h (st:=q0w) l9 c9 k9,mg_of X G a9,(q0h (st:=q0w) l9 c9 k9).binds (ps:=["wish"]) fun _ _ _ _ _ _=>us1 fun _=>rfl⟩⟩,
  ⟨⟨_,_,q0h (st:=q09) l10 c10 k10,mg_of X G a10,(q0h (st:=q09) l10 c10 k10).binds (ps:=["numbers", "taken"]) fun _ _ _ _ _ _=>us2 fun _ _=>rfl⟩⟩,
  ⟨⟨_,_,q0h (st:=q0x) l11 c11 k11,mg_of X G a11,(q0h (st:=q0x) l11 c11 k11).binds (ps:=["_law_script", "_law_k"]) fun _ _ _ _ _ _=>us2 fun _ _=>rfl⟩⟩,
  ⟨⟨_,_,q0h (st:=q1o) l12 c12 k12,mg_of X G a12,(q0h (st:=q1o) l12 c12 k12).binds (ps:=["_law_script", "_law_k", "_law_many"]) fun _ _ _ _ _ _=>us3 fun _ _ _=>rfl⟩⟩,
  ⟨⟨_,_,q0h (st:=q1h) l13 c13 k13,mg_of X G a13,(q0h (st:=q1h) l13 c13 k13).binds (ps:=["_law_script", "_law_k"]) fun _ _ _ _ _ _=>us2 fun _ _=>rfl⟩⟩,
  ⟨⟨_,_,q0h (st:=q0y) l14 c14 k14,mg_of X G a14,(q0h (st:=q0y) l14 c14 k14).binds (ps:=["_law_cube"]) fun _ _ _ _ _ _=>us1 fun _=>rfl⟩⟩,
  ⟨⟨_,_,q0h (st:=q0r) l15 c15 k15,mg_of X G a15,(q0h (st:=q0r) l15 c15 k15).binds (ps:=["_law_script", "_law_many"]) fun _ _ _ _ _ _=>us2 fun _ _=>rfl⟩⟩,
  ⟨⟨_,_,q0h (st:=q0o) l16 c16 k16,mg_of X G a16,(q0h (st:=q0o) l16 c16 k16).binds (ps:=["_law_script"]) fun _ _ _ _ _ _=>us1 fun _=>rfl⟩⟩,
  ⟨⟨_,_,q0h (st:=q1i) l17 c17 k17,mg_of X G a17,(q0h (st:=q1i) l17 c17 k17).binds (ps:=["_law_cube", "_law_wish"]) fun _ _ _ _ _ _=>us2 fun _ _=>rfl⟩⟩,
  ⟨⟨_,_,q0h (st:=q0s) l18 c18 k18,mg_of X G a18,(q0h (st:=q0s) l18 c18 k18).binds (ps:=["_law_script", "_law_first", "_law_many"]) fun _ _ _ _ _ _=>us3 fun _ _ _=>rfl⟩⟩,
  ⟨⟨_,_,q0h (st:=q00) l19 c19 k19,mg_of X G a19,(q0h (st:=q00) l19 c19 k19).binds (ps:=["_law_wish", "_law_number", "_law_many", "_law_back"]) fun _ _ _ _ _ _=>us4 fun _ _ _ _=>rfl⟩⟩,
  ⟨⟨_,_,q0h (st:=q03) l20 c20 k20,mg_of X G a20,(q0h (st:=q03) l20 c20 k20).binds (ps:=["_law_wish", "_law_many", "_law_back"]) fun _ _ _ _ _ _=>us3 fun _ _ _=>rfl⟩⟩,
  ⟨⟨_,_,q0h (st:=q1l) l21 c21 k21,mg_of X G a21,(q0h (st:=q1l) l21 c21 k21).binds (ps:=["_law_cover", "_law_wish"]) fun _ _ _ _ _ _=>us2 fun _ _=>rfl⟩⟩,
  ⟨⟨_,_,q0h (st:=q0z) l22 c22 k22,mg_of X G a22,(q0h (st:=q0z) l22 c22 k22).binds (ps:=["_law_wish"]) fun _ _ _ _ _ _=>us1 fun _=>rfl⟩⟩,
  ⟨⟨_,_,q0h (st:=q2x) l23 c23 k23,mg_of X G a23,(q0h (st:=q2x) l23 c23 k23).binds (ps:=["_law_script"]) fun _ _ _ _ _ _=>us1 fun _=>rfl⟩⟩⟩
 have B:Blt mg:=⟨mg_none_of X G z_all,mg_none_of X G z_bool,mg_none_of X G z_enumerate,mg_none_of X G z_int,mg_none_of X G z_isinstance,mg_none_of X G z_len,mg_none_of X G z_list,mg_none_of X G z_range,mg_none_of X G z_reversed,mg_none_of X G z_sorted,mg_none_of X G z_tuple,mg_none_of X G z_zip⟩;have M:Exs K mg ⟨A_CircuitError,A_NoRow,A_NoTable,A_MOST_PLACES_tables,A_MOST_PLACES_covers⟩:=⟨trivial,mg_of X G n_CircuitError,mg_of X G n_NoRow,mg_of X G n_NoTable,mg_of X G n_MOST_PLACES_tables,mg_of X G n_MOST_PLACES_covers,g_MOST_PLACES_tables,g_MOST_PLACES_covers,e_NoRow,e_NoTable,c_NoRow,x_NoRow_CircuitError,k_NoRow_NoTable,c_NoTable,x_NoTable_CircuitError,k_NoTable_NoTable,t_NoneType_bool,t_bool_bool,t_int_bool,t_str_bool,t_tuple_bool,t_list_bool⟩;exact⟨_,fun s v=>.of_eq rfl,fun base _ _=>(law_fn A B M (q0h (st:=q2x) l23 c23 k23) n).imp fun vs H Q E q=>x5o (hL _ M) q⟩
local macro_rules | `(tactic| walk_at "den") => do
 let l:=(("x7r x5q x5p x7p x6y x7l x5m x5n x5i x3j x5j x5k x3k x3l x3m x1w x7j x5l x7k x98 x99 y3n x7e x7f x7g x7h x47 y3i x94 x7b x7c y15 y16 y17 y18 y19 y2a y2b x87 x83 x84 x85 x6x y12 y13 y14 x86 y4h y4i y4j y4k y2c x3c x3d x4u y2d y2e x88 dC_s y4l y4m x89 x9a y2f y2g y4n y2h x9b y2i y2j y4o x9c y2k y4p y2l x9d y2m y4q y4r x9e y4s x9f y2n x9g x9h x9i y2o y2p y2q x9j x9k x9l x6z x9m x9n x60 x4v x61 x4w y2r x9o x4x q28 x9p x9q x2n x9r x9s x62 y2s x4y y4t y2t y2u y4u y4v x63 y4w x4z x9t x64 y2v y2w y2x y2y y2z x9v x9w x9x x9y x66 x3e x3f x0r x67 x40 x9z x68 y21 y22 y23 y24 y25 x90 y26 y4x y4y y4z y40 y41 y42 y43 y44 y45 y46 y47 y48 y49 y5a y5b y5c y27 y28 y29 y3a y3b y3c y3d ix_t ix_l y5d y5e y5f y5g y5h y5i y5j y5k y5l y5m y5n y5o y5p sc_i sc_b sc_s sc_n sl_l at0 at1 at2 y3e rng1 rng2 init Option.map_some Option.bind_some List.map_cons List.map_nil List.length_cons List.length_nil List.replicate_succ List.replicate_zero List.cons_append List.nil_append List.getElem?_cons_zero List.getElem?_cons_succ List.set_cons_zero List.set_cons_succ if_true if_false decide_eq_true_eq reduceIte Bool.false_eq_true ite_true ite_false Nat.reduceSub Nat.reduceAdd Nat.reduceLeDiff Nat.zero_add Nat.le_refl Int.reduceLT Int.reduceLE Int.reduceNeg true_and and_true true_or or_true false_and and_false false_or or_false not_true_eq_false not_false_eq_true decide_true decide_false Bool.not_true Bool.not_false String.reduceEq Nat.reduceEqDiff x69 y5r y5s Int.reduceToNat Int.reducePow Nat.reduceLT cast0 cast1 Int.reduceEq Int.reduceMod Int.reduceDiv Int.reduceAdd Int.reduceSub Int.reduceMul".splitOn " ").map fun s=>Lean.mkIdent s.toName).toArray
 `(tactic| try simp only [$[$l:ident],*])
section
theorem q67(n:Nat)(ns:List Int){k:Int}(hk:0<=k):run K a (n+1) q04 [.lst (ns.map .int),.int k]=.ok (.fr (.int (ns.getD k.toNat 0))):=by
 rw[q35];unfold q2c;walk_at "den"
 by_cases h:k<ns.length
 ·rw[if_pos (by simpa using h),x0t hk]
  have e:(ns.map W.int)[k.toNat]?=some (.int (ns.getD k.toNat 0)):=by
   have:k.toNat<ns.length:=by omega
   simp[List.getD,this]
  rw[e];walk_at "den"
 ·rw[if_neg (by simpa using h)]
  have:ns.getD k.toNat 0=0:=by
   have:¬k.toNat<ns.length:=by omega
   simp[List.getD,this]
  rw[this]
theorem q9m{i:Nat}{b:List S->SR}(st:S->List S)(p:W->Bool)(rt:W->S):∀(ws:List W)(z:S),(∀w∈ws,∀z,(p w=true->∃e',b ((st z).set i (.fr w))=.rt (rt w) e')/\(p w=false->∃z',b ((st z).set i (.fr w))=.nx (st z'))) ->
  (∀w,ws.find? p=some w->∃e',forD i b ws (st z)=.rt (rt w) e')/\(ws.find? p=none->∃z',forD i b ws (st z)=.nx (st z'))
 |[],z,h=>⟨fun w q=>by simp at q,fun _=>⟨z,rfl⟩⟩
 |w::ws,z,h=>by
  obtain⟨h1,h2⟩:=h w (by simp) z;cases q:p w with
  |true=>
   obtain⟨e',h3⟩:=h1 q;refine⟨fun u hu=>?_,fun hu=>?_⟩
   ·rw[w3g q]at hu;cases hu;exact⟨e',by rw[q2q,h3,x2n]⟩
   ·rw[w3g q]at hu;cases hu
  |false=>
   obtain⟨z',h3⟩:=h2 q;have ih:=q9m st p rt ws z' fun u hu=>h u (by simp[hu])
   rw[List.find?_cons_of_neg (by simp[q]),q2q,h3,q28];exact ih
theorem q5d(n:Nat)(m:Int)(h0:0<=m)(h1:m<1000):run K a (n+1) q1t [.int m]=.ok (.fr (.int (2^m.toNat))):=by
 rw[q46];unfold q21;walk_at "den";rw[if_pos (q2a (by omega) (by omega))];walk_at "den"
 obtain⟨e',h2,z,rfl⟩:=q3w (b:=q3r K a (run K a n)) (i:=2) (lo:=0) (hi:=m) m.toNat (by omega) (fun j e=>∃z,e=[.fr (.int m),.fr (.int (2^j)),z]) [.fr (.int m),.fr (.int 1),.no] ⟨_,rfl⟩ (by
  rintro j e hj ⟨z,rfl⟩;unfold q3r;walk_at "den";exact⟨_,rfl,_,by rw[w3k,Int.mul_comm]⟩)
 rw[h2];walk_at "den"
noncomputable def lg(n:Nat):Option Nat:=(List.range 11).find? fun m=>decide (2^m=n)
theorem y0h(h:lg n=some m):m<=10/\n=2^m:=by
 unfold lg at h;have h1:=List.find?_some h;have h2:=List.mem_of_find?_eq_some h;simp at h1 h2;omega
noncomputable def placesR(a:Adr):Option Nat->FR
 |some m=>.ok (.fr (.int m))
 |none=>.ex (.ref a.NoTable)
theorem q5e(n:Nat)(ws:List W):run K a (n+2) q16 [.lst ws]=placesR a (lg ws.length):=by
 rw[q47];unfold q22;walk_at "den";rw[if_pos (q2a (by omega) (by omega))];walk_at "den";have e:rangeW 0 11=(List.range 11).map fun(k:Nat)=>W.int (0+(k:Int)):=rfl
 have h:=q9m (i:=1) (b:=q3s K a (run K a (n+1))) (fun z=>[.fr (.lst ws),z]) (fun w=>match w with|.int k=>decide ((ws.length:Int)=2^k.toNat)|_=>false) (fun w=>.fr w) (rangeW 0 11) .no (by
  intro w hw z;rw[e]at hw;obtain⟨k,hk,rfl⟩:=w1f.mp hw;rw[w0w]at hk;unfold q3s;walk_at "den";rw[q5d n _ (by omega) (by omega)];walk_at "den";constructor
  ·intro hp;have hp:(ws.length:Int)=2^(0+(k:Int)).toNat:=by simpa using hp
   rw[if_pos hp];exact⟨_,rfl⟩
  ·intro hp;have hp:¬(ws.length:Int)=2^(0+(k:Int)).toNat:=by simpa using hp
   rw[if_neg hp];exact⟨_,rfl⟩)
 have e2:(rangeW 0 11).find? (fun w=>match w with|.int k=>decide ((ws.length:Int)=2^k.toNat)|_=>false)=(lg ws.length).map fun(k:Nat)=>W.int (0+(k:Int)):=by
  rw[e,List.find?_map];unfold lg;congr 2;funext k
  simp only[Function.comp];rw[show(0+(k:Int)).toNat=k by omega]
  have:((ws.length:Int)=2^k)↔2^k=ws.length:=by
   constructor
   ·intro h;exact_mod_cast h.symm
   ·intro h;exact_mod_cast h.symm
  simp only[this]
 rw[e2]at h;cases q:lg ws.length with
 |some m=>
  rw[q]at h;obtain⟨e',h1⟩:=h.1 _ rfl;rw[h1];walk_at "den";simp[placesR]
 |none=>
  rw[q]at h;obtain⟨z',h1⟩:=h.2 rfl;rw[h1];walk_at "den";rfl
open M10
theorem y0i(n:Nat)(i m:Int)(h0:0<=m)(h1:m<1000)(hi:i.natAbs<2^1000):run K a (n+1) q2r [.int i,.int m]=if rest m.toNat i=0 then .ok (.fr (.tup ((bits m.toNat i).reverse.map .bl)))else .ex (.ref a.NoRow):=by
 rw[q7z];unfold q34;walk_at "den";rw[if_pos (q2a (by omega) (by omega))];walk_at "den"
 obtain⟨e',h2,z,rfl⟩:=q3w (b:=q4x K a (run K a n)) (i:=4) (lo:=0) (hi:=m) m.toNat (by omega) (fun j e=>∃z,e=[.fr (.int i),.fr (.int m),.own none ((bits j i).map .bl),.fr (.int (rest j i)),z]) [.fr (.int i),.fr (.int m),.own none [],.fr (.int i),.no] ⟨_,rfl⟩ (by
  rintro j e hj ⟨z,rfl⟩;unfold q4x;walk_at "den";rw[if_pos (by rw[w0a,q4w];omega)];walk_at "den";exact⟨_,rfl,_,by rw[q9h,q9i,w2b];rfl⟩)
 rw[h2];walk_at "den"
 by_cases hr:rest m.toNat i=0
 ·rw[if_pos hr];simp only[hr];walk_at "den";rw[List.map_reverse]
 ·rw[if_neg hr];simp only[hr];walk_at "den"
theorem small2{i:Int}(h1:0<=i)(h2:i<100000):i.natAbs<2^1000:=by
 have h:(2:Nat)^20<=2^1000:=w0v (by decide) (by decide);have:(2:Nat)^20=1048576:=by decide
 omega
noncomputable def rowB(m:Nat)(k:Nat):List Bool:=(bits m (k:Int)).reverse
theorem q68(m k:Nat):(rowB m k).length=m:=by unfold rowB;rw[w2u,q4w]
theorem y0j(n:Nat)(hk:k<2^m)(hm:m<=10):run K a (n+1) q2r [.int (k:Int),.int (m:Int)]=.ok (.fr (.tup ((rowB m k).map .bl))):=by
 have h10:(2:Nat)^m<=2^10:=w0v (by decide) hm;have h1024:(2:Nat)^10=1024:=by decide
 have hk2:(k:Int)<2^m:=by exact_mod_cast hk
 rw[y0i n k m (by omega) (by omega) (small2 (by omega) (by omega)),if_pos (q9j (by omega) (by simpa using hk2))];rw[w1b];rfl
theorem q8r(m:Nat):(2:Int)^m=((2^m:Nat):Int):=by exact_mod_cast rfl
theorem q2w(q:Nat):rangeW 0 (q:Int)=(List.range q).map fun k=>W.int ((k:Nat):Int):=by
 unfold rangeW;rw[w4b,w1b];apply List.map_congr_left;intro k _;rw[Int.zero_add]
theorem x1k(n:Nat)(hm:m<=10):run K a (n+2) q2k [.int (m:Int)]=.ok (.own none ((List.range (2^m)).map fun k=>W.tup ((rowB m k).map .bl))):=by
 have h10:(2:Nat)^m<=2^10:=w0v (by decide) hm;have h1024:(2:Nat)^10=1024:=by decide
 have hp0:0<(2:Nat)^m:=w3p (by decide);rw[q5w];unfold q3a;walk_at "den";rw[q5d n m (by omega) (by omega)];walk_at "den";rw[w1b,q8r,if_pos (q2a (by omega) (by omega))];walk_at "den";rw[if_pos (by rw[q12];omega)];simp only[frz1,pj1,w0e,w0q];rw[q2w,D.x0s (g:=fun w=>match w with|.int k=>W.tup ((rowB m k.toNat).map .bl)|w=>w)]
 ·walk_at "den";rw[List.map_map];rfl
 ·intro w hw;obtain⟨k,hk,rfl⟩:=w1f.mp hw;rw[w0w]at hk;unfold q5s;walk_at "den";rw[y0j n hk hm];walk_at "den";exact⟨_,rfl⟩
noncomputable def eo:Option Bool->W
 |none=>.non
 |some b=>.bl b
noncomputable def mt:List (Option Bool)->List Bool->Bool
 |o::c,b::r=>(o==none||o==some b)&&mt c r
 |_,_=>true
noncomputable def rin(c:List (Option Bool)):List Nat:=(List.range (2^c.length)).filter fun k=>mt c (rowB c.length k)
theorem q58{cc:Den Bool}{d:Den W}{pe:List S}{α:Type}{q:α->Bool}{g:α->W}{en:α->W}:∀(xs:List α),(∀x∈xs,∃e1,cc (.fr (en x)::pe)=.ok (q x) e1/\(q x=true->∃e2,d e1=.ok (g x) e2))->compD cc d pe (xs.map en)=some ((xs.filter q).map g)
 |[],_=>rfl
 |x::xs,h=>by
  obtain⟨e1,h1,h2⟩:=h x (by simp);have ih:=q58 (cc:=cc) (d:=d) (pe:=pe) (q:=q) (g:=g) (en:=en) xs fun u hu=>h u (by simp[hu])
  rw[w0n,q5o,h1,ih];cases hq:q x with
  |true=>
   obtain⟨e2,h3⟩:=h2 hq;simp only[hq,h3,w2p,if_true];rfl
  |false=>simp[hq,w2p]
theorem q59{d:Den W}{g:α->W}{en:α->W}(xs:List α)(h:∀x∈xs,∃e2,d (.fr (en x)::pe)=.ok (g x) e2):compD dYes d pe (xs.map en)=some (xs.map g):=by
 rw[q58 (cc:=dYes) (q:=fun _=>true) (g:=g) xs fun x hx=>⟨_,rfl,fun _=>h x hx⟩,List.filter_eq_self.mpr fun _ _=>rfl]
theorem pow10(hm:m<=10):2^m<=1024:=w0j (w0v (by decide) hm) (by decide)
theorem q6p(r0:Nat->List W->FR):∀(c:List (Option Bool))(r:List Bool),compP dYes (q4e K a r0) [] ((c.map eo).zip (r.map .bl))=some (((c.zip r).map fun p=>(p.1==none||p.1==some p.2)).map .bl)
 |[],_=>rfl
 |_::_,[]=>rfl
 |o::c,b::r=>by
  have ih:=q6p r0 c r;simp only[w0n,w3v];rw[q7u,ih];unfold q4e;cases o with
  |none=>
   simp only[eo];walk_at "den";rfl
  |some d=>
   simp only[eo];walk_at "den";cases d<;>cases b<;>rfl
theorem x5x:∀(c:List (Option Bool))(r:List Bool),((c.zip r).map fun p=>(p.1==none||p.1==some p.2)).all id=mt c r
 |[],_=>by cases ‹List Bool›<;>rfl
 |_::_,[]=>rfl
 |o::c,b::r=>by
  simp only[w3v,w0n,w1n,id,mt];rw[x5x c r]
theorem x17(n:Nat){r:List Bool}(h:c.length=r.length)(hl:r.length<=1000):run K a (n+1) q2s [.tup (c.map eo),.tup (r.map .bl)]=.ok (.fr (.bl (mt c r))):=by
 rw[q6h];unfold q3p;walk_at "den";simp only[w0a,h];walk_at "den";rw[if_pos (by simp[List.length_zip];omega),q6p];walk_at "den";rw[x76];walk_at "den";rw[x5x]
theorem q9n{f:Nat->W}:∀(N j:Nat),enumL j ((List.range' j N).map f)=(List.range' j N).map fun(k:Nat)=>(W.int ((k:Nat):Int),f k)
 |0,_=>rfl
 |N+1,j=>by
  rw[List.range'_succ,w0n,w0n,<- q9n N (j+1)];rfl
theorem q6q{f:Nat->W}(N:Nat):enumL 0 ((List.range N).map f)=(List.range N).map fun(k:Nat)=>(W.int ((k:Nat):Int),f k):=by
 rw[List.range_eq_range'];exact q9n N 0
theorem q69{cc:Den Bool}{d:Den W}{pe:List S}{α:Type}{q:α->Bool}{g:α->W}{en:α->W×W}:∀(xs:List α),(∀x∈xs,∃e1,cc (.fr (en x).1::.fr (en x).2::pe)=.ok (q x) e1/\(q x=true->∃e2,d e1=.ok (g x) e2))->compP cc d pe (xs.map en)=some ((xs.filter q).map g)
 |[],_=>rfl
 |x::xs,h=>by
  obtain⟨e1,h1,h2⟩:=h x (by simp);have ih:=q69 (cc:=cc) (d:=d) (pe:=pe) (q:=q) (g:=g) (en:=en) xs fun u hu=>h u (by simp[hu])
  rw[w0n,q7u,h1,ih];cases hq:q x with
  |true=>
   obtain⟨e2,h3⟩:=h2 hq;simp only[hq,h3,w2p,if_true];rfl
  |false=>simp[hq,w2p]
theorem q6r(n:Nat)(hc:c.length<=10):run K a (n+3) q2g [.tup (c.map eo)]=.ok (.own none ((rin c).map fun(k:Nat)=>W.int (k:Int))):=by
 have h10:=pow10 hc;rw[q6i];unfold q3q;walk_at "den";rw[w0a,x1k n hc];walk_at "den";rw[q6q,if_pos (by rw[w0a,w1g];omega)];simp only[frz1,pj1,w0e,w0q];rw[q69 (q:=fun k=>mt c (rowB c.length k)) (g:=fun(k:Nat)=>W.int (k:Int))]
 ·walk_at "den";rfl
 ·intro k hk;unfold q6g q6f;walk_at "den";rw[x17 (n+1) (by rw[q68]) (by rw[q68];omega)];walk_at "den";exact⟨_,rfl,fun _=>⟨_,rfl⟩⟩
theorem rin_mem:k∈rin c↔k<2^c.length/\mt c (rowB c.length k)=true:=by
 unfold rin;rw[w1z,w0w]
theorem y0k(c:List (Option Bool)):(rin c).length<=2^c.length:=by
 unfold rin;refine w0j (w2m _ _) ?_;rw[w1g];exact w0d _
theorem y3r(h:m<=10):lg (2^m)=some m:=by
 have:m=0\/m=1\/m=2\/m=3\/m=4\/m=5\/m=6\/m=7\/m=8\/m=9\/m=10:=by omega
 rcases this with h|h|h|h|h|h|h|h|h|h|h<;>(subst h;decide)
theorem x2w(n:Nat)(hw:ws.length=2^m)(hm:m<=4):run K a (n+3) q1a [.lst ws]=.ok (.fr (.int m)):=by
 rw[q3f];unfold q1x;walk_at "den";rw[q5e n,hw,y3r (by omega)];unfold placesR;walk_at "den";rw[if_neg (by omega)]
theorem y0l(n:Nat)(hw:∀m,m<=4->ws.length≠2^m):run K a (n+3) q1a [.lst ws]=.ex (.ref a.NoTable):=by
 rw[q3f];unfold q1x;walk_at "den";rw[q5e n];cases h:lg ws.length with
 |none=>rfl
 |some m=>
  have h1:=y0h h;have h2:¬m<=4:=fun q=>hw m q h1.2
  unfold placesR;walk_at "den";rw[if_pos (by omega)]
noncomputable def fitB(c w:List (Option Bool)):Bool:=(rin c).all fun k=>w.getD k none != some false
theorem x5y(o:Option Bool):nisW (eo o) (.bl false)=some (.bl (o != some false)):=by
 cases o with
 |none=>rfl
 |some b=>cases b<;>rfl
theorem q92{w:List (Option Bool)}(h:k<w.length):atI (w.map eo) (k:Int)=some (eo (w.getD k none)):=by
 refine q4h ?_;simp[List.getD,h]
theorem x7y(n:Nat)(hw:w.length=2^c.length)(hc:c.length<=4):run K a (n+4) q33 [.tup (c.map eo),.lst (w.map eo)]=.ok (.fr (.bl (fitB c w))):=by
 have h10:=pow10 (show c.length<=10 by omega);rw[x1a];unfold q5t;walk_at "den";rw[x2w n (by rw[w0a];exact hw) hc];walk_at "den";simp only[w0a];walk_at "den";rw[q6r n (by omega)];walk_at "den";rw[if_pos (by rw[w0a];have:=y0k c;omega)];simp only[frz1,pj1,w0e,w0q];rw[q59 (g:=fun k=>W.bl (w.getD k none != some false))]
 ·walk_at "den";have e:(rin c).map (fun k=>W.bl (w.getD k none != some false))=((rin c).map fun k=>w.getD k none != some false).map .bl:=by rw[List.map_map];rfl
  rw[e,x76];walk_at "den";unfold fitB;rw[w4c];rfl
 ·intro k hk;have h1:=rin_mem.mp hk;unfold x09;walk_at "den";rw[q92 (by omega)];walk_at "den";rw[x5y];exact⟨_,rfl⟩
theorem q4r(n:Nat)(ns:List Int){k m:Int}(hk:0<=k)(hk2:k<=1000000)(hm:0<m):∃v,run K a (n+2) q05 [.lst (ns.map .int),.int k,.int m]=.ok (.fr (.int v))/\0<=v/\v<m:=by
 rw[q5x];unfold q3c;walk_at "den";rw[q67 n ns hk];walk_at "den";generalize hx:((ns.getD k.toNat 0*48271+7919*((ns.map W.int).length:Int)+104729*k)%2147483647)=x;have h1:0<=x:=by rw[<- hx];exact w2c _ (by decide)
 have h2:x<2147483647:=by rw[<- hx];exact w1r _ (by decide)
 rw[if_pos (.inl ⟨by omega,by omega⟩),if_pos hm];exact⟨_,rfl,w2c _ (by omega),w1r _ hm⟩
theorem q9o(hf:Fit ns)(i:Nat):Builtin.Int.intBits (ns.getD i 0)<=1048576:=by
 rw[List.getD_eq_getElem?_getD];cases h:ns[i]? with
 |none=>exact w1h _
 |some x=>exact hf.2 x (w0u h)
theorem q27(hf:Fit ns)(n:Nat){k:Int}(hk:0<=k)(hk2:k<=1000000):∃v,run K a (n+2) q0m [.lst (ns.map .int),.int k]=.ok (.fr (.int v)):=by
 rw[q49];unfold q24;walk_at "den";rw[q67 n ns (show(0:Int)<=4+k by omega)];walk_at "den";rw[q67 n ns (show(0:Int)<=3 by decide)];walk_at "den";rw[if_pos (.inr ⟨by omega,by omega⟩)];generalize hx:(ns.getD (4+k).toNat 0*40692+ns.getD 3 0*48271*(k+1)+7919*k)=x
 have hb:Builtin.Int.intBits x<=67108864:=by
  rw[<- hx];exact w0j (PyProof.Rows.bits_add (PyProof.Rows.bits_add (PyProof.Rows.bits_mul (q9o hf _) (PySem.intBits_le_64 (by omega) (by omega))) (PyProof.Rows.bits_mul (PyProof.Rows.bits_mul (q9o hf _) (PySem.intBits_le_64 (by omega) (by omega))) (PySem.intBits_le_64 (by omega) (by omega)))) (PyProof.Rows.bits_mul (PySem.intBits_le_64 (by omega) (by omega)) (PySem.intBits_le_64 (by omega) (by omega)))) (by decide)
 rw[y0d hb hb (by decide)];walk_at "den";exact⟨_,rfl⟩
theorem q8s{l:List (Option Bool)}(h:l≠[])(v:Int):∃o,atI (l.map eo) (v%((l.map eo).length:Int))=some (eo o):=by
 have hp:0<l.length:=w3q.mpr h;have h1:=w2c v (show((l.map eo).length:Int)≠0 by rw[w0a];omega);have h2:=w1r v (show(0:Int)<((l.map eo).length:Int) by rw[w0a];omega);rw[w0a]at h2;rw[x0t h1];refine⟨l.getD (v%((l.map eo).length:Int)).toNat none,?_⟩;rw[w0a]at h1 |-
 have h3:(v%(l.length:Int)).toNat<l.length:=by omega
 simp[List.getD,h3]
theorem q6a{d:Den W}(h:∀w∈ws,∃o e2,d (.fr w::pe)=.ok (eo o) e2):∃os:List (Option Bool),compD dYes d pe ws=some (os.map eo)/\os.length=ws.length:=by
 induction ws with
 |nil=>exact⟨[],rfl,rfl⟩
 |cons w ws ih=>
  obtain⟨os,h1,h2⟩:=ih fun u hu=>h u (by simp[hu])
  obtain⟨o,e2,h3⟩:=h w (by simp);refine⟨o::os,?_,by simp[h2]⟩;rw[q5o];simp only[x0r,h3,h1];rfl
theorem x1l(ls:List (List (Option Bool)))(h:∀l∈ls,l≠[]){v:Int}(h0:0<=v)(h1:v<ls.length):∃l,l≠[]/\atI (ls.map fun l=>W.lst (l.map eo)) v=some (.lst (l.map eo)):=by
 have h2:v.toNat<ls.length:=by omega
 refine⟨ls[v.toNat],h _ (w3d h2),?_⟩;rw[x0t h0];simp[h2]
theorem q7a{m:Nat}(hm:m<=4)(hq:2^m=q):atI [W.int 1,W.int 2,W.int 4,W.int 8,W.int 16] (m:Int)=some (.int (q:Int)):=by
 subst hq;have:m=0\/m=1\/m=2\/m=3\/m=4:=by omega
 rcases this with h|h|h|h|h<;>(subst h;rfl)
theorem wishE(n:Nat)(hf:Fit ns){l:List (Option Bool)}(hl:l≠[])(hk:k<=100000):∃o e2,q1v K a (run K a (n+2)) [.fr (.int (k:Int)),.fr (.lst (ns.map .int)),.fr (.lst (l.map eo))]=.ok (eo o) e2:=by
 unfold q1v;walk_at "den";obtain⟨v,h⟩:=q27 (K:=K) (a:=a) hf n (k:=(k:Int)) (by omega) (by omega);rw[h];walk_at "den";have hp:0<l.length:=w3q.mpr hl;rw[if_pos (by rw[w0a];omega)];walk_at "den";obtain⟨o,ho⟩:=q8s hl v;rw[ho];walk_at "den";exact⟨o,_,rfl⟩
theorem q9p(n:Nat)(hf:Fit ns){l:List (Option Bool)}(hl:l≠[])(hq:q<=100):∃w:List (Option Bool),compD dYes (q1v K a (run K a (n+2))) [.fr (.lst (ns.map .int)),.fr (.lst (l.map eo))] (rangeW 0 (q:Int))=some (w.map eo)/\w.length=q:=by
 rw[q2w]
 obtain⟨os,h1,h2⟩:=q6a (d:=q1v K a (run K a (n+2))) (pe:=[.fr (.lst (ns.map .int)),.fr (.lst (l.map eo))]) (ws:=(List.range q).map fun k=>W.int ((k:Nat):Int)) (by
  intro w hw;obtain⟨k,hk,rfl⟩:=w1f.mp hw;rw[w0w]at hk;exact wishE n hf hl (by omega))
 exact⟨os,h1,by rw[h2,w0a,w1g]⟩
theorem x3u(hf:Fit ns)(n:Nat)(hm:m<=4):∃w:List (Option Bool),run K a (n+3) q1b [.lst (ns.map .int),.int (m:Int)]=.ok (.own none (w.map eo))/\w.length=2^m:=by
 have h16:2^m<=16:=w0j (w0v (by decide) hm) (by decide);obtain⟨q,hq⟩:∃q,2^m=q:=⟨_,rfl⟩;rw[hq]at h16 |-
 rw[q36];unfold q2d;walk_at "den";obtain⟨v1,h1,b1,c1⟩:=q4r (K:=K) (a:=a) n ns (k:=1) (m:=8) (by decide) (by decide) (by decide);obtain⟨v2,h2,b2,c2⟩:=q4r (K:=K) (a:=a) n ns (k:=2) (m:=20) (by decide) (by decide) (by decide);rw[h1];walk_at "den";obtain⟨l1,hl1,e1⟩:=x1l [[some false,some true,none],[some false,some true,some true],[some false,some false,some true,none],[some true,some true,none,some false,some true],[some false,some true],[some false,some true],[some false,none,some true],[some true,some false,some false,some false]] (by decide) b1 c1;simp only[w0n,w1u,eo]at e1;rw[e1];walk_at "den";rw[h2];walk_at "den"
 by_cases h3:v2<3
 ·rw[if_pos h3];obtain⟨l2,hl2,e2⟩:=x1l [[some true],[some false],[none]] (by decide) b2 h3;simp only[w0n,w1u,eo]at e2;rw[e2];walk_at "den";rw[q7a hm hq];walk_at "den";rw[if_pos (q2a (by omega) (by omega))];walk_at "den";rw[if_pos (by rw[q12];omega)];simp only[frz1,pj1,w0e,w0q];obtain⟨w,hw,hwl⟩:=q9p (K:=K) (a:=a) n hf hl2 (q:=q) (by omega);rw[hw];exact⟨w,rfl,hwl⟩
 ·rw[if_neg h3];walk_at "den";rw[q7a hm hq];walk_at "den";rw[if_pos (q2a (by omega) (by omega))];walk_at "den";rw[if_pos (by rw[q12];omega)];simp only[frz1,pj1,w0e,w0q];obtain⟨w,hw,hwl⟩:=q9p (K:=K) (a:=a) n hf hl1 (q:=q) (by omega);rw[hw];exact⟨w,rfl,hwl⟩
open M10
noncomputable def lrF:List (Option Bool)->List Int->List Int
 |[],l=>l
 |none::c,l=>lrF c (l.map (fun x=>2*x)++l.map (fun x=>2*x+1))
 |some b::c,l=>lrF c (l.map fun x=>2*x+b2 b)
theorem q4s:∀(c:List (Option Bool))(l:List Int),(lrF c l).length<=l.length*2^c.length
 |[],l=>by simp[lrF]
 |none::c,l=>by
  refine w0j (q4s c _) ?_;rw[w0k,w0a,w0a,w0o,w3l,Nat.mul_comm (2^c.length) 2,<- Nat.mul_assoc];exact Nat.mul_le_mul_right _ (by omega)
 |some b::c,l=>by
  refine w0j (q4s c _) ?_;rw[w0a,w0o,w3l];exact w3r _ (by omega)
theorem q8t:∀(c:List (Option Bool))(l:List Int)(x:Int),x∈lrF c l↔∃y∈l,∃r:List Bool,r.length=c.length/\mt c r=true/\x=numG y r
 |[],l,x=>by
  constructor
  ·intro h;exact⟨x,h,[],rfl,rfl,rfl⟩
  ·rintro⟨y,hy,r,hr,_,rfl⟩;have:r=[]:=List.length_eq_zero_iff.mp hr;subst this;exact hy
 |none::c,l,x=>by
  show x∈lrF c _↔_;rw[q8t c];constructor
  ·rintro⟨y,hy,r,hr,hm,rfl⟩;rcases w2a.mp hy with h|h
   ·obtain⟨z,hz,rfl⟩:=w1f.mp h;exact⟨z,hz,false::r,by simp[hr],by simpa [mt]using hm,by simp[numG]⟩
   ·obtain⟨z,hz,rfl⟩:=w1f.mp h;exact⟨z,hz,true::r,by simp[hr],by simpa [mt]using hm,by simp[numG]⟩
  ·rintro⟨y,hy,r,hr,hm,rfl⟩;cases r with
   |nil=>simp at hr
   |cons b r=>
    refine⟨2*y+b2 b,?_,r,by simpa using hr,by simpa [mt]using hm,by simp[numG,b2]⟩;cases b with
    |false=>exact w2e _ (w1f.mpr ⟨y,hy,by simp[b2]⟩)
    |true=>exact w0h _ (w1f.mpr ⟨y,hy,by simp[b2]⟩)
 |some d::c,l,x=>by
  show x∈lrF c _↔_;rw[q8t c];constructor
  ·rintro⟨y,hy,r,hr,hm,rfl⟩;obtain⟨z,hz,rfl⟩:=w1f.mp hy;exact⟨z,hz,d::r,by simp[hr],by simpa [mt]using hm,by simp[numG,b2]⟩
  ·rintro⟨y,hy,r,hr,hm,rfl⟩;cases r with
   |nil=>simp at hr
   |cons b r=>
    have h2:(d=b)/\mt c r=true:=by simpa [mt]using hm
    obtain⟨rfl,h3⟩:=h2;exact⟨2*y+b2 d,w1f.mpr ⟨y,hy,rfl⟩,r,by simpa using hr,h3,by simp[numG,b2]⟩
theorem x1m(c:List (Option Bool))(x:Int):x∈lrF c [0]↔∃k∈rin c,x=((k:Nat):Int):=by
 rw[q8t];constructor
 ·rintro⟨y,hy,r,hr,hm,rfl⟩;obtain rfl:y=0:=by simpa using hy
  have hb:=q7v r;have e:((num r).toNat:Int)=num r:=w3s hb.1;refine⟨(num r).toNat,rin_mem.mpr ⟨?_,?_⟩,e.symm⟩
  ·have h2:((num r).toNat:Int)<((2^r.length:Nat):Int):=by rw[e,<- q8r];exact hb.2
   rw[<- hr]
   exact_mod_cast h2
  ·unfold rowB;rw[e,<- hr,x7v];exact hm
 ·rintro⟨k,hk,rfl⟩;obtain⟨h1,h2⟩:=rin_mem.mp hk;refine⟨0,by simp,rowB c.length k,q68 _ _,h2,?_⟩;have h3:(k:Int)<2^c.length:=by rw[q8r];exact_mod_cast h1
  exact(x7u (by omega) h3).symm
theorem q3h(r0:Nat->List W->FR)(cu:W):∀(c:List (Option Bool))(l:List Int)(z:S),l.length*2^c.length<=1000->∃z',forD 2 (q1z K a r0) (c.map eo) [.fr cu,.fr (.lst (l.map .int)),z]=.nx [.fr cu,.fr (.lst ((lrF c l).map .int)),z']
 |[],l,z,_=>⟨z,rfl⟩
 |none::c,l,z,h=>by
  rw[w0o,w3l,Nat.mul_comm (2^c.length) 2,<- Nat.mul_assoc]at h;have hp:0<2^c.length:=w3p (by decide);have hl:l.length*2<=1000:=w0j (w3b _ hp) h;obtain⟨z',ih⟩:=q3h r0 cu c (l.map (fun x=>2*x)++l.map (fun x=>2*x+1)) (.fr .non) (by rw[w0k,w0a,w0a,<- Nat.mul_two];exact h)
  refine⟨z',?_⟩;rw[w0n,q2q]
  have e1:q1z K a r0 [.fr cu,.fr (.lst (l.map .int)),.fr .non]=.nx [.fr cu,.fr (.lst ((l.map (fun x=>2*x)++l.map (fun x=>2*x+1)).map .int)),.fr .non]:=by
   unfold q1z;walk_at "den";rw[if_pos (by rw[w0a];omega),q59 (g:=fun x=>W.int (2*x))]
   ·walk_at "den";rw[q59 (g:=fun x=>W.int (2*x+1))]
    ·walk_at "den";rw[if_pos (by simp only[w0a];omega)];walk_at "den";simp[Function.comp_def];omega
    ·intro x _;unfold q44;walk_at "den";exact⟨_,rfl⟩
   ·intro x _;unfold q43;walk_at "den";exact⟨_,rfl⟩
  simp only[eo,w1x,w1y];rw[e1,q28];exact ih
 |some b::c,l,z,h=>by
  rw[w0o,w3l]at h;have hp:0<2^c.length:=w3p (by decide);have hl:l.length*2^c.length<=1000:=w0j (w3r _ (by omega)) h;have hl2:l.length<=1000:=w0j (w3b _ hp) hl;obtain⟨z',ih⟩:=q3h r0 cu c (l.map fun x=>2*x+b2 b) (.fr (.bl b)) (by rw[w0a];exact hl)
  refine⟨z',?_⟩;rw[w0n,q2q]
  have e1:q1z K a r0 [.fr cu,.fr (.lst (l.map .int)),.fr (.bl b)]=.nx [.fr cu,.fr (.lst ((l.map fun x=>2*x+b2 b).map .int)),.fr (.bl b)]:=by
   unfold q1z;walk_at "den";rw[if_pos (by rw[w0a];omega)];simp only[frz1,pj1,w0e,w0q];rw[q59 (g:=fun x=>W.int (2*x+b2 b))]
   ·walk_at "den";simp[Function.comp_def]
   ·intro x _;unfold q45;walk_at "den";exact⟨_,rfl⟩
  simp only[eo,w1x,w1y];rw[e1,q28];exact ih
theorem q4f(n:Nat)(hc:c.length<=5):run K a (n+1) q1d [.tup (c.map eo)]=.ok (.fr (.lst ((sortI (lrF c [0])).map .int))):=by
 have h32:2^c.length<=32:=w0j (w0v (by decide) hc) (by decide);have hl:=q4s c [0];simp only[w0o,w1p]at hl;rw[q3t];unfold q2o;walk_at "den";obtain⟨z',h⟩:=q3h (K:=K) (a:=a) (run K a n) (.tup (c.map eo)) c [0] .no (by simp;omega);simp only[w0n,w1u]at h;rw[h];walk_at "den";rw[x03 (by omega)];walk_at "den"
theorem q4z(r0:Nat->List W->FR)(cu:W)(w:List (Option Bool)):∀(xs:List Int)(z:S),(∀x∈xs,0<=x/\x<w.length) ->
  ((xs.any fun x=>w.getD x.toNat none==some false)=true->∃e',forD 2 (q2m K a r0) (xs.map .int) [.fr cu,.fr (.lst (w.map eo)),z]=.rt (.fr (.bl false)) e') /\
  ((xs.any fun x=>w.getD x.toNat none==some false)=false->∃z',forD 2 (q2m K a r0) (xs.map .int) [.fr cu,.fr (.lst (w.map eo)),z]=.nx [.fr cu,.fr (.lst (w.map eo)),z'])
 |[],z,_=>⟨fun h=>by simp at h,fun _=>⟨z,rfl⟩⟩
 |x::xs,z,h=>by
  obtain⟨h1,h2⟩:=h x (by simp);have ih:=q4z r0 cu w xs (.fr (.int x)) fun u hu=>h u (by simp[hu])
  have e:atI (w.map eo) x=some (eo (w.getD x.toNat none)):=by
   have:=q92 (w:=w) (k:=x.toNat) (by omega)
   rwa [w3s h1]at this
  have eb:q2m K a r0 [.fr cu,.fr (.lst (w.map eo)),.fr (.int x)]=if(w.getD x.toNat none==some false)=true then .rt (.fr (.bl false)) [.fr cu,.fr (.lst (w.map eo)),.fr (.int x)]else .nx [.fr cu,.fr (.lst (w.map eo)),.fr (.int x)]:=by
   unfold q2m;walk_at "den";rw[e];walk_at "den";cases w.getD x.toNat none with
   |none=>rfl
   |some b=>cases b<;>rfl
  rw[w0n,q2q];simp only[w1x,w1y];rw[eb,w2q];cases hb:(w.getD x.toNat none==some false)with
  |true=>
   rw[if_pos rfl];exact⟨fun _=>⟨_,rfl⟩,fun q=>by simp at q⟩
  |false=>
   rw[if_neg (by decide),q28,Bool.false_or];exact ih
theorem x5z(n:Nat)(hw:w.length=2^c.length)(hc:c.length<=5):run K a (n+2) q1e [.tup (c.map eo),.lst (w.map eo)]=.ok (.fr (.bl (fitB c w))):=by
 rw[q3u];unfold q2p;walk_at "den";rw[q4f n hc];walk_at "den";have hm:∀x,x∈sortI (lrF c [0])↔∃k∈rin c,x=((k:Nat):Int):=fun x=>by rw[(q2j _).mem_iff,x1m]
 obtain⟨h1,h2⟩:=q4z (K:=K) (a:=a) (run K a (n+1)) (.tup (c.map eo)) w (sortI (lrF c [0])) .no (fun x hx=>by
  obtain⟨k,hk,rfl⟩:=(hm x).mp hx;have:=(rin_mem.mp hk).1;omega)
 have e:fitB c w=!((sortI (lrF c [0])).any fun x=>w.getD x.toNat none==some false):=by
  apply w1i.mpr;unfold fitB;rw[w0z,w2j,<- w3f,List.any_eq_true];constructor
  ·rintro q ⟨x,hx,h⟩;obtain⟨k,hk,rfl⟩:=(hm x).mp hx;have:=q k hk;rw[w1b]at h;simp at h this;exact this h
  ·intro q k hk;have:=fun h=>q ⟨(k:Int),(hm _).mpr ⟨k,hk,rfl⟩,h⟩
   rw[w1b]at this
   simpa using this
 rw[e];cases hb:((sortI (lrF c [0])).any fun x=>w.getD x.toNat none==some false)with
 |true=>
  obtain⟨e',h3⟩:=h1 hb;rw[h3];rfl
 |false=>
  obtain⟨z',h3⟩:=h2 hb;rw[h3];walk_at "den"
theorem x18(hf:Fit ns)(n:Nat):∃w:List (Option Bool),run K a (n+3) q07 [.lst (ns.map .int)]=.ok (.own none (w.map eo))/\∀m,m<=4->w.length≠2^m:=by
 rw[q3v];unfold q14;walk_at "den";obtain⟨v1,h1,b1,c1⟩:=q4r (K:=K) (a:=a) n ns (k:=2) (m:=13) (by decide) (by decide) (by decide);rw[h1];walk_at "den"
 have hs:∃q:Nat,atI [W.int 0,W.int 3,W.int 5,W.int 6,W.int 7,W.int 9,W.int 12,W.int 15,W.int 17,W.int 24,W.int 31,W.int 32,W.int 64] v1=some (.int (q:Int))/\q<=64/\∀m,m<=4->q≠2^m:=by
  have:v1=0\/v1=1\/v1=2\/v1=3\/v1=4\/v1=5\/v1=6\/v1=7\/v1=8\/v1=9\/v1=10\/v1=11\/v1=12:=by omega
  rcases this with h|h|h|h|h|h|h|h|h|h|h|h|h<;>subst h
  ·exact⟨0,rfl,by decide,by decide⟩
  ·exact⟨3,rfl,by decide,by decide⟩
  ·exact⟨5,rfl,by decide,by decide⟩
  ·exact⟨6,rfl,by decide,by decide⟩
  ·exact⟨7,rfl,by decide,by decide⟩
  ·exact⟨9,rfl,by decide,by decide⟩
  ·exact⟨12,rfl,by decide,by decide⟩
  ·exact⟨15,rfl,by decide,by decide⟩
  ·exact⟨17,rfl,by decide,by decide⟩
  ·exact⟨24,rfl,by decide,by decide⟩
  ·exact⟨31,rfl,by decide,by decide⟩
  ·exact⟨32,rfl,by decide,by decide⟩
  ·exact⟨64,rfl,by decide,by decide⟩
 obtain⟨q,hq,hq2,hq3⟩:=hs;rw[hq];walk_at "den";rw[if_pos (q2a (by omega) (by omega))];walk_at "den";rw[if_pos (by rw[q12];omega)];simp only[frz1,pj1,w0e,w0q];rw[q2w]
 obtain⟨os,h3,h4⟩:=q6a (d:=q2y K a (run K a (n+2))) (pe:=[.fr (.lst (ns.map .int))]) (ws:=(List.range q).map fun k=>W.int ((k:Nat):Int)) (by
  intro w hw;obtain⟨k,hk,rfl⟩:=w1f.mp hw;rw[w0w]at hk;unfold q2y;walk_at "den";obtain⟨v,h⟩:=q27 (K:=K) (a:=a) hf n (k:=(k:Int)) (by omega) (by omega);rw[h];walk_at "den";obtain⟨o,ho⟩:=q8s (l:=[some true,some false,none]) (by decide) v;simp only[w0n,w1u,eo,w0o,w1p]at ho;have e3:((0+1+1+1:Nat):Int)=3:=rfl;rw[e3]at ho;rw[ho];exact⟨o,_,rfl⟩)
 rw[h3];refine⟨os,rfl,?_⟩;rw[h4,w0a,w1g];exact hq3
theorem y3s(o:Option Bool):eqW (eo o) (eo o)=some true:=by
 cases o with
 |none=>rfl
 |some b=>simp[eo,eqW]
theorem q8u:∀(w:List (Option Bool)),eqWs (w.map eo) (w.map eo)=some true
 |[]=>rfl
 |o::w=>by
  show(match eqW (eo o) (eo o),eqWs (w.map eo) (w.map eo)with|some x,some y=>some (x&&y)|_,_=>none)=_;rw[y3s,q8u w];rfl
theorem q7b:∀(w:List (Option Bool)),depWs (w.map eo)=0
 |[]=>rfl
 |o::w=>by
  show max (depW (eo o)) (depWs (w.map eo))=0;rw[q7b w];cases o<;>rfl
open M10
theorem x1n(n:Nat)(hc:c.length<=5):run K a (n+1) q1d [.lst (c.map eo)]=.ok (.fr (.lst ((sortI (lrF c [0])).map .int))):=by
 have h32:2^c.length<=32:=w0j (w0v (by decide) hc) (by decide);have hl:=q4s c [0];simp only[w0o,w1p]at hl;rw[q3t];unfold q2o;walk_at "den";obtain⟨z',h⟩:=q3h (K:=K) (a:=a) (run K a n) (.lst (c.map eo)) c [0] .no (by simp;omega);simp only[w0n,w1u]at h;rw[h];walk_at "den";rw[x03 (by omega)];walk_at "den"
theorem x3v(n:Nat)(hw:w.length=2^c.length)(hc:c.length<=5):run K a (n+2) q1e [.lst (c.map eo),.lst (w.map eo)]=.ok (.fr (.bl (fitB c w))):=by
 rw[q3u];unfold q2p;walk_at "den";rw[x1n n hc];walk_at "den";have hm:∀x,x∈sortI (lrF c [0])↔∃k∈rin c,x=((k:Nat):Int):=fun x=>by rw[(q2j _).mem_iff,x1m]
 obtain⟨h1,h2⟩:=q4z (K:=K) (a:=a) (run K a (n+1)) (.lst (c.map eo)) w (sortI (lrF c [0])) .no (fun x hx=>by
  obtain⟨k,hk,rfl⟩:=(hm x).mp hx;have:=(rin_mem.mp hk).1;omega)
 have e:fitB c w=!((sortI (lrF c [0])).any fun x=>w.getD x.toNat none==some false):=by
  apply w1i.mpr;unfold fitB;rw[w0z,w2j,<- w3f,List.any_eq_true];constructor
  ·rintro q ⟨x,hx,h⟩;obtain⟨k,hk,rfl⟩:=(hm x).mp hx;have:=q k hk;rw[w1b]at h;simp at h this;exact this h
  ·intro q k hk;have:=fun h=>q ⟨(k:Int),(hm _).mpr ⟨k,hk,rfl⟩,h⟩
   rw[w1b]at this
   simpa using this
 rw[e];cases hb:((sortI (lrF c [0])).any fun x=>w.getD x.toNat none==some false)with
 |true=>
  obtain⟨e',h3⟩:=h1 hb;rw[h3];rfl
 |false=>
  obtain⟨z',h3⟩:=h2 hb;rw[h3];walk_at "den"
noncomputable def nI(k:Nat):W:=.int (k:Int)
noncomputable def wr(w:List (Option Bool)):List Nat:=(List.range w.length).filter fun k=>w.getD k none==some true
noncomputable def encU(c:List (Option Bool)):W:=.tup (c.map eo)
theorem x2x:∀ts:List Nat,(ts.map nI).all scalW=true
 |[]=>rfl
 |_::ts=>by rw[w0n,w1n,x2x ts];rfl
theorem x50(k:Nat):∀ts:List Nat,((ts.map nI).any fun y=>eqS y (.int (k:Int)))=ts.contains k
 |[]=>rfl
 |t::ts=>by
  rw[w0n,w2q,x50 k ts,w3w];congr 1;show(((t:Int)==(k:Int)):Bool)=(k==t);apply w1i.mpr;simp only[beq_iff_eq];omega
theorem y3t(k:Nat)(ts:List Nat):ninW (nI k) (.lst (ts.map nI))=some (.bl (!ts.contains k)):=by
 show(if scalW (.int (k:Int))=true/\(ts.map nI).all scalW=true then some (W.bl (!(ts.map nI).any fun y=>eqS y (.int (k:Int))))else none)=_
 rw[if_pos ⟨rfl,x2x ts⟩,x50]
theorem q9z(n:Nat){ns ts:List Nat}(h:ns.length<=2000):run K a (n+1) q17 [.lst (ns.map nI),.lst (ts.map nI)]=.ok (.own none ((ns.filter fun k=>!ts.contains k).map nI)):=by
 rw[q48];unfold q23;walk_at "den";rw[if_pos (by rw[w0a];omega)];simp only[frz1,pj1,w0e,w0q];rw[q58 (q:=fun k=>!ts.contains k) (g:=nI) (en:=nI) ns]
 ·rfl
 ·intro k _;unfold q42 q41;walk_at "den";rw[y3t];walk_at "den";exact⟨_,rfl,fun _=>⟨_,rfl⟩⟩
theorem y0m(w:List (Option Bool)):enumL 0 (w.map eo)=(List.range w.length).map fun(k:Nat)=>(W.int ((k:Nat):Int),eo (w.getD k none)):=by
 have e:w.map eo=(List.range w.length).map fun k=>eo (w.getD k none):=by
  apply w2i;intro k
  by_cases h:k<w.length
  ·simp[List.getElem?_range h,h,List.getD]
  ·simp[h,Nat.le_of_not_lt h]
 rw[e,q6q]
theorem q8v(o:Option Bool):isW (eo o) (.bl true)=some (.bl (o==some true)):=by
 cases o with
 |none=>rfl
 |some b=>cases b<;>rfl
theorem x3w(n:Nat)(hw:w.length=2^m)(hm:m<=4):run K a (n+4) q1m [.lst (w.map eo)]=.ok (.own none ((wr w).map nI)):=by
 have h10:=pow10 (show m<=10 by omega);rw[q3g];unfold q1y;walk_at "den";rw[x2w n (by rw[w0a];exact hw) hm];walk_at "den";rw[y0m,if_pos (by rw[w0a,w1g];omega)];rw[q69 (q:=fun k=>w.getD k none==some true) (g:=nI)]
 ·rfl
 ·intro k hk;unfold q4b q4a;walk_at "den";rw[q8v];walk_at "den";exact⟨_,rfl,fun _=>⟨_,rfl⟩⟩
theorem x51(n:Nat)(hw:∀m,m<=4->ws.length≠2^m):run K a (n+4) q1m [.lst ws]=.ex (.ref a.NoTable):=by
 rw[q3g];unfold q1y;walk_at "den";rw[y0l n hw];walk_at "den"
noncomputable def rst:List (List (Option Bool))->List Nat->List Nat
 |[],l=>l
 |c::cs,l=>rst cs (l.filter fun k=>!(rin c).contains k)
theorem q6s(n:Nat)(hw:w.length=2^m)(hm:m<=4)(co:W):∀(cs:List (List (Option Bool)))(l:List Nat)(z:S),(∀c∈cs,c.length=m)->l.length<=2000 ->
  ((cs.all fun c=>fitB c w)=true->∃z',forD 3 (q3b K a (run K a (n+4))) (cs.map encU) [.fr co,.fr (.lst (w.map eo)),.fr (.lst (l.map nI)),z]=.nx [.fr co,.fr (.lst (w.map eo)),.fr (.lst ((rst cs l).map nI)),z']) /\
  ((cs.all fun c=>fitB c w)=false->∃e',forD 3 (q3b K a (run K a (n+4))) (cs.map encU) [.fr co,.fr (.lst (w.map eo)),.fr (.lst (l.map nI)),z]=.rt (.fr (.bl false)) e')
 |[],l,z,_,_=>⟨fun _=>⟨z,rfl⟩,fun h=>by simp at h⟩
 |c::cs,l,z,hc,hl=>by
  have h1:=hc c (by simp);have ih:=q6s n hw hm co cs (l.filter fun k=>!(rin c).contains k) (.fr (encU c)) (fun c h=>hc c (by simp[h])) (w0j (w2m _ _) hl)
  have eb:q3b K a (run K a (n+4)) [.fr co,.fr (.lst (w.map eo)),.fr (.lst (l.map nI)),.fr (encU c)]=if fitB c w=true then .nx [.fr co,.fr (.lst (w.map eo)),.fr (.lst ((l.filter fun k=>!(rin c).contains k).map nI)),.fr (encU c)]else .rt (.fr (.bl false)) [.fr co,.fr (.lst (w.map eo)),.fr (.lst (l.map nI)),.fr (encU c)]:=by
   unfold q3b encU;walk_at "den";rw[x7y n (by rw[h1];exact hw) (by omega)];cases fitB c w with
   |false=>walk_at "den"
   |true=>
    walk_at "den";rw[q6r (n+1) (by omega)];walk_at "den";have e2:(rin c).map (fun(k:Nat)=>W.int (k:Int))=(rin c).map nI:=rfl
    rw[e2,q9z (n+3) hl];walk_at "den"
  rw[w0n,q2q];simp only[w1x,w1y];rw[eb,w1n];cases hf:fitB c w with
  |true=>
   rw[if_pos rfl,q28,w3x];exact ih
  |false=>
   rw[if_neg (by decide)];exact⟨fun q=>by simp at q,fun _=>⟨_,rfl⟩⟩
noncomputable def covB(cs:List (List (Option Bool)))(w:List (Option Bool)):Bool:=(cs.all fun c=>fitB c w)&&(rst cs (wr w)).isEmpty
theorem y3u(w:List (Option Bool)):(wr w).length<=w.length:=by
 unfold wr;refine w0j (w2m _ _) ?_;rw[w1g];exact w0d _
theorem x3x(n:Nat)(hw:w.length=2^m)(hm:m<=4)(hc:∀c∈cs,c.length=m):run K a (n+5) q1r [.lst (cs.map encU),.lst (w.map eo)]=.ok (.fr (.bl (covB cs w))):=by
 have h10:=pow10 (show m<=10 by omega);have hl:=y3u w;rw[q4y];unfold q3l;walk_at "den";rw[x3w n hw hm];walk_at "den";obtain⟨h1,h2⟩:=q6s (K:=K) (a:=a) n hw hm (.lst (cs.map encU)) cs (wr w) .no hc (by omega);unfold covB;cases q:(cs.all fun c=>fitB c w)with
 |true=>
  obtain⟨z',h3⟩:=h1 q;rw[h3];walk_at "den";rw[w0a,w3x];cases rst cs (wr w)with
  |nil=>rfl
  |cons x xs=>
   rw[decide_eq_false (by simp only[w0o];omega)];rfl
 |false=>
  obtain⟨e',h3⟩:=h2 q;rw[h3];rfl
theorem x52(n:Nat){x:W}(hw:∀m,m<=4->ws.length≠2^m):run K a (n+5) q1r [x,.lst ws]=.ex (.ref a.NoTable):=by
 rw[q4y];unfold q3l;walk_at "den";rw[x51 n hw];walk_at "den"
theorem x2y:∀(cs:List (List (Option Bool)))(l:List Nat)(k:Nat),k∈rst cs l↔k∈l/\∀c∈cs,k∉rin c
 |[],l,k=>by simp[rst]
 |c::cs,l,k=>by
  show k∈rst cs _↔_;rw[x2y cs,w1z];simp;constructor
  ·rintro⟨⟨h1,h2⟩,h3⟩;exact⟨h1,h2,h3⟩
  ·rintro⟨h1,h2,h3⟩;exact⟨⟨h1,h2⟩,h3⟩
open M10
noncomputable def inF:List (List (Option Bool))->List Int->List Int
 |[],l=>l
 |c::cs,l=>inF cs (l++sortI (lrF c [0]))
theorem x2z(hc:c.length=m)(hm:m<=4):(sortI (lrF c [0])).length<=16:=by
 have h16:2^c.length<=16:=w0j (w0v (by decide) (by omega)) (by decide:2^4<=16);have hl:=q4s c [0];rw[(q2j _).length_eq];simp only[w0o,w1p]at hl;omega
theorem x20:∀(cs:List (List (Option Bool)))(l:List Int)(k:Nat),((k:Nat):Int)∈inF cs l↔(k:Int)∈l\/∃c∈cs,k∈rin c
 |[],l,k=>by simp[inF]
 |c::cs,l,k=>by
  show(k:Int)∈inF cs _↔_
  have e:(k:Int)∈sortI (lrF c [0])↔k∈rin c:=by
   rw[(q2j _).mem_iff,x1m];constructor
   ·rintro⟨j,hj,e⟩;obtain rfl:k=j:=by omega
    exact hj
   ·exact fun h=>⟨k,h,rfl⟩
  rw[x20 cs,w2a,e];simp;constructor
  ·rintro((h|h)|h)
   ·exact .inl h
   ·exact .inr (.inl h)
   ·exact .inr (.inr h)
  ·rintro(h|h|h)
   ·exact .inl (.inl h)
   ·exact .inl (.inr h)
   ·exact .inr h
theorem q9q:∀ts:List Int,(ts.map W.int).all scalW=true
 |[]=>rfl
 |_::ts=>by rw[w0n,w1n,q9q ts];rfl
theorem x1o(k:Int):∀ts:List Int,((ts.map W.int).any fun y=>eqS y (.int k))=ts.contains k
 |[]=>rfl
 |t::ts=>by
  rw[w0n,w2q,x1o k ts,w3w];congr 1;show((t==k):Bool)=(k==t);apply w1i.mpr;simp only[beq_iff_eq];omega
theorem x1p(k:Int)(ts:List Int):ninW (.int k) (.lst (ts.map .int))=some (.bl (!ts.contains k)):=by
 show(if scalW (.int k)=true/\(ts.map W.int).all scalW=true then some (W.bl (!(ts.map W.int).any fun y=>eqS y (.int k)))else none)=_
 rw[if_pos ⟨rfl,q9q ts⟩,x1o]
theorem x1q(n:Nat)(hw:w.length=2^m)(hm:m<=4)(co:W):∀(cs:List (List (Option Bool)))(l:List Int)(z:S),(∀c∈cs,c.length=m)->l.length+16*cs.length<=100000 ->
  ((cs.all fun c=>fitB c w)=true->∃z',forD 3 (q2v K a (run K a (n+2))) (cs.map encU) [.fr co,.fr (.lst (w.map eo)),.fr (.lst (l.map .int)),z]=.nx [.fr co,.fr (.lst (w.map eo)),.fr (.lst ((inF cs l).map .int)),z']) /\
  ((cs.all fun c=>fitB c w)=false->∃e',forD 3 (q2v K a (run K a (n+2))) (cs.map encU) [.fr co,.fr (.lst (w.map eo)),.fr (.lst (l.map .int)),z]=.rt (.fr (.bl false)) e')
 |[],l,z,_,_=>⟨fun _=>⟨z,rfl⟩,fun h=>by simp at h⟩
 |c::cs,l,z,hc,hl=>by
  have h1:=hc c (by simp);have h16:=x2z h1 hm;rw[w0o]at hl;have ih:=x1q n hw hm co cs (l++sortI (lrF c [0])) (.fr (encU c)) (fun c h=>hc c (by simp[h])) (by rw[w0k];omega)
  have eb:q2v K a (run K a (n+2)) [.fr co,.fr (.lst (w.map eo)),.fr (.lst (l.map .int)),.fr (encU c)]=if fitB c w=true then .nx [.fr co,.fr (.lst (w.map eo)),.fr (.lst ((l++sortI (lrF c [0])).map .int)),.fr (encU c)]else .rt (.fr (.bl false)) [.fr co,.fr (.lst (w.map eo)),.fr (.lst (l.map .int)),.fr (encU c)]:=by
   unfold q2v encU;walk_at "den";rw[x5z n (by rw[h1];exact hw) (by omega)];cases fitB c w with
   |false=>walk_at "den"
   |true=>
    walk_at "den";rw[q4f (n+1) (by omega)];walk_at "den";rw[if_pos (by simp only[w0a];omega)];walk_at "den";rw[w2b]
  rw[w0n,q2q];simp only[w1x,w1y];rw[eb,w1n];cases hf:fitB c w with
  |true=>
   rw[if_pos rfl,q28,w3x];exact ih
  |false=>
   rw[if_neg (by decide)];exact⟨fun q=>by simp at q,fun _=>⟨_,rfl⟩⟩
theorem x1r:∀l:List Nat,depWs (l.map nI)=0
 |[]=>rfl
 |x::l=>by
  show max (depW (nI x)) (depWs (l.map nI))=0;rw[x1r l];rfl
theorem y0n(l:List Nat):eq2 (.lst (l.map nI)) (.lst [])=some (.bl l.isEmpty):=by
 cases l with
 |nil=>rfl
 |cons x xs=>
  unfold eq2;rw[if_pos (by simp only[depW,x1r,depWs];omega)];rfl
theorem y0o(n:Nat)(hw:w.length=2^m)(hm:m<=4)(hc:∀c∈cs,c.length=m)(hl:cs.length<=1000):run K a (n+3) q13 [.lst (cs.map encU),.lst (w.map eo)]=.ok (.fr (.bl (covB cs w))):=by
 have h10:=pow10 (show m<=10 by omega);rw[q5y];unfold q3e;walk_at "den";obtain⟨h1,h2⟩:=x1q (K:=K) (a:=a) n hw hm (.lst (cs.map encU)) cs [] .no hc (by simp only[w1p];omega);unfold covB;cases q:(cs.all fun c=>fitB c w)with
 |true=>
  obtain⟨z',h3⟩:=h1 q;simp only[w1u]at h3;rw[h3];walk_at "den";rw[w0a,if_pos (q2a (by omega) (by omega))];walk_at "den";rw[if_pos (by rw[q12];omega)];simp only[frz1,pj1,w0e,w0q];rw[q2w,q58 (q:=fun k=>(w.getD k none==some true)&&!(inF cs []).contains ((k:Nat):Int)) (g:=nI) (en:=fun k=>W.int ((k:Nat):Int)) (List.range w.length)]
  ·walk_at "den";rw[y0n];walk_at "den"
   have e:(List.filter (fun(k:Nat)=>(w.getD k none==some true)&&!(inF cs []).contains ((k:Nat):Int)) (List.range w.length)).isEmpty=(rst cs (wr w)).isEmpty:=by
    apply w1i.mpr;rw[List.isEmpty_iff,List.isEmpty_iff,w2n,w2n];refine forall_congr' fun k=>not_congr ?_
    rw[x2y];unfold wr;rw[w1z,w1z,w0r,w2j,<- w3f,List.contains_iff_mem,x20];simp;exact and_assoc.symm
   rw[e];rfl
  ·intro k hk;rw[w0w]at hk;unfold q5v q5u;walk_at "den";rw[q92 hk];walk_at "den";rw[q8v];walk_at "den";cases hb:(w.getD k none==some true)with
   |false=>
    walk_at "den";exact⟨_,rfl,fun q=>by simp at q⟩
   |true=>
    walk_at "den";rw[x1p];walk_at "den";exact⟨_,rfl,fun _=>⟨_,rfl⟩⟩
 |false=>
  obtain⟨e',h3⟩:=h2 q;simp only[w1u]at h3;rw[h3];rfl
theorem q78(hf:Fit ns)(n:Nat){f:Int}(hm:m<=100)(h0:0<=f)(h1:f<=100000):∃c:List (Option Bool),run K a (n+3) q06 [.lst (ns.map .int),.int f,.int (m:Int)]=.ok (.fr (encU c))/\c.length=m:=by
 rw[q37];unfold q2e;walk_at "den";rw[if_pos (q2a (by omega) (by omega))];walk_at "den";rw[if_pos (by rw[q12];omega)];simp only[frz1,pj1,w0e,w0q];rw[q2w]
 obtain⟨os,h3,h4⟩:=q6a (d:=q26 K a (run K a (n+2))) (pe:=[.fr (.lst (ns.map .int)),.fr (.int f)]) (ws:=(List.range m).map fun k=>W.int ((k:Nat):Int)) (by
  intro w hw;obtain⟨k,hk,rfl⟩:=w1f.mp hw;rw[w0w]at hk;unfold q26;walk_at "den";obtain⟨v,h⟩:=q27 (K:=K) (a:=a) hf n (k:=f+(k:Int)) (by omega) (by omega);rw[h];walk_at "den";obtain⟨o,ho⟩:=q8s (l:=[none,some false,some true]) (by decide) v;simp only[w0n,w1u,eo,w0o,w1p]at ho;have e3:((0+1+1+1:Nat):Int)=3:=rfl;rw[e3]at ho;rw[ho];exact⟨o,_,rfl⟩)
 rw[h3];walk_at "den";exact⟨os,rfl,by rw[h4,w0a,w1g]⟩
theorem q79{xs:List W}(h:k<=xs.length):cutW xs none (some (k:Int))=xs.take k:=by
 unfold cutW;rw[HT.sIx_none,HT.sIx_nat,Nat.min_eq_left h];simp
theorem q40{xs:List W}(h:k<=xs.length):cutW xs (some (k:Int)) none=xs.drop k:=by
 unfold cutW;rw[HT.sIx_none,HT.sIx_nat,Nat.min_eq_left h];exact List.take_of_length_le (by simp)
theorem widen(h:q<c.length):cutW (c.map eo) none (some (q:Int))++[W.non]++cutW (c.map eo) (some ((q:Int)+1)) none=(c.take q++none::c.drop (q+1)).map eo:=by
 rw[q79 (by rw[w0a];omega),show(q:Int)+1=((q+1:Nat):Int)from rfl,q40 (by rw[w0a];omega)];simp[w3y,w3z,eo]
theorem q50(h:q<c.length):(c.take q++none::c.drop (q+1)).length=c.length:=by
 simp;omega
theorem x53(n : Nat)(hw : w.length = 2 ^ m)(hm : m <= 4)(v : Int)(b : Bool) : ∃ c : List (Option Bool), run K a (n + 3) q1u [.lst (w.map eo), .int v, .int (m : Int), .bl b] = .ok (.fr (encU c)) /\ c.length = m := by
  rw [q4m];unfold q2u;walk_at "den";rw [if_pos (q2a (by omega) (by omega))];walk_at "den";rw [if_pos (by rw [q12]; omega)];simp only [frz1, pj1, w0e, w0q]
  obtain ⟨c0, h3, h4⟩ := q6a (d := q3n K a (run K a (n + 2))) (pe := [.fr (.int v), .fr (.int (m : Int))]) (ws := (List.range m).map fun k => W.int ((k : Nat) : Int)) (by
    intro w hw;obtain ⟨k, hk, rfl⟩ := w1f.mp hw;rw [w0w] at hk;unfold q3n;walk_at "den";obtain ⟨q, hq⟩ : ∃ q : Nat, (m : Int) - 1 - (k : Int) = (q : Int) := ⟨m - 1 - k, by omega⟩;rw [hq, q7a (m := q) (by omega) rfl];walk_at "den";have hp : 0 < 2 ^ q := w3p (by decide);have hp2 : 2 ^ q <= 16 := w0j (w0v (by decide) (by omega)) (by decide : 2 ^ 4 <= 16);generalize 2 ^ q = t at hp hp2;rw [if_pos ⟨by omega, by omega⟩];exact ⟨some _, _, rfl⟩)
  rw [w0a, w1g] at h4;rw [q2w, h3];walk_at "den";rw [if_pos (q2a (by omega) (by omega))];walk_at "den"
  obtain ⟨e', h5, c, z5, z6, z7, rfl, hcl⟩ := q3w (b := q3m K a (run K a (n + 2))) (i := 5) (lo := 0) (hi := (m : Int)) m (by omega) (fun j e => ∃ (c : List (Option Bool)) (z5 z6 z7 : S), e = [.fr (.lst (w.map eo)), .fr (.int v), .fr (.int (m : Int)), .fr (.bl b), .fr (.lst (c.map eo)), z5, z6, z7] /\ c.length = m) [.fr (.lst (w.map eo)), .fr (.int v), .fr (.int (m : Int)), .fr (.bl b), .fr (.lst (c0.map eo)), .no, .no, .no] ⟨c0, _, _, _, rfl, h4⟩ (by
    rintro j e hj ⟨c, z5, z6, z7, rfl, hcl⟩;unfold q3m
    have at_ : ∃ q : Nat, (if b = true then ((m : Int) - 1 - (0 + (j : Int))) else (0 + (j : Int))) = (q : Int) /\ q < m := by
      cases b
      . exact ⟨j, by simp, hj⟩
      . exact ⟨m - 1 - j, by simp; omega, by omega⟩
    obtain ⟨q, hq, hqm⟩ := at_
    have tl : ∀ b : Bool, ∃ e', (if (cutW (c.map eo) none (some (q : Int))).length <= 16777215 then
          if (cutW (c.map eo) none (some (q : Int)) ++ [W.non]).length + (cutW (c.map eo) (some ((q : Int) + 1)) none).length <= 16777216 then
            ((callR [S.fr (W.lst (w.map eo)), S.fr (W.int v), S.fr (W.int (m : Int)), S.fr (W.bl b), S.fr (W.lst (c.map eo)), S.fr (W.int (0 + (j : Int))), S.fr (W.int (q : Int)), S.fr (W.lst (cutW (c.map eo) none (some (q : Int)) ++ [W.non] ++ cutW (c.map eo) (some ((q : Int) + 1)) none))]
                      (run K a (n + 2) q1e [W.lst (cutW (c.map eo) none (some (q : Int)) ++ [W.non] ++ cutW (c.map eo) (some ((q : Int) + 1)) none), W.lst (w.map eo)])).bind fun x e1 => ofOpt (truW x) e1).stm
              fun x e1 => if x = true then (varS 7 e1 e1[7]?).stm fun w e' => SR.nx (e'.set 4 (S.fr w)) else SR.nx e1
          else SR.no
        else SR.no) = SR.nx e' /\ ∃ (c : List (Option Bool)) (z5 z6 z7 : S), e' = [S.fr (W.lst (w.map eo)), S.fr (W.int v), S.fr (W.int (m : Int)), S.fr (W.bl b), S.fr (W.lst (c.map eo)), z5, z6, z7] /\ c.length = m := by
      intro b;have l1 : (cutW (c.map eo) none (some (q : Int))).length <= m := by rw [q79 (by rw [w0a]; omega), w1d, w0a]; omega
      have l2 : (cutW (c.map eo) none (some (q : Int)) ++ [W.non]).length + (cutW (c.map eo) (some ((q : Int) + 1)) none).length <= 100 := by
        rw [w0k, show (q : Int) + 1 = ((q + 1 : Nat) : Int) from rfl, q40 (by rw [w0a]; omega), w1l, w0a, w1e];omega
      rw [if_pos (by omega), if_pos (by omega), widen (by omega), x3v n (by rw [q50 (by omega), hcl]; exact hw) (by rw [q50 (by omega)]; omega)];walk_at "den";cases fitB (c.take q ++ none :: c.drop (q + 1)) w
      . exact ⟨_, rfl, c, _, _, _, rfl, hcl⟩
      . exact ⟨_, rfl, _, _, _, _, rfl, by rw [q50 (by omega)]; exact hcl⟩
    cases b <;> (simp only [if_true, w1w, if_false] at hq; walk_at "den"; rw [hq])
    . have := tl false
      rw [hq] at this;exact this
    . exact tl true)
  rw [h5];walk_at "den";exact ⟨c, rfl, hcl⟩
theorem q8a(n:Nat)(hw:w.length=2^m)(hm:m<=4)(b:Bool):∃cs:List (List (Option Bool)),run K a (n+4) q01 [.lst (w.map eo),.int (m:Int),.bl b]=.ok (.own none (cs.map encU))/\(∀c∈cs,c.length=m)/\cs.length<=16:=by
 have h16:w.length<=16:=by rw[hw];exact w0j (w0v (by decide) hm) (by decide)
 rw[q4c];unfold q2n;walk_at "den";rw[w0a,if_pos (q2a (by omega) (by omega))];walk_at "den"
 obtain⟨e',h5,cs,ins,z,rfl,hcl,hc2,hi2⟩:=q3w (b:=q3d K a (run K a (n+3))) (i:=5) (lo:=0) (hi:=(w.length:Int)) w.length (by omega) (fun j e=>∃(cs:List (List (Option Bool)))(ins:List Int)(z:S),e=[.fr (.lst (w.map eo)),.fr (.int (m:Int)),.fr (.bl b),.own none (cs.map encU),.fr (.lst (ins.map .int)),z]/\(∀c∈cs,c.length=m)/\cs.length<=j/\ins.length<=16*j) [.fr (.lst (w.map eo)),.fr (.int (m:Int)),.fr (.bl b),.own none [],.fr (.lst []),.no] ⟨[],[],_,rfl,(fun c h=>nomatch h),by simp,by simp⟩ (by
  rintro j e hj ⟨cs,ins,z,rfl,hcl,hc2,hi2⟩;unfold q3d;walk_at "den";rw[Int.zero_add,q92 hj];walk_at "den";rw[q8v];walk_at "den";cases hb:(w.getD j none==some true)with
  |false=>
   walk_at "den";exact⟨_,rfl,cs,ins,_,rfl,hcl,by omega,by omega⟩
  |true=>
   walk_at "den";rw[x1p];walk_at "den";cases hb2:(!ins.contains (j:Int))with
   |false=>
    walk_at "den";exact⟨_,rfl,cs,ins,_,rfl,hcl,by omega,by omega⟩
   |true=>
    walk_at "den";obtain⟨c,hc,hl⟩:=x53 (K:=K) (a:=a) n hw hm (j:Int) b;rw[hc];walk_at "den";rw[if_pos (by rw[w0a];omega)];walk_at "den";rw[y5q];walk_at "den";rw[show encU c=W.tup (c.map eo)from rfl,q4f (n+2) (by omega)];walk_at "den";have hs:=x2z hl hm;rw[if_pos (by simp only[w0a];omega)];walk_at "den";refine⟨_,rfl,cs++[c],ins++sortI (lrF c [0]),.fr (.int (j:Int)),?_,?_,?_,?_⟩
    ·rw[w2b,w2b];rfl
    ·intro d hd;rcases w2a.mp hd with h|h
     ·exact hcl d h
     ·rw[w1j.mp h];exact hl
    ·rw[w0k,w1e];omega
    ·rw[w0k];omega)
 rw[h5];walk_at "den";exact⟨cs,rfl,hcl,by omega⟩
theorem x19(M:Exs K mg a)(n:Nat)(hw:∀m,m<=4->ws.length≠2^m):run K a (n+6) q1c [.lst ws]=.ok (.fr (.bl true)):=by
 rw[q38];unfold q2f;walk_at "den";rw[x52 n hw];walk_at "den";rw[y20 M.x_NoTable_CircuitError];walk_at "den";rw[x9u M.c_NoTable M.k_NoTable_NoTable];walk_at "den"
theorem x54:∀(cs:List (List (Option Bool))),eqWs (cs.map encU) (cs.map encU)=some true
 |[]=>rfl
 |c::cs=>by
  show(match eqW (encU c) (encU c),eqWs (cs.map encU) (cs.map encU)with|some x,some y=>some (x&&y)|_,_=>none)=_;rw[x54 cs,show eqW (encU c) (encU c)=some true from by unfold encU;simp[eqW,q8u]];rfl
theorem x21:∀(cs:List (List (Option Bool))),depWs (cs.map encU)<=1
 |[]=>w1h _
 |c::cs=>by
  show max (depW (encU c)) (depWs (cs.map encU))<=1;have:=x21 cs;have e:depW (encU c)=1:=by unfold encU;simp only[depW,q7b]
  omega
theorem x55(cs:List (List (Option Bool)))(w:List (Option Bool)):ne2 (.lst [.lst (cs.map encU),.lst (w.map eo)]) (.lst [.lst (cs.map encU),.lst (w.map eo)])=some (.bl false):=by
 have h:=x21 cs;unfold ne2;rw[if_pos (by simp only[depW,depWs,q7b];omega)];simp[eqW,eqWs,q8u,x54]
noncomputable def t20f(K:PySem.W.Frag)(a:Adr)(r:Nat->List W->FR):List S->SR:=
 (dSeq (dSetN2 7 (dList (dCons (dVar 4) dNil)) (dList (dCons (dVar 2) dNil)))
  (dSeq (dSet 8 (dBorrow (dCall (r q1r) (dCons (dOp ixW (dVar 7) (dC (.int 0))) (dCons (dOp ixW (dVar 7) (dC (.int 1))) dNil)))))
  (dSeq (dIfS (dOr (dNot (dTru (dIsi K (.type "bool") (dVar 8)))) (dOr (dTest (dOp ne2 (dVar 8) (dCall (r q13) (dCons (dVar 4) (dCons (dVar 2) dNil))))) (dBorrowT (dTest (dOp ne2 (dVar 7) (dFz (dLst (dCons (dVar 4) (dCons (dVar 2) dNil)))))))))
  (dRet (dC (.bl false)))
  dNx)
  (dSeq (dClearN 7 0)
  (dSeq (dClearN 7 1)
  (dRet (dOp eq2 (dCall (r q1r) (dCons (dVar 4) (dCons (dVar 2) dNil))) (dVar 8))))))))
noncomputable def t20e(K:PySem.W.Frag)(a:Adr)(r:Nat->List W->FR):List S->SR:=
 (dSeq (dIfS (dTest (dOp eq2 (dVar 3) (dC (.int 7))))
  (dSet 4 (dOp addW (dOp addW (dSl (dVar 4) dNoPart (dPart (dVar 6))) (dFz (dLst (dCons (dCall (r q06) (dCons (dVar 0) (dCons (dC (.int 60)) (dCons (dVar 1) dNil)))) dNil)))) (dSl (dVar 4) (dPart (dVar 6)) dNoPart)))
  dNx)
  (t20f K a r))
noncomputable def t20d(K:PySem.W.Frag)(a:Adr)(r:Nat->List W->FR):List S->SR:=
 (dSeq (dIfS (dOr (dTest (dOp eq2 (dVar 3) (dC (.int 5)))) (dTest (dOp eq2 (dVar 3) (dC (.int 6)))))
  (dSet 4 (dOp addW (dSl (dVar 4) dNoPart (dPart (dVar 6))) (dSl (dVar 4) (dPart (dOp addW (dVar 6) (dC (.int 1)))) dNoPart)))
  dNx)
  (t20e K a r))
noncomputable def t20c(K:PySem.W.Frag)(a:Adr)(r:Nat->List W->FR):List S->SR:=
 (dSeq (dSet 6 (dOp modW (dCall (r q0m) (dCons (dVar 0) (dCons (dC (.int 16)) dNil))) (dOp addW (dFn len1 (dCons (dVar 4) dNil)) (dC (.int 1)))))
  (t20d K a r))
noncomputable def t20b(K:PySem.W.Frag)(a:Adr)(r:Nat->List W->FR):List S->SR:=
 (dSeq (dIfS (dOr (dTest (dOp eq2 (dVar 3) (dC (.int 4)))) (dTest (dOp eq2 (dVar 3) (dC (.int 7)))))
  (dSet 4 (dOp addW (dVar 4) (dCall (r q01) (dCons (dVar 2) (dCons (dVar 1) (dCons (dNotV (dVar 5)) dNil))))))
  dNx)
  (t20c K a r))
noncomputable def t20a(K:PySem.W.Frag)(a:Adr)(r:Nat->List W->FR):List S->SR:=
 (dSeq (dIfS (dTest (dOp gtW (dVar 3) (dC (.int 2))))
  (dSet 4 (dCall (r q01) (dCons (dVar 2) (dCons (dVar 1) (dCons (dVar 5) dNil)))))
  dNx)
  (t20b K a r))
theorem y3v(r:Nat->List W->FR):q7y K a r=(dSeq (dIfS (dTest (dOp eq2 (dOp fdivW (dCall (r q05) (dCons (dVar 0) (dCons (dC (.int 0)) (dCons (dC (.int 40)) dNil)))) (dC (.int 5))) (dC (.int 1))))
  (dRet (dCall (r q1c) (dCons (dCall (r q07) (dCons (dVar 0) dNil)) dNil)))
  dNx)
  (dSeq (dSet 1 (dCall (r q05) (dCons (dVar 0) (dCons (dC (.int 0)) (dCons (dC (.int 5)) dNil)))))
  (dSeq (dSet 2 (dCall (r q1b) (dCons (dVar 0) (dCons (dVar 1) dNil))))
  (dSeq (dSet 3 (dOp modW (dCall (r q0m) (dCons (dVar 0) (dCons (dC (.int 18)) dNil))) (dC (.int 8))))
  (dSeq (dSet 4 (dFz (dCompR rng1 [0,1] (dCons (dOp modW (dCall (r q0m) (dCons (dVar 0) (dCons (dC (.int 19)) dNil))) (dOp addW (dC (.int 7)) (dOp mulW (dC (.int 10)) (dOp modW (dVar 3) (dC (.int 2)))))) dNil) dYes (q57 K a r))))
  (dSeq (dSet 5 (dOp eq2 (dOp modW (dCall (r q0m) (dCons (dVar 0) (dCons (dC (.int 17)) dNil))) (dC (.int 2))) (dC (.int 1))))
  (t20a K a r))))))):=rfl
theorem end20(M:Exs K mg a)(n:Nat)(hw:w.length=2^m)(hm:m<=4)(hc:∀c∈cs,c.length=m)(hl:cs.length<=1000)(v3 v5 v6:W):
  (t20f K a (run K a (n+5)) [.fr (.lst (ns.map .int)),.fr (.int (m:Int)),.fr (.lst (w.map eo)),.fr v3,.fr (.lst (cs.map encU)),.fr v5,.fr v6,.no,.no]).fn=.ok (.fr (.bl true)):=by
 have hcv:=x3x (K:=K) (a:=a) n hw hm hc;have hdu:=y0o (K:=K) (a:=a) (n+2) hw hm hc hl;unfold t20f;walk_at "den";rw[x7s rfl];walk_at "den";rw[hcv];walk_at "den";rw[x65 M.t_bool_bool];walk_at "den";rw[hdu];walk_at "den";rw[x55];walk_at "den";rw[x04 ⟨by simp only[w0o,w1p];omega,rfl⟩];walk_at "den";rw[x04 ⟨by simp only[w0o,w1p];omega,rfl⟩];walk_at "den";rw[hcv];walk_at "den"
theorem q6b{xs ys:List (List (Option Bool))}(h1:∀c∈xs,c.length=m)(h2:∀c∈ys,c.length=m):∀c∈xs++ys,c.length=m:=fun c h=>by
 rcases w2a.mp h with h|h
 ·exact h1 c h
 ·exact h2 c h
theorem te20(M:Exs K mg a)(n:Nat)(hf:Fit ns)(hw:w.length=2^m)(hm:m<=4)(hc:∀c∈cs,c.length=m)(hl:cs.length<=200)(v3:Int)(v5:W){p:Nat}(hp:p<=cs.length):
  (t20e K a (run K a (n+5)) [.fr (.lst (ns.map .int)),.fr (.int (m:Int)),.fr (.lst (w.map eo)),.fr (.int v3),.fr (.lst (cs.map encU)),.fr v5,.fr (.int (p:Int)),.no,.no]).fn=.ok (.fr (.bl true)):=by
 unfold t20e;walk_at "den"
 by_cases h:v3=7
 ·rw[if_pos h];walk_at "den";obtain⟨c,h1,h2⟩:=q78 (K:=K) (a:=a) hf (n+2) (f:=60) (m:=m) (by omega) (by decide) (by decide);rw[h1];walk_at "den";rw[q79 (by rw[w0a];exact hp),q40 (by rw[w0a];exact hp)];rw[if_pos (by simp only[w1d,w0a];omega)];walk_at "den";rw[if_pos (by simp only[w1d,w1l,w0a,w0k,w1e];omega)];walk_at "den";have e:List.take p (cs.map encU)++[encU c]++List.drop p (cs.map encU)=(cs.take p++[c]++cs.drop p).map encU:=by simp[w3y,w3z]
  rw[e];exact end20 M n hw hm (q6b (q6b (fun c h=>hc c (w3m h)) (fun d h=>by rw[w1j.mp h];exact h2)) fun c h=>hc c (w3n h)) (by simp only[w1d,w1l,w0k,w1e];omega) _ _ _
 ·rw[if_neg h];walk_at "den";exact end20 M n hw hm hc (by omega) _ _ _
theorem td20(M:Exs K mg a)(n:Nat)(hf:Fit ns)(hw:w.length=2^m)(hm:m<=4)(hc:∀c∈cs,c.length=m)(hl:cs.length<=200)(v3:Int)(v5:W){p:Nat}(hp:p<=cs.length):
  (t20d K a (run K a (n+5)) [.fr (.lst (ns.map .int)),.fr (.int (m:Int)),.fr (.lst (w.map eo)),.fr (.int v3),.fr (.lst (cs.map encU)),.fr v5,.fr (.int (p:Int)),.no,.no]).fn=.ok (.fr (.bl true)):=by
 unfold t20d
 have cut:(if(cutW (cs.map encU) none (some (p:Int))).length+(cutW (cs.map encU) (some ((p:Int)+1)) none).length<=16777216 then(t20e K a (run K a (n+5)) [.fr (.lst (ns.map .int)),.fr (.int (m:Int)),.fr (.lst (w.map eo)),.fr (.int v3),.fr (.lst (cutW (cs.map encU) none (some (p:Int))++cutW (cs.map encU) (some ((p:Int)+1)) none)),.fr v5,.fr (.int (p:Int)),.no,.no]).fn else FR.no)=.ok (.fr (.bl true)):=by
  have e2:cutW (cs.map encU) (some ((p:Int)+1)) none=(cs.drop (p+1)).map encU:=by
   by_cases h:p+1<=cs.length
   ·rw[show(p:Int)+1=((p+1:Nat):Int)from rfl,q40 (by rw[w0a];exact h),w3z]
   ·rw[show(p:Int)+1=((p+1:Nat):Int)from rfl];unfold cutW;rw[HT.sIx_none,HT.sIx_nat,w0a,Nat.min_eq_right (by omega),w3h (by rw[w0a];exact w0d _),w3h (by omega)];simp
  rw[q79 (by rw[w0a];exact hp),e2,if_pos (by simp only[w1d,w1l,w0a];omega)];rw[<- w3y,<- w2b];exact te20 M n hf hw hm (q6b (fun c h=>hc c (w3m h)) fun c h=>hc c (w3n h)) (by simp only[w1d,w1l,w0k];omega) v3 v5 (by simp only[w1d,w1l,w0k];omega)
 have plain:=te20 M n hf hw hm hc hl v3 v5 hp;walk_at "den"
 by_cases h:v3=5
 ·rw[if_pos h];exact cut
 ·rw[if_neg h];walk_at "den"
  by_cases h2:v3=6
  ·rw[if_pos h2];exact cut
  ·rw[if_neg h2];exact plain
theorem tc20(M:Exs K mg a)(n:Nat)(hf:Fit ns)(hw:w.length=2^m)(hm:m<=4)(hc:∀c∈cs,c.length=m)(hl:cs.length<=200)(v3:Int)(v5:W):
  (t20c K a (run K a (n+5)) [.fr (.lst (ns.map .int)),.fr (.int (m:Int)),.fr (.lst (w.map eo)),.fr (.int v3),.fr (.lst (cs.map encU)),.fr v5,.no,.no,.no]).fn=.ok (.fr (.bl true)):=by
 unfold t20c;walk_at "den";obtain⟨v,h⟩:=q27 (K:=K) (a:=a) hf (n+3) (k:=16) (by decide) (by decide);rw[h];walk_at "den";rw[w0a,if_pos (by omega)];have h1:=w2c v (show(cs.length:Int)+1≠0 by omega);have h2:=w1r v (show(0:Int)<(cs.length:Int)+1 by omega);obtain⟨p,hp⟩:∃p:Nat,v%((cs.length:Int)+1)=(p:Int):=⟨(v%((cs.length:Int)+1)).toNat,by omega⟩;rw[hp]at h2 |-
 exact td20 M n hf hw hm hc hl v3 v5 (by omega)
theorem tb20(M:Exs K mg a)(n:Nat)(hf:Fit ns)(hw:w.length=2^m)(hm:m<=4)(hc:∀c∈cs,c.length=m)(hl:cs.length<=100)(v3:Int)(b:Bool):
  (t20b K a (run K a (n+5)) [.fr (.lst (ns.map .int)),.fr (.int (m:Int)),.fr (.lst (w.map eo)),.fr (.int v3),.fr (.lst (cs.map encU)),.fr (.bl b),.no,.no,.no]).fn=.ok (.fr (.bl true)):=by
 obtain⟨ds,h1,h2,h3⟩:=q8a (K:=K) (a:=a) (n+1) hw hm (!b)
 have cat:(if(cs.map encU).length+(ds.map encU).length<=16777216 then(t20c K a (run K a (n+5)) [.fr (.lst (ns.map .int)),.fr (.int (m:Int)),.fr (.lst (w.map eo)),.fr (.int v3),.fr (.lst (cs.map encU++ds.map encU)),.fr (.bl b),.no,.no,.no]).fn else FR.no)=.ok (.fr (.bl true)):=by
  rw[if_pos (by simp only[w0a];omega),<- w2b];exact tc20 M n hf hw hm (q6b hc h2) (by rw[w0k];omega) v3 _
 have plain:=tc20 M n hf hw hm hc (by omega) v3 (.bl b);unfold t20b;walk_at "den"
 by_cases h:v3=4
 ·rw[if_pos h,h1];walk_at "den";exact cat
 ·rw[if_neg h];walk_at "den"
  by_cases h2:v3=7
  ·rw[if_pos h2,h1];walk_at "den";exact cat
  ·rw[if_neg h2];exact plain
theorem ta20(M:Exs K mg a)(n:Nat)(hf:Fit ns)(hw:w.length=2^m)(hm:m<=4)(hc:∀c∈cs,c.length=m)(hl:cs.length<=100)(v3:Int)(b:Bool):
  (t20a K a (run K a (n+5)) [.fr (.lst (ns.map .int)),.fr (.int (m:Int)),.fr (.lst (w.map eo)),.fr (.int v3),.fr (.lst (cs.map encU)),.fr (.bl b),.no,.no,.no]).fn=.ok (.fr (.bl true)):=by
 obtain⟨ds,h1,h2,h3⟩:=q8a (K:=K) (a:=a) (n+1) hw hm b;unfold t20a;walk_at "den"
 by_cases h:2<v3
 ·rw[if_pos h,h1];walk_at "den";exact tb20 M n hf hw hm h2 (by omega) v3 b
 ·rw[if_neg h];walk_at "den";exact tb20 M n hf hw hm hc hl v3 b
theorem y3w{d:Den W}{m:Nat}(h:∀w∈ws,∃c e2,d (.fr w::pe)=.ok (encU c) e2/\c.length=m):∃cs:List (List (Option Bool)),compD dYes d pe ws=some (cs.map encU)/\cs.length=ws.length/\∀c∈cs,c.length=m:=by
 induction ws with
 |nil=>exact⟨[],rfl,rfl,fun c h=>nomatch h⟩
 |cons w ws ih=>
  obtain⟨os,h1,h2,h4⟩:=ih fun u hu=>h u (by simp[hu])
  obtain⟨o,e2,h3,h5⟩:=h w (by simp);refine⟨o::os,?_,by simp[h2],fun c hc=>?_⟩
  ·rw[q5o];simp only[x0r,h3,h1];rfl
  ·rcases w0s.mp hc with rfl|hc
   ·exact h5
   ·exact h4 c hc
theorem x7z(M:Exs K mg a)(ns:List Int)(hl:Fit ns):run K a 151 q39 [.lst (ns.map .int)]=.ok (.fr (.bl true)):=by
 rw[show(151:Nat)=145+5+1 from rfl,x2v,y3v];walk_at "den";obtain⟨v1,h1,b1,c1⟩:=q4r (K:=K) (a:=a) 148 ns (k:=0) (m:=40) (by decide) (by decide) (by decide);obtain⟨v2,h2,b2,c2⟩:=q4r (K:=K) (a:=a) 148 ns (k:=0) (m:=5) (by decide) (by decide) (by decide);rw[h1];walk_at "den"
 by_cases hv:v1 / 5=1
 ·rw[if_pos hv];obtain⟨w,hw,hw2⟩:=x18 (K:=K) (a:=a) hl 147;rw[hw];walk_at "den";rw[x19 M 144 (by rw[w0a];exact hw2)];walk_at "den"
 ·rw[if_neg hv];rw[h2];obtain⟨m,rfl⟩:∃m:Nat,v2=(m:Int):=⟨v2.toNat,by omega⟩;walk_at "den";obtain⟨w,hw,hwl⟩:=x3u (K:=K) (a:=a) hl 147 (m:=m) (by omega);rw[hw];walk_at "den";obtain⟨v3,h3⟩:=q27 (K:=K) (a:=a) hl 148 (k:=18) (by decide) (by decide);rw[h3];walk_at "den";obtain⟨v4,h4⟩:=q27 (K:=K) (a:=a) hl 148 (k:=19) (by decide) (by decide);rw[h4];walk_at "den";have hm1:=w2c (v3%8) (show(2:Int)≠0 by decide);have hm2:=w1r (v3%8) (show(0:Int)<2 by decide);rw[if_pos (by omega)];walk_at "den";have hq1:=w2c v4 (show 7+10*(v3%8%2)≠0 by omega);have hq2:=w1r v4 (show 0<7+10*(v3%8%2) by omega);obtain⟨q,hq⟩:∃q:Nat,v4%(7+10*(v3%8%2))=(q:Int):=⟨(v4%(7+10*(v3%8%2))).toNat,by omega⟩;rw[hq]at hq2 |-
  rw[if_pos (q2a (by omega) (by omega))];walk_at "den";rw[if_pos (by rw[q12];omega)];simp only[frz1,pj1,w0e,w0q];rw[q2w]
  obtain⟨cs,h5,h6,h7⟩:=y3w (m:=m) (d:=q57 K a (run K a (145+5))) (pe:=[.fr (.lst (ns.map .int)),.fr (.int (m:Int))]) (ws:=(List.range q).map fun k=>W.int ((k:Nat):Int)) (by
   intro u hu;obtain⟨k,hk,rfl⟩:=w1f.mp hu;rw[w0w]at hk;unfold q57;walk_at "den";obtain⟨c,hc1,hc2⟩:=q78 (K:=K) (a:=a) hl 147 (f:=20+5*(k:Int)) (m:=m) (by omega) (by omega) (by omega);rw[hc1];exact⟨c,_,rfl,hc2⟩)
  rw[h5];walk_at "den";obtain⟨v8,h8⟩:=q27 (K:=K) (a:=a) hl 148 (k:=17) (by decide) (by decide);rw[h8];walk_at "den";rw[w0a,w1g]at h6;exact ta20 M 145 hl hwl (by omega) h7 (by omega) (v3%8) _
end
theorem walk{l:PySem.W.OpenLaw}{q:Program}{loose:List Str}{XP:(Str->Option Value)->Heap->Prop}{YP:World->Heap->Prop}{d:DefRec}{K:Params->PySem.W.Frag}(hn:l.most=some 63)(hdf:d.params.defaults=[])
  (hY:∀(w:World)(h:Heap),YP w h->(K w.params).In h)
  (F:∀(w:World)(mg:Str->Option Value)(fa:Addr)(h:Heap),(K w.params).In h->h.Ns mainGlobals mg->mg d.name=some (.ref fa) ->
   ∃fd:FuncData,(∀(s:Shared)(u:Value),BindsTo s fd ⟨[u],[]⟩ [("_law_script", u)])/\∀base:Heap,(K w.params).In base->base.Ns mainGlobals mg->FnOk l.prog w (K w.params) mg base (CX1 l.prog w) 151 fa fd ["_law_script"] (spLawB (K w.params)))(hNM:∀w:World,noMark (K w.params)=true):
  PySem.W.WalkO q loose XP YP l.row.toRowW d [] (fun f vs=>PySem.call f vs):=
 L2.x7n (n:=63) (k:=151) (x:="_law_script") (CX:=fun w=>CX1 l.prog w) (sp:=fun w=>spLawB (K w.params)) hn (by decide) hdf ⟨rfl,by decide,by decide,rfl⟩ hY F (fun _ _ a ns hl hb _ hS=>⟨a,ns,rfl,hS,⟨hl,hb⟩,fun _=>rfl⟩) (fun _ _ _ _ _ z=>y11 z) hNM
end Q
open PySem PySem.W PyProof.Rows
set_option maxRecDepth 100000 in
set_option maxHeartbeats 0 in
theorem PySem.Challenge.cw_circuits_k20_covers_holds : PySem.Challenge.rw_circuits_k20_covers.Holds := by
 w_on; o_law; k_head; (case hw => w_witness2)
 k_fill
 refine Q.walk (l := PySem.Challenge.rw_circuits_k20_covers) rfl rfl (fun w h Y => PySem.W.kIn_of Y) ?F (fun w => by kernel_rfl)
 case F =>
  intro w mg fa h KX G hmg;refine' Q.mk KX G hmg ?a0 ?l0 ?c0 ?k0 ?a1 ?l1 ?c1 ?k1 ?a2 ?l2 ?c2 ?k2 ?a3 ?l3 ?c3 ?k3 ?a4 ?l4 ?c4 ?k4 ?a5 ?l5 ?c5 ?k5 ?a6 ?l6 ?c6 ?k6 ?a7 ?l7 ?c7 ?k7 ?a8 ?l8 ?c8 ?k8 ?a9 ?l9 ?c9 ?k9 ?a10 ?l10 ?c10 ?k10 ?a11 ?l11 ?c11 ?k11 ?a12 ?l12 ?c12 ?k12 ?a13 ?l13 ?c13 ?k13 ?a14 ?l14 ?c14 ?k14 ?a15 ?l15 ?c15 ?k15 ?a16 ?l16 ?c16 ?k16 ?a17 ?l17 ?c17 ?k17 ?a18 ?l18 ?c18 ?k18 ?a19 ?l19 ?c19 ?k19 ?a20 ?l20 ?c20 ?k20 ?a21 ?l21 ?c21 ?k21 ?a22 ?l22 ?c22 ?k22 ?a23 ?l23 ?c23 ?k23 ?n_CircuitError ?n_NoRow ?n_NoTable ?n_MOST_PLACES_tables ?n_MOST_PLACES_covers ?z_all ?z_bool ?z_enumerate ?z_int ?z_isinstance ?z_len ?z_list ?z_range ?z_reversed ?z_sorted ?z_tuple ?z_zip ?g_MOST_PLACES_tables ?g_MOST_PLACES_covers ?e_NoRow ?e_NoTable ?c_NoRow ?x_NoRow_CircuitError ?k_NoRow_NoTable ?c_NoTable ?x_NoTable_CircuitError ?k_NoTable_NoTable ?t_NoneType_bool ?t_bool_bool ?t_int_bool ?t_str_bool ?t_tuple_bool ?t_list_bool 150 ?hL
  (case a0 => k_is)
  (case l0 => k_is)
  (case c0 => k_is)
  (case k0 => k_is)
  (case a1 => k_is)
  (case l1 => k_is)
  (case c1 => k_is)
  (case k1 => k_is)
  (case a2 => k_is)
  (case l2 => k_is)
  (case c2 => k_is)
  (case k2 => k_is)
  (case a3 => k_is)
  (case l3 => k_is)
  (case c3 => k_is)
  (case k3 => k_is)
  (case a4 => k_is)
  (case l4 => k_is)
  (case c4 => k_is)
  (case k4 => k_is)
  (case a5 => k_is)
  (case l5 => k_is)
  (case c5 => k_is)
  (case k5 => k_is)
  (case a6 => k_is)
  (case l6 => k_is)
  (case c6 => k_is)
  (case k6 => k_is)
  (case a7 => k_is)
  (case l7 => k_is)
  (case c7 => k_is)
  (case k7 => k_is)
  (case a8 => k_is)
  (case l8 => k_is)
  (case c8 => k_is)
  (case k8 => k_is)
  (case a9 => k_is)
  (case l9 => k_is)
  (case c9 => k_is)
  (case k9 => k_is)
  (case a10 => k_is)
  (case l10 => k_is)
  (case c10 => k_is)
  (case k10 => k_is)
  (case a11 => k_is)
  (case l11 => k_is)
  (case c11 => k_is)
  (case k11 => k_is)
  (case a12 => k_is)
  (case l12 => k_is)
  (case c12 => k_is)
  (case k12 => k_is)
  (case a13 => k_is)
  (case l13 => k_is)
  (case c13 => k_is)
  (case k13 => k_is)
  (case a14 => k_is)
  (case l14 => k_is)
  (case c14 => k_is)
  (case k14 => k_is)
  (case a15 => k_is)
  (case l15 => k_is)
  (case c15 => k_is)
  (case k15 => k_is)
  (case a16 => k_is)
  (case l16 => k_is)
  (case c16 => k_is)
  (case k16 => k_is)
  (case a17 => k_is)
  (case l17 => k_is)
  (case c17 => k_is)
  (case k17 => k_is)
  (case a18 => k_is)
  (case l18 => k_is)
  (case c18 => k_is)
  (case k18 => k_is)
  (case a19 => k_is)
  (case l19 => k_is)
  (case c19 => k_is)
  (case k19 => k_is)
  (case a20 => k_is)
  (case l20 => k_is)
  (case c20 => k_is)
  (case k20 => k_is)
  (case a21 => k_is)
  (case l21 => k_is)
  (case c21 => k_is)
  (case k21 => k_is)
  (case a22 => k_is)
  (case l22 => k_is)
  (case c22 => k_is)
  (case k22 => k_is)
  (case a23 => k_is)
  (case l23 => k_is)
  (case c23 => k_is)
  (case k23 => k_is)
  (case n_CircuitError => k_is)
  (case n_NoRow => k_is)
  (case n_NoTable => k_is)
  (case n_MOST_PLACES_tables => k_is)
  (case n_MOST_PLACES_covers => k_is)
  (case z_all => k_is)
  (case z_bool => k_is)
  (case z_enumerate => k_is)
  (case z_int => k_is)
  (case z_isinstance => k_is)
  (case z_len => k_is)
  (case z_list => k_is)
  (case z_range => k_is)
  (case z_reversed => k_is)
  (case z_sorted => k_is)
  (case z_tuple => k_is)
  (case z_zip => k_is)
  (case g_MOST_PLACES_tables => kernel_rfl)
  (case g_MOST_PLACES_covers => kernel_rfl)
  (case e_NoRow => kernel_rfl)
  (case e_NoTable => kernel_rfl)
  (case c_NoRow => kernel_rfl)
  (case x_NoRow_CircuitError => kernel_rfl)
  (case k_NoRow_NoTable => kernel_rfl)
  (case c_NoTable => kernel_rfl)
  (case x_NoTable_CircuitError => kernel_rfl)
  (case k_NoTable_NoTable => kernel_rfl)
  (case t_NoneType_bool => kernel_rfl)
  (case t_bool_bool => kernel_rfl)
  (case t_int_bool => kernel_rfl)
  (case t_str_bool => kernel_rfl)
  (case t_tuple_bool => kernel_rfl)
  (case t_list_bool => kernel_rfl)
  (case hL => exact fun a M ns hl => Q.x7z M ns hl)
