import PyProof.Rows.All
import Wide.All
import OpenK.AllK
import Wide.FinOn
import PyProof.TupleKey
import PyProof.EqAt
import PyProof.EqKinds
import Wide.Seal
import Lean
import PyProof.TupleCall
import KE.KTryMore
import KE.KRevIter
import PyProof.CollectIter
import PyProof.ConsumeWalk
import PyProof.TupleOfStr
import KE.KIsAll
import PyProof.ExcArgs
import PyProof.ExcAttrAll.ValueError
import PyProof.CompUse
import PyProof.NeKinds
import PyProof.EnumIter
import PyProof.EnumFor
import PyProof.EnumMake
import PyProof.EnumStmt
import PyProof.ListMulRoad
import PyProof.ZipIter
import PyProof.TupleIter
import PyProof.Rows.SortWalk
import PyProof.SetKind
import PyProof.Rows.SetFrom
import PyProof.FactsAll.set_1
import KE.KDictSum
import PyProof.FactsAll.set_2
import PyProof.FactsAll.tuple_2
import PyProof.ReprRoads
import PyProof.Rows.SeqMore
import PyProof.ReprLen
import PyProof.WalkInts
import PyProof.SeqI3
import PyProof.Rows.TupIter
import PyProof.ListRange
import PyProof.SumWalk
import PyProof.DictIter
import PyProof.DictWalks
import PyProof.DictRoadsH
import PyProof.DictTruth
import PyProof.Rows.TupDisplay
import KE.KDictList
import PyProof.Draws
import PyProof.StrBlockI
import PyProof.StrLawsIn
import PyProof.StrOps2
import PyProof.ReprStr
import PyProof.ListNew
import PyProof.Rows.SortRev
import KE.KRevSl
import PySem.Challenge.RW_circuits_k62_woven_refused
set_option Elab.async false
set_option linter.all false
set_option maxRecDepth 100000
set_option maxHeartbeats 1000000
local macro_rules | `(tactic| omega) => `(tactic| first | with_reducible assumption | decide | with_reducible exact Nat.le_refl _ | with_reducible exact Nat.zero_le _ | lia)
set_option genSizeOf false
set_option genInjectivity false
local macro_rules | `(tactic| walk_at "1") => `(tactic| (first | exact Or.inl rfl | exact Or.inr (Or.inl rfl) | exact Or.inr (Or.inr rfl)))
local macro_rules | `(tactic| walk_at "2") => `(tactic| (first | exact .inl rfl | exact .inr rfl | assumption))
local macro_rules | `(tactic| walk_at "3") => `(tactic| (first | exact Or.inl rfl | exact Or.inr rfl))
open PySem.W (callWith_K cellsFrom_some codeHdIn exmOne exm_one findIn hideAll_get keepIn kia_one kitOne kla_obj methodObj mg_none_of mg_of specialIn tabObj takesIn)
def w0a:=@List.getElem?_eq_some_iff
def w0b:=@List.length_map
def w0c:=@List.size_toArray
def w0d:=@List.getElem?_eq_getElem
def w0e:=@List.getElem?_set_ne
def w0f:=@List.getElem?_set_self
def w0g:=@Option.map_eq_some_iff
def w0h:=@Nat.le_refl
def w0i:=@List.mem_of_getElem?
def w0j:=@List.mem_append_right
def w0k:=@List.mem_singleton
def w0l:=@List.map_append
def w0m:=@Nat.lt_of_lt_of_le
def w0n:=@List.getElem?_map
def w0o:=@Nat.ne_of_lt
def w0p:=@List.mem_cons
def w0q:=@List.mem_map
def w0r:=@List.map_cons
def w0s:=@List.getElem?_append_left
def w0t:=@List.all_eq_true
def w0u:=@List.lookup_cons
def w0v:=@List.length_append
def w0w:=@Nat.le_trans
def w0x:=@List.length_cons
def w0y:=@List.mem_cons_of_mem
def w0z:=@List.getElem?_cons_succ
def w1a:=@Nat.zero_le
def w1b:=@List.mem_cons_self
def w1c:=@List.replicate_succ
def w1d:=@Bool.and_eq_true
def w1e:=@Option.bind_eq_some_iff
def w1f:=@List.nodup_cons
def w1g:=@List.getElem?_eq_none
def w1h:=@List.mem_append
def w1i:=@List.append_nil
def w1j:=@Array.getElem?_append_left
def w1k:=@List.getElem?_append_right
def w1l:=@Bool.eq_false_iff
def w1m:=@List.of_mem_zip
def w1n:=@Option.isSome_iff_exists
def w1o:=@List.getElem?_replicate
def w1p:=@List.flatten_cons
def w1q:=@Array.getElem?_eq_some_iff
def w1r:=@List.getElem_mem
def w1s:=@Nat.lt_irrefl
def w1t:=@Bool.false_ne_true
def w1u:=@List.length_replicate
def w1v:=@List.map_map
def w1w:=@Int.emod_lt_of_pos
def w1x:=@Int.toNat_natCast
def w1y:=@List.reverse_cons
def w1z:=@Int.emod_nonneg
def w2a:=@List.not_mem_nil
def w2b:=@List.mem_range
def w2c:=@List.mem_filterMap
def w2d:=@List.forIn_cons
def w2e:=@List.find?_cons
def w2f:=@List.mem_append_left
def w2g:=@Nat.pow_le_pow_right
def w2h:=@List.getElem?_zip_eq_some
def w2i:=@List.length_take
def w2j:=@List.drop_length
def w2k:=@List.map_congr_left
def w2l:=@Bool.false_eq_true
def w2m:=@Bool.eq_iff_iff
def w2n:=@List.map_inj_right
def w2o:=@List.filter_cons_of_pos
def w2p:=@List.ext_getElem?
def w2q:=@List.append_assoc
def w2r:=@Nat.lt_succ_of_lt
def w2s:=@List.length_drop
def w2t:=@List.eq_nil_of_length_eq_zero
def w2u:=@Option.bind_some
def w2v:=@List.filterMap_cons
def w2w:=@Array.length_toList
def w2x:=@Bool.or_eq_true
def w2y:=@List.nil_append
def w2z:=@List.length_zip
def w3a:=@List.mem_map_of_mem
def w3b:=@List.getD_eq_getElem?_getD
def w3c:=@List.map_nil
def w3d:=@List.drop_eq_getElem_cons
def w3e:=@List.mem_or_eq_of_mem_set
def w3f:=@Option.isSome_map
def w3g:=@List.nodup_append
def w3h:=@List.filter_cons_of_neg
def w3i:=@List.getElem?_cons_zero
def w3j:=@List.eraseIdx_cons_succ
def w3k:=@Nat.min_le_right
def w3l:=@List.map_reverse
def w3m:=@List.take_of_length_le
def w3n:=@List.length_pos_of_mem
def w3o:=@List.mem_filter
def w3p:=@Nat.ne_of_gt
def w3q:=@List.length_set
def w3r:=@Nat.zero_add
def w3s:=@Nat.not_lt
def w3t:=@List.length_eraseIdx
def w3u:=@List.forIn_nil
def w3v:=@List.length_reverse
def w3w:=@Array.toList_append
def w3x:=@List.replicate_zero
def w3y:=@Array.forIn_toList
def w3z:=@List.any_cons
def w4a:=@List.lookup_append
def w4b:=@Nat.lt_or_eq_of_le
def w4c:=@Nat.le_of_lt
def w4d:=@Nat.mul_comm
def w4e:=@List.map_set
def w4f:=@Nat.le_succ
namespace PySem.W.Fast
theorem tw2354476827367663176:True:=trivial
theorem tw18346752759667021316:True:=trivial
theorem tw679569733112052814:True:=trivial
theorem tw894115420067022074:True:=trivial
theorem tw16460329321614181971:True:=trivial
theorem tw12118703141954600617:True:=trivial
theorem tw9736078616915455787:True:=trivial
theorem tw8653599142897156343:True:=trivial
theorem tw3179931757907452346:True:=trivial
theorem tw16773216829247247790:True:=trivial
theorem tw15628047246399649186:True:=trivial
theorem tw217113703758186746:True:=trivial
theorem tw114859982196292778:True:=trivial
theorem tw9649290552017206504:True:=trivial
theorem tw9951916907487193753:True:=trivial
theorem tw7385182648672855620:True:=trivial
theorem tw17219801259620745373:True:=trivial
theorem tw9495330475949993600:True:=trivial
theorem tw4337903650308290780:True:=trivial
theorem tw15699894784320756843:True:=trivial
theorem tw17149471505146585267:True:=trivial
theorem tw803672622238501388:True:=trivial
theorem tw6677616218870155775:True:=trivial
theorem tw12132285447953163552:True:=trivial
theorem tw14021385787192496159:True:=trivial
theorem tw18193080095606927066:True:=trivial
theorem tw9041326110391176754:True:=trivial
theorem tw8357726664410499250:True:=trivial
theorem tw8469345023360020677:True:=trivial
theorem tw4454811111899767014:True:=trivial
theorem tw2675820453153921896:True:=trivial
theorem tw7353302334206301725:True:=trivial
theorem tw1595518119420705272:True:=trivial
theorem tw16947372987705718660:True:=trivial
theorem tw1044106824603134049:True:=trivial
theorem tw18050379130075144420:True:=trivial
theorem tw7511007037316540165:True:=trivial
theorem tw13143198424438779728:True:=trivial
theorem tw12301765399569842693:True:=trivial
theorem tw10366957654878646683:True:=trivial
theorem tw2303465539078318998:True:=trivial
theorem tw11464573041134424347:True:=trivial
theorem tw17862594472317574646:True:=trivial
theorem tw3299514304245926521:True:=trivial
theorem tw13350817605346383345:True:=trivial
theorem tw17685535081288320839:True:=trivial
theorem tw4310742903814040257:True:=trivial
theorem tw5721867125267396115:True:=trivial
theorem tw1826425457367449567:True:=trivial
theorem tw14198410856839107987:True:=trivial
theorem tw15829801244904735411:True:=trivial
theorem tw13621286191682155046:True:=trivial
theorem tw3810378918376927070:True:=trivial
theorem tw5920932630673191007:True:=trivial
theorem tw11278212021213830360:True:=trivial
theorem tw16644290746346185475:True:=trivial
theorem tw2839648334580262722:True:=trivial
theorem tw18400665460651586760:True:=trivial
theorem tw4495319308656155872:True:=trivial
theorem tw3894050541140534080:True:=trivial
end PySem.W.Fast
namespace L2
open PySem PySem.Spec PyProof.Rows
variable{a b:Addr}{A:Around}{op:CmpOp}{c e tg:Expr}{fd:FuncData}{base h h':Heap}{pins:List (Addr×Obj)}{ch fp:List Addr}{es:List Expr}{N ps:List Str}{us:List Value}{i k t':Nat}{p pos:Pos}{P prog:Program}{K:PySem.W.Frag}{s:Shared}{x:Str}{mg:Str->Option Value}{u:Value}{E:Value->Shared->Prop}{f:Value->Value->Sem Value}{w:World}
set_option genInjectivity true in
inductive Kx where
 |bl (b:Bool)|int (i:Int)|str (x:Str)|tup (ks:List Kx)
inductive Sh where
 |bl|int|str|tup (ss:List Sh)|many (s:Sh)
noncomputable instance:DecidableEq Kx:=fun _ _=>Classical.propDecidable _
mutual
noncomputable def Kx.depth:Kx->Nat
 |.tup ks=>Kx.depths ks+1
 |_=>0
noncomputable def Kx.depths:List Kx->Nat
 |[]=>0
 |k::ks=>max k.depth (Kx.depths ks)
end
mutual
def Conf:Kx->Sh->Prop
 |.bl _,.bl=>True
 |.int _,.int=>True
 |.str _,.str=>True
 |.tup ks,.tup ss=>Confs ks ss
 |.tup ks,.many s=>ConfM ks s
 |_,_=>False
def Confs:List Kx->List Sh->Prop
 |[],[]=>True
 |k::ks,s::ss=>Conf k s/\Confs ks ss
 |_,_=>False
def ConfM:List Kx->Sh->Prop
 |[],_=>True
 |k::ks,s=>Conf k s/\ConfM ks s
end
mutual
def KIs(h:Heap):Kx->Value->Prop
 |.bl b,v=>v=.bool b
 |.int i,v=>∃t,v=.int i t
 |.str x,v=>∃t,v=.str x t
 |.tup ks,v=>∃a o items n,v=.ref a/\h.get? a=some o/\o.cls=.type "tuple" /\ o.data=.seq items n/\KAre h ks items.toList
def KAre(h:Heap):List Kx->List Value->Prop
 |[],vs=>vs=[]
 |k::ks,vs=>∃v r,vs=v::r/\KIs h k v/\KAre h ks r
end
mutual
theorem x2q{h:Heap}:∀(k k':Kx){v:Value},KIs h k v->KIs h k' v->k=k'
 |.bl b,k',v,x,y=>by
  cases(show v=.bool b from x);cases k' with
  |bl c=>cases(show Value.bool b=.bool c from y);rfl
  |int i=>obtain⟨t,e⟩:=y;cases e
  |str i=>obtain⟨t,e⟩:=y;cases e
  |tup ks=>obtain⟨_,_,_,_,e,_⟩:=y;cases e
 |.int b,k',v,x,y=>by
  obtain⟨t,rfl⟩:=x;cases k' with
  |bl c=>cases y
  |int i=>obtain⟨t,e⟩:=y;cases e;rfl
  |str i=>obtain⟨t,e⟩:=y;cases e
  |tup ks=>obtain⟨_,_,_,_,e,_⟩:=y;cases e
 |.str b,k',v,x,y=>by
  obtain⟨t,rfl⟩:=x;cases k' with
  |bl c=>cases y
  |int i=>obtain⟨t,e⟩:=y;cases e
  |str i=>obtain⟨t,e⟩:=y;cases e;rfl
  |tup ks=>obtain⟨_,_,_,_,e,_⟩:=y;cases e
 |.tup ks,k',v,x,y=>by
  obtain⟨a,o,it,n,rfl,h1,h2,h3,h4⟩:=x;cases k' with
  |bl c=>cases y
  |int i=>obtain⟨t,e⟩:=y;cases e
  |str i=>obtain⟨t,e⟩:=y;cases e
  |tup ks'=>
   obtain⟨a',o',it',n',e,g1,g2,g3,g4⟩:=y;cases e;rw[h1]at g1;cases g1;rw[h3]at g3;injection g3 with e1 _
   subst e1;rw[q7c ks ks' h4 g4]
theorem q7c{h:Heap}:∀(ks ks':List Kx){vs:List Value},KAre h ks vs->KAre h ks' vs->ks=ks'
 |[],ks',vs,x,y=>by
  cases(show vs=[]from x);cases ks' with
  |nil=>rfl
  |cons k ks'=>obtain⟨v,r,e,_⟩:=y;cases e
 |k::ks,ks',vs,x,y=>by
  obtain⟨v,r,rfl,h1,h2⟩:=x;cases ks' with
  |nil=>cases(show v::r=[]from y)
  |cons k' ks'=>
   obtain⟨v',r',e,g1,g2⟩:=y;cases e;rw[x2q k k' h1 g1,q7c ks ks' h2 g2]
end
mutual
theorem q9c{h h':Heap}(hk:∀a o,h.get? a=some o->o.cls=.type "tuple"->(∃it n,o.data=.seq it n)->h'.get? a=some o):∀(k:Kx){v:Value},KIs h k v->KIs h' k v
 |.bl b,v,x=>x
 |.int b,v,x=>x
 |.str b,v,x=>x
 |.tup ks,v,x=>by
  obtain⟨a,o,it,n,rfl,h1,h2,h3,h4⟩:=x;exact⟨a,o,it,n,rfl,hk a o h1 h2 ⟨it,n,h3⟩,h2,h3,q7y hk ks h4⟩
theorem q7y{h h':Heap}(hk:∀a o,h.get? a=some o->o.cls=.type "tuple"->(∃it n,o.data=.seq it n)->h'.get? a=some o):∀(ks:List Kx){vs:List Value},KAre h ks vs->KAre h' ks vs
 |[],vs,x=>x
 |k::ks,vs,x=>by
  obtain⟨v,r,rfl,h1,h2⟩:=x;exact⟨v,r,rfl,q9c hk k h1,q7y hk ks h2⟩
end
theorem KAre.length:∀(ks:List Kx){vs:List Value},KAre h ks vs->vs.length=ks.length
 |[],vs,x=>by cases(show vs=[]from x);rfl
 |k::ks,vs,x=>by
  obtain⟨v,r,rfl,h1,h2⟩:=x;rw[w0x,w0x,KAre.length ks h2]
mutual
noncomputable def kHash(w:World):Kx->Int
 |.bl b=>reduceHash (if b=true then 1 else 0)
 |.int i=>hashInt i
 |.str x=>hashStr w x
 |.tup ks=>reduceHash (Builtin.Tuple.tupleHashOf (kHashes w ks))
noncomputable def kHashes(w:World):List Kx->List Int
 |[]=>[]
 |k::ks=>kHash w k::kHashes w ks
end
mutual
noncomputable def kDraws:Kx->Nat
 |.tup ks=>kDrawss ks+1
 |_=>1
noncomputable def kDrawss:List Kx->Nat
 |[]=>0
 |k::ks=>kDraws k+kDrawss ks
end
mutual
theorem x2r:∀(k:Kx)(v:Value)(A:Around)(s:Shared)(Q:Int->Shared->Prop),KIs s.heap k v->A.units+k.depth<cLine->Q (kHash w k) {s with toks:=s.toks+kDraws k}->wpAny (model prog w) A (pyHash v) Q E s
 |.bl b,v,A,s,Q,x,hu,h=>by
  cases(show v=.bool b from x);refine PySem.W.pyHash_slot (T:="bool") rfl F.slot_bool_hash entry_int_hash (args_int_hash _) (beq_builtin_none _) (.inr (by omega)) ?_;cases b
  ·exact(show wpAny _ _ (do ret (<- mkInt 0)) _ _ s from wpAny_bind (wpAny_mkInt (wpAny_pure ⟨_,_,rfl,h⟩)))
  ·exact(show wpAny _ _ (do ret (<- mkInt 1)) _ _ s from wpAny_bind (wpAny_mkInt (wpAny_pure ⟨_,_,rfl,h⟩)))
 |.int i,v,A,s,Q,x,hu,h=>by
  obtain⟨t,rfl⟩:=x;exact wpAny_pyHash_int h
 |.str i,v,A,s,Q,x,hu,h=>by
  obtain⟨t,rfl⟩:=x;exact wpAny_pyHash_str h
 |.tup ks,v,A,s,Q,x,hu,h=>by
  obtain⟨a,o,it,n,rfl,h1,h2,h3,h4⟩:=x;refine PySem.W.pyHash_slot (T:="tuple") ⟨_,h1,h2⟩ F.slot_tuple_hash F.entry_tuple_hash (F.args_tuple_hash_1 _) (beq_builtin_none _) (.inr (by omega)) ?_;show wpAny _ _ (Builtin.Tuple.tupleItemsOf (.ref a) >>= _) _ _ s;refine wpAny_bind (wpAny_tupleItemsOf h1 h3 ?_);refine wpAny_bind ?_;rw[<- w3y];refine q9d ks it.toList A.in1 s #[] _ h4 (by simp only[Kx.depth,Around.in1_units]at hu |-;omega) fun b hb=>?_
  show wpAny _ _ (retInt (Builtin.Tuple.tupleHashOf b.toList)) _ _ _;rw[hb];exact wpAny_bind (wpAny_mkInt (wpAny_pure ⟨_,_,rfl,by simpa [kHash,kDraws,Nat.add_assoc]using h⟩))
theorem q9d:∀(ks:List Kx)(vs:List Value)(A:Around)(s:Shared)(b:Array Int)(Q:Array Int->Shared->Prop),KAre s.heap ks vs->A.units+Kx.depths ks<cLine ->
  (∀b',b'.toList=b.toList++kHashes w ks->Q b' {s with toks:=s.toks+kDrawss ks}) ->
  wpAny (model prog w) A (forIn vs b fun x r=>do let h <- pyHash x;pure PUnit.unit;pure (ForInStep.yield (r.push h))) Q E s
 |[],vs,A,s,b,Q,x,hu,h=>by
  cases(show vs=[]from x);exact wpAny_pure (h b (by simp[kHashes]))
 |k::ks,vs,A,s,b,Q,x,hu,h=>by
  obtain⟨v,r,rfl,h1,h2⟩:=x;simp only[Kx.depths]at hu;rw[w2d];refine wpAny_bind (wpAny_bind (x2r k v A s _ h1 (by omega) ?_));refine wpAny_bind (wpAny_pure (wpAny_pure ?_))
  exact q9d ks r A _ _ Q h2 (by omega) fun b' hb=>by
   have:=h b' (by simp[hb,kHashes])
   simpa [kDrawss,Nat.add_assoc]using this
end
theorem y0x(a b:Bool):decide (Kx.bl a=Kx.bl b)=(a==b):=by
 by_cases e:a=b
 ·subst e;simp
 ·rw[decide_eq_false (fun z=>e (by injection z))];exact(beq_eq_false_iff_ne.mpr e).symm
theorem x7k(a b:Int):decide (Kx.int a=Kx.int b)=(a==b):=by
 by_cases e:a=b
 ·subst e;simp
 ·rw[decide_eq_false (fun z=>e (by injection z))];exact(beq_eq_false_iff_ne.mpr e).symm
theorem x7l(a b:Str):decide (Kx.str a=Kx.str b)=(a==b):=by
 by_cases e:a=b
 ·subst e;simp
 ·rw[decide_eq_false (fun z=>e (by injection z))];exact(beq_eq_false_iff_ne.mpr e).symm
noncomputable def sameAt(ks ks':List Kx)(j:Nat):Bool:=decide (ks[j]?=ks'[j]?)
theorem x7m:∀ks ks':List Kx,((List.range (min ks.length ks'.length)).all (sameAt ks ks')&&ks.length==ks'.length)=decide (Kx.tup ks=Kx.tup ks'):=by
 intro ks ks'
 by_cases e:ks=ks'
 ·subst e;rw[decide_eq_true rfl];simp[sameAt]
 ·rw[decide_eq_false (fun z=>e (by injection z))]
  rw[Bool.and_eq_false_iff]
  by_cases hl:ks.length=ks'.length
  ·left
   rw[w1l];intro ha;refine e (w2p fun j=>?_)
   by_cases hj:j<ks.length
   ·have:=w0t.mp ha j (w2b.mpr (by omega));exact of_decide_eq_true this
   ·rw[w1g (by omega),w1g (by omega)]
  ·right
   simpa using hl
theorem q5t:∀(ks:List Kx){vs:List Value},KAre h ks vs->∀(j:Nat)(v:Value),vs[j]?=some v->∃k,ks[j]?=some k/\KIs h k v
 |[],vs,x,j,v,e=>by cases(show vs=[]from x);simp at e
 |k::ks,vs,x,j,v,e=>by
  obtain⟨u,r,rfl,h1,h2⟩:=x;cases j with
  |zero=>cases e;exact⟨k,rfl,h1⟩
  |succ j=>exact q5t ks h2 j v (by simpa using e)
theorem q57:∀(ks:List Kx)(j:Nat)(k:Kx),ks[j]?=some k->k.depth<=Kx.depths ks
 |[],j,k,e=>by simp at e
 |x::ks,j,k,e=>by
  simp only[Kx.depths];cases j with
  |zero=>cases e;omega
  |succ j=>have:=q57 ks j k (by simpa using e);omega
theorem q58:∀(ks:List Kx)(ss:List Sh),Confs ks ss->∀(j:Nat)(k:Kx),ks[j]?=some k->∃s,ss[j]?=some s/\Conf k s
 |[],ss,_,j,k,e=>by simp at e
 |x::ks,[],c,j,k,e=>c.elim
 |x::ks,s::ss,c,j,k,e=>by
  cases j with
  |zero=>cases e;exact⟨s,rfl,c.1⟩
  |succ j=>exact q58 ks ss c.2 j k (by simpa using e)
theorem q59:∀(ks:List Kx)(s:Sh),ConfM ks s->∀(j:Nat)(k:Kx),ks[j]?=some k->Conf k s
 |[],s,_,j,k,e=>by simp at e
 |x::ks,s,c,j,k,e=>by
  cases j with
  |zero=>cases e;exact c.1
  |succ j=>exact q59 ks s c.2 j k (by simpa using e)
theorem y75(s:Shared):∀(n:Nat)(k k':Kx)(sh:Sh)(v v':Value)(A:Around),k.depth<=n->Conf k sh->Conf k' sh->KIs s.heap k v->KIs s.heap k' v'->A.units+n<cLine->SeqAt.EqAt A s v v' (decide (k=k')):=by
 intro n
 induction n with
 |zero=>
  intro k k' sh v v' A hd c c' x y hu;cases k with
  |bl a=>
   cases sh with
   |bl=>
    cases k' with
    |bl b=>cases(show v=.bool a from x);cases(show v'=.bool b from y);rw[y0x];exact .bool_bool a b
    |_=>exact c'.elim
   |_=>exact c.elim
  |int a=>
   cases sh with
   |int=>
    cases k' with
    |int b=>obtain⟨t,rfl⟩:=x;obtain⟨u,rfl⟩:=y;rw[x7k];exact .int_int a t b u
    |_=>exact c'.elim
   |_=>exact c.elim
  |str a=>
   cases sh with
   |str=>
    cases k' with
    |str b=>obtain⟨t,rfl⟩:=x;obtain⟨u,rfl⟩:=y;rw[x7l];exact .str_str a t b u
    |_=>exact c'.elim
   |_=>exact c.elim
  |tup ks=>simp only[Kx.depth]at hd;omega
 |succ n ih=>
  intro k k' sh v v' A hd c c' x y hu;cases k with
  |bl a=>exact ih (.bl a) k' sh v v' A (w1a _) c c' x y (by omega)
  |int a=>exact ih (.int a) k' sh v v' A (w1a _) c c' x y (by omega)
  |str a=>exact ih (.str a) k' sh v v' A (w1a _) c c' x y (by omega)
  |tup ks=>
   obtain⟨a,o,it,m,rfl,h1,h2,h3,h4⟩:=x
   have tail:∀ks',k'=.tup ks'->(∀(j:Nat)(u u':Kx),ks[j]?=some u->ks'[j]?=some u'->∃s,Conf u s/\Conf u' s)->SeqAt.EqAt A s (.ref a) v' (decide (Kx.tup ks=k')):=by
    rintro ks' rfl hc;obtain⟨b,o',it',m',rfl,g1,g2,g3,g4⟩:=y
    by_cases hab:a=b
    ·subst hab;rw[h1]at g1;cases g1;rw[h3]at g3;injection g3 with e1 _
     subst e1;rw[q7c ks ks' h4 g4,decide_eq_true rfl];exact .same _
    ·have l1:=KAre.length ks h4;have l2:=KAre.length ks' g4;rw[<- x7m]
     have:=SeqAt.RcAt.tuples (A:=A) (s:=s) (e:=sameAt ks ks') (show s.heap.IsTuple a it from⟨o,h1,h2,m,h3⟩) (show s.heap.IsTuple b it' from⟨o',g1,g2,m',g3⟩) (by omega) (fun j j1 j2=>by
      obtain⟨u,u1,u2⟩:=q5t ks h4 j it[j] (by simp[j1]);obtain⟨u',u1',u2'⟩:=q5t ks' g4 j it'[j] (by simp[j2]);obtain⟨sh',c1,c2⟩:=hc j u u' u1 u1';have hdj:=q57 ks j u u1;simp only[Kx.depth]at hd;have z:=ih u u' sh' _ _ A.in1 (by omega) c1 c2 u2 u2' (by rw[Around.in1_units];omega)
      have e:sameAt ks ks' j=decide (u=u'):=by
       unfold sameAt;rw[u1,u1']
       by_cases q:u=u'
       ·rw[q];simp
       ·rw[decide_eq_false q,decide_eq_false (fun z=>q (Option.some.inj z))]
      rw[e];exact z)
     rw[show it.size=ks.length by simpa using l1,show it'.size=ks'.length by simpa using l2]at this;exact .of_refs hab this
   cases sh with
   |tup ss=>
    cases k' with
    |tup ks'=>
     refine tail ks' rfl fun j u u' e1 e2=>?_
     obtain⟨s1,q1,q2⟩:=q58 ks ss c j u e1;obtain⟨s2,q3,q4⟩:=q58 ks' ss c' j u' e2;rw[q1]at q3;cases q3;exact⟨s1,q2,q4⟩
    |_=>exact c'.elim
   |many s1=>
    cases k' with
    |tup ks'=>exact tail ks' rfl fun j u u' e1 e2=>⟨s1,q59 ks s1 c j u e1,q59 ks' s1 c' j u' e2⟩
    |_=>exact c'.elim
   |_=>exact c.elim
theorem x7n:∀(n:Nat)(k:Kx)(v:Value)(s:Shared)(Q:Bool->Shared->Prop),k.depth<=n->KIs s.heap k v->Q true s->wpAny (model prog w) A (eqIsQuiet n v) Q E s:=by
 intro n
 induction n with
 |zero=>
  intro k v s Q hd x h;cases k with
  |bl b=>cases(show v=.bool b from x);rw[eqIsQuiet_byValue _ rfl];exact wpAny_pure h
  |int i=>obtain⟨t,rfl⟩:=x;rw[eqIsQuiet_byValue _ rfl];exact wpAny_pure h
  |str i=>obtain⟨t,rfl⟩:=x;rw[eqIsQuiet_byValue _ rfl];exact wpAny_pure h
  |tup ks=>simp only[Kx.depth]at hd;omega
 |succ n ih=>
  intro k v s Q hd x h;cases k with
  |bl b=>cases(show v=.bool b from x);rw[eqIsQuiet_byValue _ rfl];exact wpAny_pure h
  |int i=>obtain⟨t,rfl⟩:=x;rw[eqIsQuiet_byValue _ rfl];exact wpAny_pure h
  |str i=>obtain⟨t,rfl⟩:=x;rw[eqIsQuiet_byValue _ rfl];exact wpAny_pure h
  |tup ks=>
   obtain⟨a,o,it,m,rfl,h1,h2,h3,h4⟩:=x;have hT:s.TypeIs (.ref a) "tuple":=⟨o,h1,h2⟩;unfold eqIsQuiet;refine wpAny_bind (wpAny_specialOf hT F.slot_tuple_eq.lookup ?_);show wpAny _ _ (isInstance (.ref a) (.type "tuple") >>= _) _ _ s;refine wpAny_bind (wpAny_isInstance hT isSubtype_tuple_tuple ?_);simp only[Bool.not_true,w2l,if_false];refine wpAny_bind (wpAny_seqItems h1 h3 ?_);refine wpAny_bind ?_;show wpAny _ _ (forIn it _ _) _ _ s;rw[<- w3y];refine wpAny_forIn_list _ (fun rest r s'=>r.1=none/\s'=s/\∀v∈rest,∃k:Kx,k.depth<=n/\KIs s.heap k v) _ ?_ ?_ _ _ ⟨rfl,rfl,fun v hv=>?_⟩
   ·rintro v rest r s' ⟨hr,rfl,hall⟩;obtain⟨k,k1,k2⟩:=hall v w1b;refine wpAny_bind (ih k v _ _ k1 k2 ?_);simp only[Bool.not_true,w2l,if_false];exact wpAny_pure ⟨rfl,rfl,fun u hu'=>hall u (w0y _ hu')⟩
   ·rintro⟨r1,r2⟩ s' ⟨hr,rfl,_⟩;simp only at hr;subst hr;exact wpAny_pure h
   ·obtain⟨j,hj,e⟩:=List.mem_iff_getElem.mp hv;obtain⟨k,k1,k2⟩:=q5t ks h4 j v (by rw[w0d hj,e]);have:=q57 ks j k k1;simp only[Kx.depth]at hd;exact⟨k,by omega,k2⟩
noncomputable def treeKind(prog:Program)(w:World)(sh:Sh):HeapKind prog w Kx where
 is:=fun h k a=>KIs h k (.ref a)/\Conf k sh/\k.depth<=7
 hash:=kHash w
 draws:=kDraws
 room:=fun A=>A.units+8<cLine
 inj:=fun hx hy=>x2q _ _ hx.1 hy.1
 keeps:=fun {h h' k a d o es ep} x ho hd hs=>⟨q9c (fun b ob e1 e2 e3=>by
  have hne:b≠d:=by
   rintro rfl;rw[ho]at e1;cases e1;obtain⟨it,n,e⟩:=e3;rw[hd]at e;cases e
  exact(hs.2 b hne).trans e1) _ x.1,x.2⟩
 pyHash:=fun {A E s k a Q} hu hk h=>x2r k _ A s Q hk.1 (by have:=hk.2.2;omega) h
 eqBool:=fun {A E s x y a b Q} hu hx hy h=>y75 s 7 x y sh _ _ A hx.2.2 hx.2.1 hy.2.1 hx.1 hy.1 (by omega) prog w E Q h
 quiet:=fun {A E s k a Q} hk h=>x7n 8 k _ s Q (by have:=hk.2.2;omega) hk.1 h
set_option Elab.async false
set_option linter.all false
set_option maxRecDepth 100000
noncomputable abbrev Key:=Sum Int Str
noncomputable def keyIs:Key->Value->Bool
 |.inl k,v=>Value.isInt k v
 |.inr x,v=>Value.isStrOf x v
noncomputable def keyH(w:World):Key->Int
 |.inl k=>hashInt k
 |.inr x=>hashStr w x
theorem q14:∀{k:Key}{v:Value},keyIs k v=true->(∃i t,k=Sum.inl i/\v=Value.int i t)\/(∃x t,k=Sum.inr x/\v=Value.str x t)
 |.inl i,v,h=>by
  obtain⟨t,e⟩:=Value.isInt_shape (k:=i) (v:=v) h;exact .inl ⟨i,t,rfl,e⟩
 |.inr x,v,h=>by
  obtain⟨t,e⟩:=Value.isStrOf_shape (x:=x) (v:=v) h;exact .inr ⟨x,t,rfl,e⟩
theorem x4r(i:Int)(t:Tok):keyIs (.inl i) (.int i t)=true:=by simp[keyIs,Value.isInt]
theorem x4s(x:Str)(t:Tok):keyIs (.inr x) (.str x t)=true:=by simp[keyIs,Value.isStrOf]
theorem y4g(a b:Int):decide ((Sum.inl a:Key)=Sum.inl b)=(a==b):=by
 by_cases e:a=b
 ·subst e;simp
 ·have h:¬(Sum.inl a:Key)=Sum.inl b:=fun q=>e (Sum.inl.inj q)
  rw[decide_eq_false h];exact(beq_eq_false_iff_ne.mpr e).symm
theorem y4h(a b:Str):decide ((Sum.inr a:Key)=Sum.inr b)=decide (a=b):=by
 by_cases e:a=b
 ·subst e;simp
 ·have h:¬(Sum.inr a:Key)=Sum.inr b:=fun q=>e (Sum.inr.inj q)
  rw[decide_eq_false h,decide_eq_false e]
theorem y4i(a:Int)(b:Str):decide ((Sum.inl a:Key)=Sum.inr b)=false:=decide_eq_false (fun q=>nomatch q)
theorem y4j(a:Str)(b:Int):decide ((Sum.inr a:Key)=Sum.inl b)=false:=decide_eq_false (fun q=>nomatch q)
noncomputable def mixKind(prog:Program)(w:World):PySem.KeyKind prog w Key where
 is:=keyIs
 hash:=keyH w
 inj:=fun v a b ha hb=>by
  rcases q14 ha with⟨i,t,rfl,rfl⟩|⟨x,t,rfl,rfl⟩
  ·rcases q14 hb with⟨j,u,rfl,e⟩|⟨y,u,rfl,e⟩
   ·injection e with e1 _;rw[e1]
   ·exact nomatch e
  ·rcases q14 hb with⟨j,u,rfl,e⟩|⟨y,u,rfl,e⟩
   ·exact nomatch e
   ·injection e with e1 _;rw[e1]
 byValue:=fun k v h=>by
  rcases q14 h with⟨i,t,rfl,rfl⟩|⟨x,t,rfl,rfl⟩<;>rfl
 pyHash:=fun hv h=>by
  rcases q14 hv with⟨i,t,rfl,rfl⟩|⟨x,t,rfl,rfl⟩
  ·exact wpAny_pyHash_int h
  ·exact wpAny_pyHash_str h
 eqBool:=fun hu hv h=>by
  rcases q14 hu with⟨i,t,rfl,rfl⟩|⟨x,t,rfl,rfl⟩
  ·rcases q14 hv with⟨j,u,rfl,rfl⟩|⟨y,u,rfl,rfl⟩
   ·rw[y4g]at h;exact wpAny_eqBool_int h
   ·rw[y4i]at h;exact SeqAt.EqAt.int_str i t y u _ _ _ _ h
  ·rcases q14 hv with⟨j,u,rfl,rfl⟩|⟨y,u,rfl,rfl⟩
   ·rw[y4j]at h;exact SeqAt.EqAt.str_int x t j u _ _ _ _ h
   ·rw[y4h]at h;exact wpAny_eqBool_str h
 «strs»:=fun k x t v h=>by
  rcases q14 h with⟨i,u,rfl,e⟩|⟨y,u,rfl,e⟩
  ·exact nomatch e
  ·injection e with e1 _
   subst e1;cases v<;>rfl
theorem x2a(prog:Program)(w:World)(i:Int)(t:Tok):(mixKind prog w).is (.inl i) (.int i t)=true:=x4r i t
theorem x2b(prog:Program)(w:World)(x:Str)(t:Tok):(mixKind prog w).is (.inr x) (.str x t)=true:=x4s x t
set_option genInjectivity true in
inductive V where
 |non|bl (b:Bool)|int (i:Int)|str (x:Str)|byt (b:Array UInt8)|flt (b:UInt64)|ref (a:Addr)|ty (n:String)
 deriving DecidableEq
variable{xs:List V}{v:V}
def RelV:V->Value->Prop
 |.non,u=>u=Value.none
 |.bl b,u=>u=Value.bool b
 |.int i,u=>∃t,u=Value.int i t
 |.str x,u=>∃t,u=Value.str x t
 |.byt b,u=>∃t,u=Value.bytes b t
 |.flt b,u=>∃t,u=Value.float b t
 |.ref a,u=>u=Value.ref a
 |.ty n,u=>u=Value.type n
abbrev Vals:List V->List Value->Prop:=Paired RelV
theorem Vals.length(r:Vals xs us):xs.length=us.length:=Paired.length r
theorem Vals.get:∀{xs:List V}{us:List Value}{i:Nat}{x:V},Vals xs us->xs[i]?=some x->∃u,us[i]?=some u/\RelV x u
 |_,_,_,_,.nil,e=>by simp at e
 |_,_,0,_,.cons r _,e=>by simp at e;subst e;exact⟨_,rfl,r⟩
 |_,_,i+1,x,.cons _ t,e=>by
  obtain⟨u,h1,h2⟩:=Vals.get (i:=i) (x:=x) t (by simpa using e);exact⟨u,by simpa using h1,h2⟩
theorem Vals.set{x:V}(r:RelV x u):∀{xs:List V}{us:List Value}(i:Nat),Vals xs us->Vals (xs.set i x) (us.set i u)
 |_,_,_,.nil=>.nil
 |_,_,0,.cons _ t=>.cons r t
 |_,_,i+1,.cons q t=>.cons q (Vals.set r i t)
theorem Vals.append:∀{xs ys:List V}{us ws:List Value},Vals xs us->Vals ys ws->Vals (xs++ys) (us++ws)
 |_,_,_,_,.nil,s=>s
 |_,_,_,_,.cons r t,s=>.cons r (Vals.append t s)
theorem Vals.take:∀{xs:List V}{us:List Value}(n:Nat),Vals xs us->Vals (xs.take n) (us.take n)
 |_,_,0,_=>.nil
 |_,_,_+1,.nil=>.nil
 |_,_,n+1,.cons r t=>.cons r (Vals.take n t)
theorem Vals.drop:∀{xs:List V}{us:List Value}(n:Nat),Vals xs us->Vals (xs.drop n) (us.drop n)
 |_,_,0,r=>r
 |_,_,_+1,.nil=>.nil
 |_,_,n+1,.cons _ t=>Vals.drop n t
def RelO:Option V->Option Value->Prop
 |some v,some u=>RelV v u
 |none,none=>True
 |_,_=>False
def KV{κ:Type}:List (κ×V)->List (κ×Value)->Prop:=Paired fun(p:κ×V) (q:κ×Value)=>p.1=q.1/\RelV p.2 q.2
noncomputable def kV:Key->V
 |.inl i=>.int i
 |.inr x=>.str x
inductive HO where
 /-- a list -/
 |lst (xs:List V)
 /-- a tuple (never changes) -/
 |tup (xs:List V)
 /-- a dict whose keys are ints and texts;one whose keys are tuples of ints and texts (the empty one is both) -/
 |dK (kvs:List (Key×V))|dT (sh:Sh) (kvs:List (Kx×V)) (kas:List Addr)
 /-- a set of ints: its members,its size -/
 |set (S:Int->Bool) (n:Nat)
 /-- an instance of the class at C,its dict at dx,its attributes -/
 |ins (C dx:Addr) (fs:List (Str×V))
 /-- the dict of the instance at x -/
 |own (x:Addr)
 /-- the dict of an exception -/
 |xd (fs:List (Str×V))
 /-- a bound method,f of x -/
 |met (f x:Addr)
 /-- a range object lo,lo+1,.. below hi -/
 |rng (lo hi:Int)
 /-- a thing that is known to the object (the script;a dict while a loop walks it): read,never written while it is so -/
 |frz (o:Obj) (u:HO)
 /-- a code object's table -/
 |tbl (ps:Array Value)
 /-- any other thing,by what is true of its one object (a def of one's own: SetO a S n:=HO.ext fun h=>..) -/
 |ext (φ:Heap->Prop)
noncomputable abbrev Hp:=Addr->Option HO
variable{H H':Hp}
def TupLike:HO->Prop
 |.tup _=>True
 |.frz _ (.tup _)=>True
 |.frz _ (.own _)=>True
 |_=>False
mutual
def KRep(H:Hp):Kx->V->Prop
 |.bl b,v=>v=.bl b
 |.int i,v=>v=.int i
 |.str x,v=>v=.str x
 |.tup ks,v=>∃a xs,v=.ref a/\(H a=some (.tup xs)\/∃o,H a=some (.frz o (.tup xs)))/\KReps H ks xs
def KReps(H:Hp):List Kx->List V->Prop
 |[],vs=>vs=[]
 |k::ks,vs=>∃v r,vs=v::r/\KRep H k v/\KReps H ks r
end
mutual
theorem KRep.keeps{H H':Hp}(ht:∀b u,TupLike u->H b=some u->H' b=some u):∀(k:Kx){v:V},KRep H k v->KRep H' k v
 |.bl _,_,x=>x
 |.int _,_,x=>x
 |.str _,_,x=>x
 |.tup ks,_,x=>by
  obtain⟨a,xs,e,q,r⟩:=x;refine⟨a,xs,e,?_,KReps.keeps ht ks r⟩;rcases q with q|⟨o,q⟩
  ·exact .inl (ht _ _ True.intro q)
  ·exact .inr ⟨o,ht _ _ True.intro q⟩
theorem KReps.keeps{H H':Hp}(ht:∀b u,TupLike u->H b=some u->H' b=some u):∀(ks:List Kx){vs:List V},KReps H ks vs->KReps H' ks vs
 |[],_,x=>x
 |k::ks,_,x=>by
  obtain⟨v,r,e,h1,h2⟩:=x;exact⟨v,r,e,KRep.keeps ht k h1,KReps.keeps ht ks h2⟩
end
noncomputable def upd(H:Hp)(a:Addr)(o:HO):Hp:=fun b=>if b=a then some o else H b
theorem q0f{o:HO}:upd H a o a=some o:=by unfold upd;rw[if_pos rfl]
theorem q0c{o:HO}(h:b≠a):upd H a o b=H b:=by unfold upd;rw[if_neg h]
theorem q0q{o u:HO}(h:H a=some o)(h':H b=some u)(d:o≠u):a≠b:=by
 intro e;subst e;rw[h]at h';exact d (Option.some.inj h')
theorem q0k{o:HO}(h:H a=some o)(h':H b=none):a≠b:=by
 intro e;subst e;rw[h]at h';cases h'
section
variable(P:Program)(w:World)
def BareT(h:Heap)(a:Addr):Prop:=∃o,h.get? a=some o/\o.dict=none
def ObjOk(H:Hp)(h:Heap)(a:Addr):HO->Prop
 |.lst xs=>xs.length<=sizeLine/\∃(its:List Value)(n:Nat),Vals xs its/\h.get? a=some {cls:=.type "list", data:=.seq its.toArray n}
 |.tup xs=>xs.length<=sizeLine/\∃its:List Value,Vals xs its/\IsTup h a its.toArray/\BareT h a
 |.dK kvs=>kvs.length<=sizeLine/\(a==sysModules)=false/\∃vs,KV kvs vs/\h.DictOf (mixKind P w) a vs
 |.dT sh kvs kas=>kvs.length<=sizeLine/\(a==sysModules)=false/\∃xs:List (Kx×Addr×Value),
   Paired (fun(p:Kx×V) (q:Kx×Addr×Value)=>p.1=q.1/\(KRep H p.1 (.ref q.2.1)/\Conf p.1 sh/\p.1.depth<=7)/\RelV p.2 q.2.2) kvs xs/\xs.map (·.2.1)=kas /\
   ∃o es ep,h.get? a=some o/\o.ExactDict/\o.data=.dict es ep/\es.toList=xs.map (entryOfKey (treeKind P w sh))/\(xs.map (·.1)).Nodup
 |.set S n=>h.SetOf (intKind P w) a S n
 |.ins C dx fs=>H dx=some (.own a)/\fs.length<=1000/\dx≠a/\h.get? a=some (PySem.W.instObj C dx) /\
   ∃mA,h.Ns1 dx mA/\(∀f,RelO (fs.lookup f) (mA f))/\PySem.Within mA (fs.map (·.1))
 |.own _=>∃o,h.get? a=some o
 |.xd fs=>∃mA,h.Ns1 a mA/\∀f,RelO (fs.lookup f) (mA f)
 |.rng lo hi=>∃t u v,h.get? a=some {cls:=.type "range", data:=.fields #[.int lo t,.int hi u,.int 1 v]}
 |.frz o u=>h.get? a=some o/\ObjOk H h a u
 |.tbl ps=>(∃(q:Str)(qs:Array Value),ps[0]?=some (.bool true)/\ps[1]?=some (.str q 0)/\h.get? a=some {cls:=.none,data:=.fields qs}/\TriplesOk qs.toList/\∀(pos:Pos)(cv:Value),codeAmong pos qs.toList=some cv ->
   ∃(c:Addr)(oc:Obj)(vs:Array Value)(t:Tok),cv=.ref c/\H c=some (.frz oc (.own 0))/\oc.data=.fields vs/\vs[1]?=some (.str q t)) \/
   ∃(q:Str)(c:Addr)(oc ob:Obj)(vs:Array Value)(t:Tok),ps[0]?=some (.bool false)/\ps[1]?=some (.str q 0)/\ps[2]?=some (.ref c)/\H c=some (.frz oc (.own 0))/\oc.data=.fields vs/\vs[1]?=some (.str q t)/\h.get? a=some ob
 |.met f x=>h.get? a=some (methodObj (.ref f) (.ref x))
 |.ext φ=>φ h/\(∃o,h.get? a=some o)/\∀h1 h2:Heap,φ h1->(∀o,h1.get? a=some o->h2.get? a=some o)->φ h2
def HOk(H:Hp)(h:Heap):Prop:=∀a o,H a=some o->ObjOk P w H h a o
end
section
variable{o:HO}
theorem ObjOk.lt(x:ObjOk P w H h a o):a<h.objs.size:=by
 cases o with
 |lst xs=>obtain⟨_,_,_,_,e⟩:=x;exact Heap.lt_size e
 |tup xs=>obtain⟨_,_,_,p,_⟩:=x;exact p.lt
 |dK kvs=>obtain⟨_,_,_,_,o,_,_,e,_⟩:=x;exact Heap.lt_size e
 |dT sh kvs kas=>obtain⟨_,_,_,_,_,o,_,_,e,_⟩:=x;exact Heap.lt_size e
 |set S n=>obtain⟨o,_,_,_,e,_⟩:=x;exact Heap.lt_size e
 |ins C dx fs=>obtain⟨_,_,_,e,_⟩:=x;exact Heap.lt_size e
 |own y=>obtain⟨_,e⟩:=x;exact Heap.lt_size e
 |xd fs=>obtain⟨_,⟨_,_,_,e,_⟩,_⟩:=x;exact Heap.lt_size e
 |rng lo hi=>obtain⟨_,_,_,e⟩:=x;exact Heap.lt_size e
 |frz ob u=>obtain⟨e,_⟩:=x;exact Heap.lt_size e
 |tbl ps=>rcases x with⟨_,_,_,_,e,_⟩|⟨_,_,_,_,_,_,_,_,_,_,_,_,e⟩<;>exact Heap.lt_size e
 |met f y=>exact Heap.lt_size (show h.get? a=some _ from x)
 |ext φ=>obtain⟨_,⟨_,e⟩,_⟩:=x;exact Heap.lt_size e
theorem Paired.mapP{α β:Type}{F G:α->β->Prop}:∀{l₁:List α}{l₂:List β},Paired F l₁ l₂->(∀a b,F a b->G a b)->Paired G l₁ l₂
 |_,_,.nil,_=>.nil
 |_,_,.cons r t,f=>.cons (f _ _ r) (Paired.mapP t f)
theorem ObjOk.stay(x:ObjOk P w H h a o)(k:∀b u,(b=a\/H b=some (.own a))->h.get? b=some u->h'.get? b=some u)
  (ho:∀b,H b=some (.own a)->H' b=some (.own a))(ht:∀b u,TupLike u->H b=some u->H' b=some u):ObjOk P w H' h' a o:=by
 induction o with
 |lst xs=>obtain⟨z,its,n,r,e⟩:=x;exact⟨z,its,n,r,k _ _ (.inl rfl) e⟩
 |tup xs=>obtain⟨z,its,r,⟨ob,e,c⟩,⟨o2,e2,c2⟩⟩:=x;exact⟨z,its,r,⟨ob,k _ _ (.inl rfl) e,c⟩,⟨o2,k _ _ (.inl rfl) e2,c2⟩⟩
 |dK kvs=>obtain⟨z,y,vs,r,ob,es,ep,e,c⟩:=x;exact⟨z,y,vs,r,ob,es,ep,k _ _ (.inl rfl) e,c⟩
 |dT sh kvs kas=>
  obtain⟨z,y,xs,r,ka,ob,es,ep,e,c⟩:=x;exact⟨z,y,xs,Paired.mapP r fun p q z=>⟨z.1,⟨KRep.keeps ht _ z.2.1.1,z.2.1.2⟩,z.2.2⟩,ka,ob,es,ep,k _ _ (.inl rfl) e,c⟩
 |set S n=>obtain⟨ob,es,ep,t,e,c⟩:=x;exact⟨ob,es,ep,t,k _ _ (.inl rfl) e,c⟩
 |ins C dx fs=>
  obtain⟨d,z,ne,e,mA,⟨od,es,ep,e2,c⟩,r⟩:=x;exact⟨ho _ d,z,ne,k _ _ (.inl rfl) e,mA,⟨od,es,ep,k _ _ (.inr d) e2,c⟩,r⟩
 |own y=>obtain⟨ob,e⟩:=x;exact⟨ob,k _ _ (.inl rfl) e⟩
 |xd fs=>obtain⟨mA,⟨od,es,ep,e,c⟩,r⟩:=x;exact⟨mA,⟨od,es,ep,k _ _ (.inl rfl) e,c⟩,r⟩
 |rng lo hi=>obtain⟨t,u,v,e⟩:=x;exact⟨t,u,v,k _ _ (.inl rfl) e⟩
 |frz ob u ih=>obtain⟨e,q⟩:=x;exact⟨k _ _ (.inl rfl) e,ih q⟩
 |tbl ps=>
  rcases x with⟨q,qs,p0,p1,e,tr,cd⟩|⟨q,c,oc,ob,vs,t,p0,p1,p2,h3,h4,h5,e⟩
  ·refine .inl ⟨q,qs,p0,p1,k _ _ (.inl rfl) e,tr,fun pos cv z=>?_⟩
   obtain⟨c,oc,vs,t,h1,h3,h4,h5⟩:=cd pos cv z;exact⟨c,oc,vs,t,h1,ht _ _ True.intro h3,h4,h5⟩
  ·exact .inr ⟨q,c,oc,ob,vs,t,p0,p1,p2,ht _ _ True.intro h3,h4,h5,k _ _ (.inl rfl) e⟩
 |met f y=>
  have e:h.get? a=some (methodObj (.ref f) (.ref y)):=x;show h'.get? a=some (methodObj (.ref f) (.ref y));exact k a _ (.inl rfl) e
 |ext φ=>obtain⟨p,⟨o,e⟩,st⟩:=x;exact⟨st _ _ p fun o q=>k _ _ (.inl rfl) q,⟨o,k _ _ (.inl rfl) e⟩,st⟩
theorem HOk.lt(x:HOk P w H h)(e:H a=some o):a<h.objs.size:=(x a o e).lt
theorem HOk.fresh(x:HOk P w H h)(e:h.objs.size<=a):H a=none:=by
 cases q:H a with
 |none=>rfl
 |some u=>exact absurd (w0m (x.lt q) e) (w1s _)
theorem HOk.kept(x:HOk P w H h)(k:∀b u,h.get? b=some u->h'.get? b=some u):HOk P w H h':=fun a o e=>
 (x a o e).stay (fun b u _ q=>k b u q) (fun _ q=>q) fun _ _ _ q=>q
theorem HOk.laid(x:HOk P w H h)(k:∀b u,h.get? b=some u->h'.get? b=some u)(hp:h.objs.size<=a)(new:ObjOk P w (upd H a o) h' a o):HOk P w (upd H a o) h':=fun b u e=>by
 have hn:=x.fresh hp
 by_cases hb:b=a
 ·subst hb;rw[q0f]at e;cases e;exact new
 ·rw[q0c hb]at e;exact(x b u e).stay (fun c v _ q=>k c v q) (fun c q=>by rw[q0c (q0k q hn)];exact q) fun c xs _ q=>by rw[q0c (q0k q hn)];exact q
end
def Rd(H:Hp)(a:Addr)(u:HO):Prop:=H a=some u\/∃o,H a=some (.frz o u)
theorem Rd.ok{u:HO}(r:Rd H a u)(x:HOk P w H h):ObjOk P w H h a u:=by
 rcases r with r|⟨o,r⟩
 ·exact x a u r
 ·obtain⟨_,q⟩:=x a _ r;exact q
def Mut:Option HO->Prop
 |some (.lst _)=>True
 |some (.dK _)=>True
 |some (.dT _ _ _)=>True
 |some (.set _ _)=>True
 |some (.ins _ _ _)=>True
 |some (.ext _)=>True
 |_=>False
section
variable{x e:Addr}{o':HO}
theorem HOk.write(ok:HOk P w H h)(mu:Mut (H x))(he:e=x\/H e=some (.own x))(k:∀b u,b≠e->h.get? b=some u->h'.get? b=some u)(heo:∃u,h'.get? e=some u)
  (new:ObjOk P w (upd H x o') h' x o'):HOk P w (upd H x o') h':=fun b u q=>by
 have nown:∀c y,H c=some (.own y)->c≠x:=fun c y r z=>by subst z;rw[r]at mu;exact mu
 have ntup:∀c u,TupLike u->H c=some u->c≠x:=fun c u t r z=>by
  subst z;rw[r]at mu;cases u<;>first|exact mu|exact t
 by_cases hb:b=x
 ·subst hb;rw[q0f]at q;cases q;exact new
 ·rw[q0c hb]at q
  by_cases hbe:b=e
  ·have q':H b=some (.own x):=by
    rcases he with z|z
    ·exact absurd (hbe.trans z) hb
    ·rw[hbe];exact z
   rw[q]at q';cases q';obtain⟨v,hv⟩:=heo;exact⟨v,by rw[hbe];exact hv⟩
  ·refine(ok b u q).stay (fun c v hc r=>k c v ?_ r) (fun c r=>by rw[q0c (nown c b r)];exact r) fun c xs t r=>by rw[q0c (ntup c xs t r)];exact r
   rcases hc with rfl|hc
   ·exact hbe
   ·rintro rfl;rcases he with z|z
    ·exact nown c b hc z
    ·rw[hc]at z;cases z;exact hb rfl
end
structure Un(fs ex:List Addr)(H H':Hp)(h h':Heap):Prop where
 keep:∀b o,h.get? b=some o->H b=none->b∉fs->b∉ex->h'.get? b=some o
 slot:∀b o,h.get? b=some o->H b=none->b∈fs->b∉ex->∃sl,h'.get? b=some {o with slots:=sl}
 free:∀b o,h.get? b=some o->H b=none->b∉ex->H' b=none
 there:∀b o,h.get? b=some o->b∉ex->∃o',h'.get? b=some o'
 tups:∀b xs,H b=some (.tup xs)->H' b=some (.tup xs)
 frzs:∀b o u,H b=some (.frz o u)->H' b=some (.frz o u)
 tbls:∀b ps,H b=some (.tbl ps)->∃more,H' b=some (.tbl (ps++more))
section
variable{fs fs' ex ex':List Addr}{H1 H2:Hp}{h1 h2:Heap}{x e:Addr}{o:HO}
theorem Un.any(u:Un fs ex H H1 h h1){ob:Obj}(q:h.get? b=some ob)(n:H b=none)(hx:b∉ex):∃sl,h1.get? b=some {ob with slots:=sl}:=by
 by_cases hb:b∈fs
 ·exact u.slot b ob q n hb hx
 ·exact⟨ob.slots,u.keep b ob q n hb hx⟩
theorem Un.kept(k:∀b u,h.get? b=some u->h'.get? b=some u):Un fs ex H H h h':=
 ⟨fun b ob q _ _ _=>k b ob q,fun b ob q _ _ _=>⟨ob.slots,k b ob q⟩,fun _ _ _ n _=>n,fun b ob q _=>⟨ob,k b ob q⟩,fun _ _ q=>q,fun _ _ _ q=>q,fun _ ps q=>⟨#[],by rw[q];simp⟩⟩
theorem Un.refl:Un fs ex H H h h:=Un.kept fun _ _ q=>q
theorem Un.laid(k:∀b u,h.get? b=some u->h'.get? b=some u)(hp:h.objs.size<=a)(hn:H a=none):Un fs ex H (upd H a o) h h' where
 keep:=fun b u q _ _ _=>k b u q
 slot:=fun b u q _ _ _=>⟨u.slots,k b u q⟩
 free:=fun b u q n _=>by rw[q0c (w0o (w0m (Heap.lt_size q) hp))];exact n
 there:=fun b u q _=>⟨u,k b u q⟩
 tups:=fun b xs q=>by rw[q0c (q0k q hn)];exact q
 frzs:=fun b u xs q=>by rw[q0c (q0k q hn)];exact q
 tbls:=fun b ps q=>⟨#[],by rw[q0c (q0k q hn),q];simp⟩
theorem Un.write(mu:Mut (H x))(he:e=x\/H e=some (.own x))(k:∀b u,b≠e->h.get? b=some u->h'.get? b=some u)(heo:∃u,h'.get? e=some u):Un fs ex H (upd H x o) h h':=by
 have hx:∀b,H b=none->b≠x:=fun b n z=>by subst z;rw[n]at mu;exact mu
 have hb:∀b,H b=none->b≠e:=fun b n z=>by
  subst z;rcases he with r|r
  ·exact hx b n r
  ·rw[n]at r;cases r
 have hm:∀b u,H b=some u->¬Mut (some u)->b≠x:=fun b u q nm z=>by subst z;rw[q]at mu;exact nm mu
 refine⟨fun b u q n _ _=>k b u (hb b n) q,fun b u q n _ _=>⟨u.slots,k b u (hb b n) q⟩,fun b u q n _=>by rw[q0c (hx b n)];exact n,fun b u q _=>?_,
  fun b xs q=>by rw[q0c (hm b _ q fun z=>z)];exact q,fun b u xs q=>by rw[q0c (hm b _ q fun z=>z)];exact q,fun b ps q=>⟨#[],by rw[q0c (hm b _ q fun z=>z),q];simp⟩⟩
 by_cases hbe:b=e
 ·subst hbe;exact heo
 ·exact⟨u,k b u hbe q⟩
end
noncomputable def trk(h:Heap)(H:Hp):List Addr:=(List.range h.objs.size).filter fun a=>(H a).isSome
noncomputable def hidT(h:Heap)(H:Hp):Heap:=PySem.W.hideAll h (trk h H)
theorem q9e(h:Heap)(H:Hp):(hidT h H).objs.size=h.objs.size:=PySem.W.hideAll_size _ _
theorem x0u{o:Obj}(e:h.get? b=some o)(n:H b=none):(hidT h H).get? b=some o:=
 hideAll_get _ e fun hm=>by
  have q:(H b).isSome=true:=(w3o.mp hm).2;rw[n]at q;simp at q
theorem x2s{o:Obj}(e:(hidT h H).get? b=some o):h.get? b=some o/\H b=none:=by
 have e':h.get? b=some o:=PySem.W.of_hideAll (trk h H) e;refine⟨e',?_⟩;cases q:H b with
 |none=>rfl
 |some x=>
  have hm:b∈trk h H:=w3o.mpr ⟨w2b.mpr (Heap.lt_size e'),by simp[q]⟩;have z:(hidT h H).get? b=none:=PySem.W.hideAll_none (trk h H) hm;rw[z]at e;cases e
noncomputable def allNews(g h:Heap)(L:Addr):List (Addr×Obj):=(List.range h.objs.size).filterMap fun a=>if a=L\/(g.get? a).isSome=true then none else(h.get? a).map fun o=>(a,o)
noncomputable def rest(g h:Heap)(L d:Addr):List (Addr×Obj):=(allNews g h L).filter fun p=>decide (p.1≠d)
structure Mod(K:PySem.W.Frag)(mg:Str->Option Value)(base:Heap):Prop where
 kin:K.In base
 glob:base.Ns mainGlobals mg
 blt:∃mb,base.Ns builtinsNs mb/\∀x:Str,x≠"__name__"->mb x=bootBuiltins x
 nolimit:base.NoLimit
structure Cx where
 prog:Program
 w:World
 K:PySem.W.Frag
 mg:Str->Option Value
 base:Heap
 A:Around
 N:List Str
 s₀:Shared
 H₀:Hp
 env:Env
 outer:List Env
 stack:List Env
 ex:List Addr
 fn:Str->Bool
 calm:Bool
 pn:List (Addr×Obj)
 xe:Value->Shared->Prop
variable{X:Cx}
noncomputable def frs(l:List Env):List Addr:=l.filterMap (·.frame)
noncomputable abbrev Cx.fs(X:Cx):List Addr:=frs X.outer
def Vis(sc:Scope)(x:Str):Prop:=sc.names.lookup x=some .local\/sc.names.lookup x=some .cell\/sc.names.lookup x=some .free
def Loc(sc:Scope)(x:Str):Prop:=sc.names.lookup x=some .local\/sc.names.lookup x=some .cell
def Look(env:Env)(h:Heap)(m:Str->Option Value)(x:Str)(u:Value):Prop:=
 (env.kindOf x=some .local/\m x=some u)\/((env.kindOf x=some .cell\/env.kindOf x=some .free)/\∃c,env.cells.lookup x=some c/\h.IsCell c (some u))
noncomputable abbrev markO(P:Addr)(q:Str):Obj:={cls:=.str q 0,data:=.fields #[.ref P]}
def TabOk(K:PySem.W.Frag)(H:Hp):Prop:=∀(a:Addr)(q:Str)(P:Addr),(a,markO P q)∈K->∃ps:Array Value,H P=some (.tbl ps)/\ps[0]?=some (.bool true)/\ps[1]?=some (.str q 0)
noncomputable def noMark(K:PySem.W.Frag):Bool:=K.all fun p=>match p.2.cls with
 |.str _ _=>false
 |_=>true
theorem TabOk.vac(h:noMark K=true):TabOk K H:=fun a q P m=>by
 have:=w0t.mp h _ m;cases this
theorem TabOk.un{fs ex:List Addr}{h':Heap}(t:TabOk K H)(u:Un fs ex H H' h h'):TabOk K H':=fun a q P m=>by
 obtain⟨ps,e,p0,p1⟩:=t a q P m;obtain⟨more,e'⟩:=u.tbls P ps e;refine⟨_,e',?_,?_⟩
 ·rw[w1j (by obtain⟨z,_⟩:=w1q.mp p0;exact z)];exact p0
 ·rw[w1j (by obtain⟨z,_⟩:=w1q.mp p1;exact z)];exact p1
theorem TabOk.laid{D:Addr}{o:HO}(t:TabOk K H)(hn:H D=none):TabOk K (upd H D o):=fun a q P m=>by
 obtain⟨ps,e,p⟩:=t a q P m;exact⟨ps,by rw[q0c (q0k e hn)];exact e,p⟩
structure Cx.Ok(X:Cx):Prop where
 mod:Mod X.K X.mg X.base
 kind:X.env.scope.kind=.function
 glob:X.env.globals=mainGlobals
 blt:X.env.builtins=builtinsNs
 above:X.s₀.heap.objs.size<=X.env.locals
 inj:∀x y c,X.env.cells.lookup x=some c->X.env.cells.lookup y=some c->x=y
 has:∀x,(X.env.kindOf x=some .cell\/X.env.kindOf x=some .free)->∃c,X.env.cells.lookup x=some c
 cab:∀x c,X.fn x=true->X.env.cells.lookup x=some c->X.s₀.heap.objs.size<=c
 hd:X.calm=true->X.A.handled=none
 frames:X.A.frames=some X.stack
 stk:X.stack=X.outer\/(X.stack=X.env::X.outer/\X.env.frame=some X.env.locals)
 exf:∀b∈X.ex,b≠X.env.locals/\∀x c,X.env.cells.lookup x=some c->c≠b
 bs:∀b o,X.base.get? b=some o->X.s₀.heap.get? b=some o/\X.H₀ b=none
 bsz:X.base.objs.size<=X.s₀.heap.objs.size
 noex:∀b o,X.base.get? b=some o->b∉X.ex
 exfs:∀b∈X.ex,b∉X.fs
 funs:X.s₀.heap.FunFrames X.base X.outer
 frf:∀b∈X.fs,X.H₀ b=none
 tab:TabOk X.K X.H₀
structure Inv(X:Cx)(pins:List (Addr×Obj))(σ:List (Option V))(H:Hp)(s:Shared):Prop where
 ok:X.Ok
 os:s.os=X.s₀.os
 bare:AllBare s.gens
 base:Un X.fs X.ex X.H₀ H X.s₀.heap s.heap
 loc:∃m,s.heap.Ns X.env.locals m/\∀(i:Nat)(x:Str)(v:V),X.N[i]?=some x->σ[i]?=some (some v)->Vis X.env.scope x->∃u,RelV v u/\Look X.env s.heap m x u
 cell:∀x c,X.env.cells.lookup x=some c->∃v,s.heap.IsCell c v
 free:H X.env.locals=none
 freeC:∀x c,X.env.cells.lookup x=some c->H c=none
 pin:∀p∈X.pn++pins,s.heap.get? p.1=some p.2/\H p.1=none/\p.1≠X.env.locals/\p.1∉X.fs/\∀v,p.2.data≠.cell v
 hok:HOk X.prog X.w H s.heap
 len:σ.length=X.N.length
section
variable{σ:List (Option V)}
theorem Cx.Ok.nofr(ok:X.Ok){o:Obj}(e:X.base.get? b=some o):b∉X.fs:=fun hb=>by
 have:=(ok.funs.mem hb).1
 rw[e]at this;cases this
theorem Inv.bs(I:Inv X pins σ H s):∀b o,X.base.get? b=some o->s.heap.get? b=some o/\H b=none:=fun b o e=>
 ⟨I.base.keep b o (I.ok.bs b o e).1 (I.ok.bs b o e).2 (I.ok.nofr e) (I.ok.noex b o e),I.base.free b o (I.ok.bs b o e).1 (I.ok.bs b o e).2 (I.ok.noex b o e)⟩
theorem Inv.bk(I:Inv X pins σ H s):∀b o,X.base.get? b=some o->s.heap.get? b=some o:=fun b o e=>(I.bs b o e).1
theorem Inv.mod(I:Inv X pins σ H s):Mod X.K X.mg X.base:=I.ok.mod
theorem Inv.kIn(I:Inv X pins σ H s):X.K.In s.heap:=I.ok.mod.kin.keeps I.bk
theorem Inv.fr(I:Inv X pins σ H s):∃m,Fr X.base X.env.locals s.heap m:=
 let ⟨m,hn,_⟩:=I.loc
 ⟨m,hn,I.bk,w0w I.ok.bsz I.ok.above⟩
theorem Inv.lt(I:Inv X pins σ H s):X.env.locals<s.heap.objs.size:=let ⟨_,hn,_⟩:=I.loc;hn.lt
theorem Inv.sz(I:Inv X pins σ H s):X.s₀.heap.objs.size<=s.heap.objs.size:=w0w I.ok.above (w4c I.lt)
theorem Inv.nofs(I:Inv X pins σ H s)(h:s.heap.objs.size<=a):a∉X.fs:=fun hb=>by
 obtain⟨_,o,ho,_⟩:=I.ok.funs.mem hb
 exact absurd (w0m (Heap.lt_size ho) (w0w I.sz h)) (w1s _)
theorem Inv.cne(I:Inv X pins σ H s):∀x c,X.env.cells.lookup x=some c->c≠X.env.locals:=fun x c e z=>by
 obtain⟨v,o,ho,hd⟩:=I.cell x c e;obtain⟨m,⟨o',es,ep,ho',hd',_⟩,_⟩:=I.loc;rw[z,ho']at ho;cases ho;rw[hd']at hd;cases hd
theorem Inv.funs(I:Inv X pins σ H s):s.heap.FunFrames X.base X.outer:=by
 have all:∀(l:List Env),(∀b∈frs l,b∈X.fs)->X.s₀.heap.FunFrames X.base l->s.heap.FunFrames X.base l:=by
  intro l
  induction l with
  |nil=>intro _ _;trivial
  |cons env r ih=>
   intro hs hl;obtain⟨hk,⟨L,o,hf,hn,ho,hd⟩,hr⟩:=hl;have hL:L∈X.fs:=hs L (by unfold frs;rw[w2v,hf];exact w1b);obtain⟨sl,e⟩:=I.base.slot L o ho (I.ok.frf L hL) hL fun z=>I.ok.exfs L z hL
   exact⟨hk,⟨L,_,hf,hn,e,hd⟩,ih (fun b hb=>hs b (by unfold frs;rw[w2v,hf];exact w0y _ hb)) hr⟩
 exact all X.outer (fun _ hb=>hb) I.ok.funs
theorem Inv.stack(I:Inv X pins σ H s):s.heap.FunFrames X.base X.stack:=by
 rcases I.ok.stk with e|⟨e,hf⟩
 ·rw[e];exact I.funs
 ·rw[e];obtain⟨m,hn,_⟩:=I.loc;refine .cons (by rw[I.ok.kind];decide) hf hn ?_ I.funs
  exact Heap.get?_none_of_le (w0w I.ok.bsz I.ok.above)
theorem Inv.stkSub(I:Inv X pins σ H s):∀b∈frs X.stack,b∈X.env.locals::X.fs:=fun b hb=>by
 rcases I.ok.stk with e|⟨e,hf⟩
 ·rw[e]at hb;exact w0y _ hb
 ·rw[e]at hb;unfold frs at hb;rw[w2v,hf]at hb;exact hb
theorem Inv.stkFree(I:Inv X pins σ H s):∀b∈frs X.stack,H b=none:=fun b hb=>by
 rcases w0p.mp (I.stkSub b hb)with e|hb
 ·rw[e];exact I.free
 ·obtain⟨_,o,ho,_⟩:=I.ok.funs.mem hb
  exact I.base.free b o ho (I.ok.frf b hb) fun z=>I.ok.exfs b z hb
theorem Inv.step{g':Array GenState}{d':Drawn}{ch:List Addr}(I:Inv X pins σ H s)
  (hch:∀b∈ch,(b∈X.ex\/X.s₀.heap.objs.size<=b)/\b≠X.env.locals/\(∀x c,X.env.cells.lookup x=some c->c≠b)/\∀p∈X.pn++pins,p.1≠b)
  (keep:∀b o,b≠X.env.locals->b∉X.fs->b∉ch->s.heap.get? b=some o->H b=none->h'.get? b=some o)
  (slot:∀b o,b≠X.env.locals->b∈X.fs->b∉ch->s.heap.get? b=some o->H b=none->∃sl,h'.get? b=some {o with slots:=sl})(free:∀b o,b∉ch->s.heap.get? b=some o->H b=none->H' b=none)
  (there:∀b o,b∉ch->s.heap.get? b=some o->∃o',h'.get? b=some o')
  (tups:∀b xs,H b=some (.tup xs)->H' b=some (.tup xs))(frzs:∀b o u,H b=some (.frz o u)->H' b=some (.frz o u))(tbls:∀b ps,H b=some (.tbl ps)->∃more,H' b=some (.tbl (ps++more)))
  (ns:∀m,s.heap.Ns X.env.locals m->h'.Ns X.env.locals m)(hok:HOk X.prog X.w H' h')(hg:AllBare g'):
  Inv X pins σ H' {s with heap:=h',gens:=g',drawn:=d',toks:=t'}:=by
 have neL:∀b o,X.s₀.heap.get? b=some o->b≠X.env.locals:=fun b o e=>w0o (w0m (Heap.lt_size e) I.ok.above)
 have neC:∀b o,X.s₀.heap.get? b=some o->b∉X.ex->b∉ch:=fun b o e hx hb=>by
  rcases(hch b hb).1 with z|z
  ·exact hx z
  ·exact absurd (w0m (Heap.lt_size e) z) (w1s _)
 have cellK:∀x c,X.env.cells.lookup x=some c->∀v,s.heap.IsCell c v->h'.IsCell c v:=fun x c e v ⟨o,ho,hd⟩=>by
  have nch:c∉ch:=fun z=>(hch c z).2.2.1 x c e rfl
  by_cases hc:c∈X.fs
  ·obtain⟨sl,q⟩:=slot c o (I.cne x c e) hc nch ho (I.freeC x c e);exact⟨_,q,hd⟩
  ·exact⟨o,keep c o (I.cne x c e) hc nch ho (I.freeC x c e),hd⟩
 refine⟨I.ok,I.os,hg,⟨fun b o e n hb hx=>?_,fun b o e n hb hx=>?_,fun b o e n hx=>?_,fun b o e hx=>?_,fun b xs e=>tups b xs (I.base.tups b xs e),fun b o xs e=>frzs b o xs (I.base.frzs b o xs e),fun b ps e=>?_⟩,?_,fun x c e=>?_,?_,fun x c e=>?_,fun p hp=>?_,hok,I.len⟩
 ·exact keep b o (neL b o e) hb (neC b o e hx) (I.base.keep b o e n hb hx) (I.base.free b o e n hx)
 ·obtain⟨sl,e1⟩:=I.base.slot b o e n hb hx;obtain⟨sl',e2⟩:=slot b _ (neL b o e) hb (neC b o e hx) e1 (I.base.free b o e n hx);exact⟨sl',e2⟩
 ·obtain⟨o',e1⟩:=I.base.there b o e hx;exact free b o' (neC b o e hx) e1 (I.base.free b o e n hx)
 ·obtain⟨o',e1⟩:=I.base.there b o e hx;exact there b o' (neC b o e hx) e1
 ·obtain⟨m1,e1⟩:=I.base.tbls b ps e;obtain⟨m2,e2⟩:=tbls b _ e1;exact⟨m1++m2,by rw[e2,Array.append_assoc]⟩
 ·obtain⟨m,hn,hl⟩:=I.loc;refine⟨m,ns m hn,fun i x v e1 e2 e3=>?_⟩
  obtain⟨u,r,l⟩:=hl i x v e1 e2 e3;refine⟨u,r,?_⟩;rcases l with l|⟨k,c,e,z⟩
  ·exact .inl l
  ·exact .inr ⟨k,c,e,cellK x c e _ z⟩
 ·obtain⟨v,z⟩:=I.cell x c e;exact⟨v,cellK x c e v z⟩
 ·obtain⟨m,⟨o,_,_,ho,_⟩,_⟩:=I.loc;exact free _ o (fun z=>(hch _ z).2.1 rfl) ho I.free
 ·obtain⟨v,o,ho,hd⟩:=I.cell x c e;exact free c o (fun z=>(hch c z).2.2.1 x c e rfl) ho (I.freeC x c e)
 ·obtain⟨e,n,ne,nf,d⟩:=I.pin p hp;have nch:p.1∉ch:=fun z=>(hch p.1 z).2.2.2 p hp rfl
  exact⟨keep p.1 p.2 ne nf nch e n,free p.1 p.2 nch e n,ne,nf,d⟩
theorem Inv.un(I:Inv X pins σ H s)(u:Un X.fs [] H H' s.heap h')(hok:HOk X.prog X.w H' h'):Inv X pins σ H' {s with heap:=h',toks:=t'}:=by
 obtain⟨m,⟨o,es,ep,ho,r⟩,_⟩:=id I.loc;obtain⟨sl,hL⟩:=u.any ho I.free (by simp)
 exact I.step (g':=s.gens) (d':=s.drawn) (ch:=[]) (fun _ z=>nomatch z) (fun b o _ hb _ e n=>u.keep b o e n hb (by simp)) (fun b o _ hb _ e n=>u.slot b o e n hb (by simp)) (fun b o _ e n=>u.free b o e n (by simp)) (fun b o _ e=>u.there b o e (by simp)) u.tups u.frzs u.tbls (fun m' hm=>by
  obtain⟨o',es',ep',ho',r'⟩:=hm;rw[ho]at ho';cases ho';exact⟨_,es',ep',hL,r'⟩) hok I.bare
theorem Inv.call{g':Array GenState}{d':Drawn}(I:Inv X pins σ H s)(u:Un (frs X.stack) ch H H' s.heap h')(hok:HOk X.prog X.w H' h')(hg:AllBare g')
  (hch:∀b∈ch,(b∈X.ex\/X.s₀.heap.objs.size<=b)/\b≠X.env.locals/\(∀x c,X.env.cells.lookup x=some c->c≠b)/\∀p∈X.pn++pins,p.1≠b):
  Inv X pins σ H' {s with heap:=h',gens:=g',drawn:=d',toks:=t'}:=by
 obtain⟨m,⟨o,es,ep,ho,r⟩,_⟩:=id I.loc;obtain⟨sl,hL⟩:=u.any ho I.free fun z=>(hch _ z).2.1 rfl
 exact I.step (ch:=ch) hch (fun b o hL hb hc e n=>u.keep b o e n (fun z=>(w0p.mp (I.stkSub b z)).elim hL hb) hc) (fun b o _ _ hc e n=>u.any e n hc) (fun b o hc e n=>u.free b o e n hc) (fun b o hc e=>u.there b o e hc) u.tups u.frzs u.tbls (fun m' hm=>by
  obtain⟨o',es',ep',ho',r'⟩:=hm;rw[ho]at ho';cases ho';exact⟨_,es',ep',hL,r'⟩) hok hg
theorem Inv.turned{t':Nat}{it:Addr}(I:Inv X pins σ H s)(k:∀b o,b≠it->s.heap.get? b=some o->h'.get? b=some o)(hn:H it=none)(hL:it≠X.env.locals)
  (h1:it∈X.ex\/X.s₀.heap.objs.size<=it)(h2:∀x c,X.env.cells.lookup x=some c->c≠it)(h3:∀p∈X.pn++pins,p.1≠it):Inv X pins σ H {s with heap:=h',toks:=t'}:=by
 have nit:∀b u,H b=some u->b≠it:=fun b u e z=>by rw[z,hn]at e;cases e
 refine I.step (g':=s.gens) (d':=s.drawn) (ch:=[it]) (fun b hb=>?_) (fun b o _ _ hc e _=>k b o (fun z=>hc (by simp[z])) e) (fun b o _ _ hc e _=>⟨o.slots,k b o (fun z=>hc (by simp[z])) e⟩) (fun _ _ _ _ n=>n)
  (fun b o hc e=>⟨o,k b o (fun z=>hc (by simp[z])) e⟩) (fun _ _ e=>e) (fun _ _ _ e=>e) (fun b ps e=>⟨#[],by rw[e];simp⟩) (fun m hm=>?_) (fun b u e=>?_) I.bare
 ·have e:b=it:=by simpa using hb
  subst e;exact⟨h1,hL,h2,h3⟩
 ·obtain⟨o,es,ep,ho,r⟩:=hm;exact⟨o,es,ep,k _ o (Ne.symm hL) ho,r⟩
 ·refine(I.hok b u e).stay (fun c v hc q=>k c v ?_ q) (fun _ q=>q) fun _ _ _ q=>q
  rcases hc with z|z
  ·rw[z];exact nit b u e
  ·exact nit c _ z
theorem Inv.tok(I:Inv X pins σ H s)(t:Nat):Inv X pins σ H {s with toks:=t}:=I.un (h':=s.heap) (t':=t) Un.refl I.hok
theorem Inv.kept{t':Nat}(I:Inv X pins σ H s)(k:∀b u,s.heap.get? b=some u->h'.get? b=some u):Inv X pins σ H {s with heap:=h',toks:=t'}:=I.un (Un.kept k) (I.hok.kept k)
theorem Inv.laid{a:Addr}{o:HO}{t':Nat}(I:Inv X pins σ H s)(k:∀b u,s.heap.get? b=some u->h'.get? b=some u)(hp:s.heap.objs.size<=a)(new:ObjOk X.prog X.w (upd H a o) h' a o):
  Inv X pins σ (upd H a o) {s with heap:=h',toks:=t'}:=I.un (Un.laid k hp (I.hok.fresh hp)) (I.hok.laid k hp new)
theorem Inv.write{x e:Addr}{o:HO}(I:Inv X pins σ H s)(mu:Mut (H x))(he:e=x\/H e=some (.own x))(k:∀b u,b≠e->s.heap.get? b=some u->h'.get? b=some u)(heo:∃u,h'.get? e=some u)
  (new:ObjOk X.prog X.w (upd H x o) h' x o):Inv X pins σ (upd H x o) {s with heap:=h',toks:=t'}:=I.un (Un.write mu he k heo) (I.hok.write mu he k heo new)
theorem Inv.weak{σ':List (Option V)}(I:Inv X pins σ H s)(hl:σ'.length=σ.length)(w:∀(i:Nat) v,σ'[i]?=some (some v)->σ[i]?=some (some v)):Inv X pins σ' H s:=
 ⟨I.ok,I.os,I.bare,I.base,let ⟨m,hn,hl'⟩:=I.loc;⟨m,hn,fun i x v e1 e2 e3=>hl' i x v e1 (w i v e2) e3⟩,I.cell,I.free,I.freeC,I.pin,I.hok,hl.trans I.len⟩
theorem Inv.pins_of{pins':List (Addr×Obj)}(I:Inv X pins σ H s)(h:∀p∈pins',s.heap.get? p.1=some p.2/\H p.1=none/\p.1≠X.env.locals/\p.1∉X.fs/\∀v,p.2.data≠.cell v):Inv X pins' σ H s:=
 ⟨I.ok,I.os,I.bare,I.base,I.loc,I.cell,I.free,I.freeC,fun p hp=>(w1h.mp hp).elim (fun z=>I.pin p (w2f _ z)) (h p),I.hok,I.len⟩
theorem x0v(hN:N.Nodup){j:Nat}(a:N[i]?=some x)(b:N[j]?=some x):i=j:=by
 obtain⟨h1,e1⟩:=w0a.mp a;obtain⟨h2,e2⟩:=w0a.mp b;exact(List.getElem_inj hN).mp (e1.trans e2.symm)
theorem x4t{M:Model}{Q:Unit->Shared->Prop}(I:Inv X pins σ H s)(hN:X.N.Nodup)(hi:X.N[i]?=some x)(hx:Loc X.env.scope x)(r:RelV v u)
  (h:∀s',Inv X pins (σ.set i (some v)) H s'->(∃a,Heap.SameBut a s.heap s'.heap/\(a=X.env.locals\/X.env.cells.lookup x=some a))->Q () s')(hf:X.fn x=true\/X.env.scope.names.lookup x=some .local:=by walk_at "2"):wpAny M A (storeName X.env x u) Q E s:=by
 obtain⟨m,hn,hl⟩:=id I.loc;have hcls:(X.env.scope.kind==.class||(X.env.scope.kind==.module&&X.env.locals != X.env.globals))=false:=by rw[I.ok.kind];rfl
 have hiσ:i<σ.length:=by rw[I.len];exact(w0a.mp hi).1
 have cne:=I.cne
 have tracked:∀{a:Addr}{h':Heap},(∃o,s.heap.get? a=some o/\H a=none)->Heap.SameBut a s.heap h'->HOk X.prog X.w H h':=fun {a h'} ha hs b ob e=>by
  obtain⟨_,_,hfree⟩:=ha;refine(I.hok b ob e).stay (fun c w' hc q=>(hs.2 c ?_).trans q) (fun _ q=>q) fun _ _ _ q=>q
  rintro rfl;rcases hc with rfl|hc
  ·rw[hfree]at e;cases e
  ·rw[hfree]at hc;cases hc
 rcases hx with hk|hk
 ·refine wpAny_storeName_local hk hn (fun h' hn' hs=>?_) hcls
  obtain⟨oL,_,_,hoL,_⟩:=id hn;refine h _ ⟨I.ok,I.os,I.bare,⟨fun b o e n hb hx=>?_,fun b o e n hb hx=>?_,I.base.free,fun b o e hx=>?_,I.base.tups,I.base.frzs,I.base.tbls⟩,⟨_,hn',fun j y v' e1 e2 e3=>?_⟩,fun y c e=>?_,I.free,I.freeC,fun p hp=>?_,tracked ⟨oL,hoL,I.free⟩ hs,by simpa using I.len⟩ ⟨_,hs,.inl rfl⟩
  ·exact(hs.2 b (w0o (w0m (Heap.lt_size e) I.ok.above))).trans (I.base.keep b o e n hb hx)
  ·obtain⟨sl,e1⟩:=I.base.slot b o e n hb hx;exact⟨sl,(hs.2 b (w0o (w0m (Heap.lt_size e) I.ok.above))).trans e1⟩
  ·obtain⟨o',e1⟩:=I.base.there b o e hx;exact⟨o',(hs.2 b (w0o (w0m (Heap.lt_size e) I.ok.above))).trans e1⟩
  ·by_cases hj:j=i
   ·subst hj;rw[hi]at e1;cases e1;rw[w0f hiσ]at e2;cases e2;exact⟨u,r,.inl ⟨hk,by simp⟩⟩
   ·rw[w0e (Ne.symm hj)]at e2;obtain⟨u',r',q⟩:=hl j y v' e1 e2 e3;refine⟨u',r',?_⟩;rcases q with⟨k,e⟩|⟨k,c,e,z⟩
    ·refine .inl ⟨k,?_⟩;have:y≠x:=fun e=>hj (x0v hN e1 (e ▸ hi))
     simp[this,e]
    ·exact .inr ⟨k,c,e,z.sameBut hs (cne y c e)⟩
  ·obtain⟨w',z⟩:=I.cell y c e;exact⟨w',z.sameBut hs (cne y c e)⟩
  ·obtain⟨e,n,ne,nf,d⟩:=I.pin p hp;exact⟨(hs.2 p.1 ne).trans e,n,ne,nf,d⟩
 ·have hfn:X.fn x=true:=by
   rcases hf with z|z
   ·exact z
   ·rw[z]at hk;cases hk
  obtain⟨c,hc⟩:=I.ok.has x (.inl hk);obtain⟨w',z⟩:=I.cell x c hc;refine wpAny_storeName_cell I.ok.kind hk hc z (fun h' hc' hs=>?_)
  obtain⟨oc,hoc,hocd⟩:=id z;refine h {s with heap:=h'} ⟨I.ok,I.os,I.bare,⟨fun b o e n hb hx=>?_,fun b o e n hb hx=>?_,I.base.free,fun b o e hx=>?_,I.base.tups,I.base.frzs,I.base.tbls⟩,⟨m,hn.sameBut hs (Ne.symm (cne x c hc)),fun j y v' e1 e2 e3=>?_⟩,fun y c' e=>?_,I.free,I.freeC,fun p hp=>?_,tracked ⟨oc,hoc,I.freeC x c hc⟩ hs,by simpa using I.len⟩ ⟨c,hs,.inr hc⟩
  ·exact(hs.2 b (w0o (w0m (Heap.lt_size e) (I.ok.cab x c hfn hc)))).trans (I.base.keep b o e n hb hx)
  ·obtain⟨sl,e1⟩:=I.base.slot b o e n hb hx;exact⟨sl,(hs.2 b (w0o (w0m (Heap.lt_size e) (I.ok.cab x c hfn hc)))).trans e1⟩
  ·obtain⟨o',e1⟩:=I.base.there b o e hx;exact⟨o',(hs.2 b (w0o (w0m (Heap.lt_size e) (I.ok.cab x c hfn hc)))).trans e1⟩
  ·by_cases hj:j=i
   ·subst hj;rw[hi]at e1;cases e1;rw[w0f hiσ]at e2;cases e2;exact⟨u,r,.inr ⟨.inl hk,c,hc,hc'⟩⟩
   ·rw[w0e (Ne.symm hj)]at e2;obtain⟨u',r',q⟩:=hl j y v' e1 e2 e3;refine⟨u',r',?_⟩;rcases q with q|⟨k,c',e,z'⟩
    ·exact .inl q
    ·refine .inr ⟨k,c',e,z'.sameBut hs ?_⟩;rintro rfl;exact hj (x0v hN e1 (I.ok.inj _ _ _ e hc ▸ hi))
  ·by_cases hcc:c'=c
   ·subst hcc;exact⟨_,hc'⟩
   ·obtain⟨w2,z2⟩:=I.cell y c' e;exact⟨w2,z2.sameBut hs hcc⟩
  ·obtain⟨e,n,ne,nf,d⟩:=I.pin p hp;refine⟨(hs.2 p.1 ?_).trans e,n,ne,nf,d⟩;intro q;rw[q,hoc]at e;have q':oc=p.2:=Option.some.inj e;exact d w' (by rw[<- q'];exact hocd)
theorem q7d{M:Model}{Q:Unit->Shared->Prop}(I:Inv X pins σ H s)(hN:X.N.Nodup)(hi:X.N[i]?=some x)(hx:Loc X.env.scope x)(r:RelV v u)
  (h:∀s',Inv X pins (σ.set i (some v)) H s'->Q () s')(hf:X.fn x=true\/X.env.scope.names.lookup x=some .local:=by walk_at "2"):wpAny M A (storeName X.env x u) Q E s:=
 x4t I hN hi hx r (fun s' I' _=>h s' I') hf
theorem Inv.call'{s':Shared}{ch:List Addr}(I:Inv X pins σ H s)(ho:s'.os=s.os)(u:Un (frs X.stack) ch H H' s.heap s'.heap)(hok:HOk X.prog X.w H' s'.heap)(hg:AllBare s'.gens)
  (hch:∀b∈ch,(b∈X.ex\/X.s₀.heap.objs.size<=b)/\b≠X.env.locals/\(∀x c,X.env.cells.lookup x=some c->c≠b)/\∀p∈X.pn++pins,p.1≠b):Inv X pins σ H' s':=by
 obtain⟨h',g',d',t',o'⟩:=s';have e:o'=s.os:=ho;subst e;exact I.call (g':=g') (t':=t') (d':=d') u hok hg hch
end
abbrev XK:=Value->Option Addr->Hp->Prop
noncomputable abbrev St:=List (Option V)
variable{σ:St}
abbrev VK:=V->Hp->Prop
abbrev TE:=St->Hp->VK->Prop
variable{ta te:TE}
abbrev TT:=St->Hp->(Bool->Hp->Prop)->Prop
abbrev TA:=St->Hp->(List V->Hp->Prop)->Prop
structure Ends where
 nx:St->Hp->Prop
 rt:VK
 bk:St->Hp->Prop:=fun _ _=>False
 ct:St->Hp->Prop:=fun _ _=>False
abbrev TS:=Ends->St->Hp->Prop
variable{tb:TS}
def EP(X:Cx)(pins:List (Addr×Obj))(σ:St)(Q:VK)(u:Value)(s':Shared):Prop:=∃v H',Inv X pins σ H' s'/\RelV v u/\Q v H'
def TP(X:Cx)(pins:List (Addr×Obj))(σ:St)(Q:Bool->Hp->Prop)(b:Bool)(s':Shared):Prop:=∃H',Inv X pins σ H' s'/\Q b H'
def AP(X:Cx)(pins:List (Addr×Obj))(σ:St)(Q:List V->Hp->Prop)(us:List Value)(s':Shared):Prop:=∃vs H',Inv X pins σ H' s'/\Vals vs us/\Q vs H'
def SP(X:Cx)(pins:List (Addr×Obj))(D:Ends)(f:Flow)(s':Shared):Prop:=
 match f with
 |.next=>∃σ' H',Inv X pins σ' H' s'/\D.nx σ' H'
 |.brk=>∃σ' H',Inv X pins σ' H' s'/\D.bk σ' H'
 |.cont=>∃σ' H',Inv X pins σ' H' s'/\D.ct σ' H'
 |.ret u=>∃v σ' H',Inv X pins σ' H' s'/\RelV v u/\D.rt v H'
def PE(X:Cx)(e:Expr)(t:TE):Prop:=
 ∀(pins:List (Addr×Obj))(s:Shared)(σ:St)(H:Hp)(Q:VK),Inv X pins σ H s->t σ H Q->wpAny (model X.prog X.w) X.A (eval e X.env) (EP X pins σ Q) X.xe s
def PT(X:Cx)(e:Expr)(t:TT):Prop:=
 ∀(pins:List (Addr×Obj))(s:Shared)(σ:St)(H:Hp)(Q:Bool->Hp->Prop),Inv X pins σ H s->t σ H Q->wpAny (model X.prog X.w) X.A (isTrue e X.env (eval e X.env)) (TP X pins σ Q) X.xe s
def PW(X:Cx)(e:Expr)(t:TT):Prop:=
 ∀(whole:Sem Value)(pins:List (Addr×Obj))(s:Shared)(σ:St)(H:Hp)(Q:Bool->Hp->Prop),Inv X pins σ H s->t σ H Q->wpAny (model X.prog X.w) X.A (isTrue e X.env whole) (TP X pins σ Q) X.xe s
theorem PW.pt{t:TT}(h:PW X e t):PT X e t:=h _
def PA(X:Cx)(es:List Expr)(t:TA):Prop:=
 ∀(pos:Pos)(pins:List (Addr×Obj))(s:Shared)(σ:St)(H:Hp)(Q:List V->Hp->Prop),Inv X pins σ H s->t σ H Q->wpAny (model X.prog X.w) X.A (spliced (backTo pos (starEach es X.env))) (AP X pins σ Q) X.xe s
def PS(X:Cx)(st:Stmt)(t:TS):Prop:=
 ∀(pins:List (Addr×Obj))(s:Shared)(σ:St)(H:Hp)(D:Ends),Inv X pins σ H s->t D σ H->wpAny (model X.prog X.w) X.A (exec st X.env) (SP X pins D) X.xe s
def PSs(X:Cx)(st:List Stmt)(t:TS):Prop:=
 ∀(pins:List (Addr×Obj))(s:Shared)(σ:St)(H:Hp)(D:Ends),Inv X pins σ H s->t D σ H->wpAny (model X.prog X.w) X.A (execs st X.env) (SP X pins D) X.xe s
theorem thn{α:Type}{t:Sem α}{Q Q':α->Shared->Prop}{M:Model}(h:wpAny M A t Q E s)(hQ:∀a s,Q a s->Q' a s):wpAny M A t Q' E s:=wpAny_mono h hQ fun _ _ x=>x
section
def tVar(i:Nat):TE:=fun σ H Q=>∃v,σ[i]?=some (some v)/\Q v H
def tC(v:V):TE:=fun _ H Q=>Q v H
theorem y4k(hN:X.N[i]?=some x)(hv:Vis X.env.scope x)(hd:(x==("__debug__":Str))=false:=by decide)(hcd:(x==("__classdict__":Str))=false:=by decide):PE X (.Name x pos) (tVar i):=by
 intro pins s σ H Q I h;obtain⟨v,e,h⟩:=h;obtain⟨m,hn,hl⟩:=I.loc;obtain⟨u,r,l⟩:=hl i x v hN e hv;have fin:EP X pins σ Q u s:=⟨v,H,I,r,h⟩;rcases l with⟨hk,hm⟩|⟨hk,c,hc,hcell⟩
 ·exact wpAny_Name (wpAny_loadName_local I.ok.kind hk hn hm fin) hd
 ·rcases hk with hk|hk
  ·exact wpAny_Name (wpAny_loadName_cell I.ok.kind hk hc hcell fin) hd
  ·exact wpAny_Name (wpAny_loadName_free I.ok.kind hk hc hcell fin hcd) hd
theorem q7z{i j pos}:PE X (.Constant (.int i) j pos) (tC (.int i)):=fun _ _ _ H _ I h=>wpAny_Constant_int ⟨.int i,H,I.tok _,⟨_,rfl⟩,h⟩
theorem y76{b j pos}:PE X (.Constant (.bool b) j pos) (tC (.bl b)):=fun _ _ _ H _ I h=>Constant_bool ⟨.bl b,H,I,rfl,h⟩
theorem x4u{j pos}:PE X (.Constant .none j pos) (tC .non):=fun _ _ _ H _ I h=>Constant_none ⟨.non,H,I,rfl,h⟩
theorem y4l{x j pos}:PE X (.Constant (.str x) j pos) (tC (.str x)):=fun _ _ _ H _ I h=>Calls.Constant_str ⟨.str x,H,I.tok _,⟨_,rfl⟩,h⟩
def Gl(X:Cx)(x:Str):Prop:=X.env.kindOf x=some .globalImplicit
theorem q34{Q:Value->Shared->Prop}(I:Inv X pins σ H s)(hg:Gl X x)(hm:X.mg x=some u)(h:Q u s)
  (hd:(x==("__debug__":Str))=false:=by decide):wpAny (model X.prog X.w) X.A (eval (.Name x pos) X.env) Q E s:=
 Calls.Name_function_global I.ok.kind hg (Calls.loadGlobal_global (by rw[I.ok.glob];exact I.mod.glob.keeps I.bk) hm h) hd
theorem q4y{Q:Value->Shared->Prop}(I:Inv X pins σ H s)(hg:Gl X x)(hm:X.mg x=none)(hv:bootBuiltins x=some u)(h:Q u s)
  (hn:x≠"__name__":=by decide)(hd:(x==("__debug__":Str))=false:=by decide):wpAny (model X.prog X.w) X.A (eval (.Name x pos) X.env) Q E s:=by
 obtain⟨mb,h1,h2⟩:=I.mod.blt;exact Calls.Name_function_global I.ok.kind hg (Calls.loadGlobal_builtin (by rw[I.ok.glob];exact I.mod.glob.keeps I.bk) hm (by rw[I.ok.blt];exact h1.keeps I.bk) ((h2 x hn).trans hv) h) hd
theorem y0y{v:V}(hg:Gl X x)(hm:X.mg x=some u)(r:RelV v u)(hd:(x==("__debug__":Str))=false:=by decide):PE X (.Name x pos) (tC v):=
 fun _ _ _ H _ I h=>q34 I hg hm ⟨v,H,I,r,h⟩ hd
theorem y0z{v:V}(hg:Gl X x)(hm:X.mg x=none)(hv:bootBuiltins x=some u)(r:RelV v u)(hn:x≠"__name__":=by decide)(hd:(x==("__debug__":Str))=false:=by decide):PE X (.Name x pos) (tC v):=
 fun _ _ _ H _ I h=>q4y I hg hm hv ⟨v,H,I,r,h⟩ hn hd
variable{a b:Expr}{tb:TE}
def PC(X:Cx)(op:CmpOp)(a b:Expr)(t:TE):Prop:=
 ∀(pins:List (Addr×Obj))(s:Shared)(σ:St)(H:Hp)(Q:VK),Inv X pins σ H s->t σ H Q ->
  wpAny (model X.prog X.w) X.A (eval a X.env) (fun v s₁=>wpAny (model X.prog X.w) X.A (eval b X.env) (fun u s₂=>wpAny (model X.prog X.w) X.A (compareOp op v u) (EP X pins σ Q) X.xe s₂) X.xe s₁) X.xe s
theorem nobehind(b:Expr)(h:op≠.In)(h2:op≠.NotIn):behindInMarks op b=false:=by
 have e1:(op==CmpOp.In)=false:=by cases op<;>first|rfl|exact absurd rfl h
 have e2:(op==CmpOp.NotIn)=false:=by cases op<;>first|rfl|exact absurd rfl h2
 cases b<;>simp[behindInMarks,e1,e2]
def tB(t:TE):TT:=fun σ H Q=>t σ H fun x H1=>∃c,x=.bl c/\Q c H1
theorem y4m{t:TE}(h:PC X op a b t)(h1:behindInMarks op b=false:=by first|exact nobehind _ (by decide) (by decide)|rfl):PT X (.Compare a [op] [b] pos) (tB t):=by
 intro pins s σ H Q I hw;refine wpAny_isTrue_Compare1 (thn (h pins s σ H _ I hw) fun v s1 h1=>thn h1 fun u s2 h2=>thn h2 fun c s3 ⟨x,H1,I1,r1,q1⟩=>?_) h1
 obtain⟨d,rfl,q⟩:=q1;cases r1;exact wpAny_truthy_bool ⟨H1,I1,q⟩
variable{tA tB':TT}{rest:List Expr}
def tAnd(t u:TT):TT:=fun σ H Q=>t σ H fun c H1=>if c=true then u σ H1 Q else Q false H1
def tOr(t u:TT):TT:=fun σ H Q=>t σ H fun c H1=>if c=true then Q true H1 else u σ H1 Q
def tNot(t:TT):TT:=fun σ H Q=>t σ H fun c H1=>Q (!c) H1
theorem y00(ha:PT X a tA):PW X (.BoolOp .And [a] pos) tA:=by
 intro wh pins s σ H Q I h;refine isTrue_and (thn (ha pins s σ H Q I h) fun c s1 e=>?_)
 cases c with
 |true=>exact isTrue_and_nil e
 |false=>exact e
theorem y4n(ha:PT X a tA):PW X (.BoolOp .Or [a] pos) tA:=by
 intro wh pins s σ H Q I h;refine isTrue_or (thn (ha pins s σ H Q I h) fun c s1 e=>?_)
 cases c with
 |false=>exact isTrue_or_nil e
 |true=>exact e
theorem y4o(ha:PT X a tA)(hb:PW X (.BoolOp .And (b::rest) pos) tB'):PW X (.BoolOp .And (a::b::rest) pos) (tAnd tA tB'):=by
 intro wh pins s σ H Q I h;refine isTrue_and (thn (ha pins s σ H _ I h) fun c s1 ⟨H1,I1,q1⟩=>?_)
 cases c with
 |true=>exact hb wh pins s1 σ H1 Q I1 q1
 |false=>exact⟨H1,I1,q1⟩
theorem y77(ha:PT X a tA)(hb:PW X (.BoolOp .Or (b::rest) pos) tB'):PW X (.BoolOp .Or (a::b::rest) pos) (tOr tA tB'):=by
 intro wh pins s σ H Q I h;refine isTrue_or (thn (ha pins s σ H _ I h) fun c s1 ⟨H1,I1,q1⟩=>?_)
 cases c with
 |true=>exact⟨H1,I1,q1⟩
 |false=>exact hb wh pins s1 σ H1 Q I1 q1
theorem y4p(ha:PT X a tA):PT X (.UnaryOp .Not a pos) (tNot tA):=by
 intro pins s σ H Q I h;exact isTrue_not (ha pins s σ H (fun c H1=>Q (!c) H1) I h)
def tAndV(ta tb:TE):TE:=fun σ H Q=>ta σ H fun x H1=>∃c,x=.bl c/\if c=true then tb σ H1 Q else Q (.bl false) H1
def tOrV(ta tb:TE):TE:=fun σ H Q=>ta σ H fun x H1=>∃c,x=.bl c/\if c=true then Q (.bl true) H1 else tb σ H1 Q
theorem y4q{op}{t:TE}(h:PE X a t):PE X (.BoolOp op [a] pos) t:=fun pins s σ H Q I hw=>BoolOp_one (h pins s σ H Q I hw)
theorem y4r(ha:PE X a ta)(hb:PE X (.BoolOp .And (b::rest) pos) tb):PE X (.BoolOp .And (a::b::rest) pos) (tAndV ta tb):=by
 intro pins s σ H Q I h;refine BoolOp_and (thn (ha pins s σ H _ I h) fun v s1 ⟨x,H1,I1,r1,q1⟩=>?_)
 obtain⟨c,rfl,q1⟩:=q1;cases r1;refine wpAny_truthy_bool ?_;cases c with
 |true=>exact hb pins s1 σ H1 Q I1 q1
 |false=>exact⟨.bl false,H1,I1,rfl,q1⟩
theorem y78(ha:PE X a ta)(hb:PE X (.BoolOp .Or (b::rest) pos) tb):PE X (.BoolOp .Or (a::b::rest) pos) (tOrV ta tb):=by
 intro pins s σ H Q I h;refine BoolOp_or (thn (ha pins s σ H _ I h) fun v s1 ⟨x,H1,I1,r1,q1⟩=>?_)
 obtain⟨c,rfl,q1⟩:=q1;cases r1;refine wpAny_truthy_bool ?_;cases c with
 |false=>exact hb pins s1 σ H1 Q I1 q1
 |true=>exact⟨.bl true,H1,I1,rfl,q1⟩
end
def SqL(K:PySem.W.Frag)(H:Hp)(a:Addr)(xs:List V):Prop:=
 Rd H a (.lst xs) \/
  ∃(o:Obj)(its:Array Value)(n:Nat),K.lookup a=some o/\o.cls=.type "list" /\ o.dict=none/\o.data=.seq its n/\its.size<=sizeLine/\Vals xs its.toList
def SqT(K:PySem.W.Frag)(H:Hp)(a:Addr)(xs:List V):Prop:=
 Rd H a (.tup xs) \/
  ∃(o:Obj)(its:Array Value)(n:Nat),K.lookup a=some o/\o.cls=.type "tuple" /\ o.dict=none/\o.data=.seq its n/\its.size<=sizeLine/\Vals xs its.toList
noncomputable def absV:Value->Option V
 |.none=>some .non
 |.bool b=>some (.bl b)
 |.int i _=>some (.int i)
 |.str x _=>some (.str x)
 |.bytes b _=>some (.byt b)
 |.float b _=>some (.flt b)
 |.ref a=>some (.ref a)
 |.type n=>some (.ty n)
 |_=>none
theorem RelV.abs{x:V}(r:RelV x u):absV u=some x:=by
 cases x with
 |non=>cases r;rfl
 |bl _=>cases r;rfl
 |int _=>obtain⟨t,rfl⟩:=r;rfl
 |str _=>obtain⟨t,rfl⟩:=r;rfl
 |byt _=>obtain⟨t,rfl⟩:=r;rfl
 |flt _=>obtain⟨t,rfl⟩:=r;rfl
 |ref _=>cases r;rfl
 |ty _=>cases r;rfl
theorem RelV.inj{x y:V}(r:RelV x u)(q:RelV y u):x=y:=Option.some.inj (r.abs.symm.trans q.abs)
theorem Vals.inj:∀{xs ys:List V}{us:List Value},Vals xs us->Vals ys us->xs=ys
 |_,_,_,.nil,.nil=>rfl
 |_,_,_,.cons r t,.cons r' t'=>by rw[r.inj r',Vals.inj t t']
section
variable{ys:List V}
theorem SqL.of(h:H a=some (.lst xs)):SqL K H a xs:=.inl (.inl h)
theorem SqT.of(h:H a=some (.tup xs)):SqT K H a xs:=.inl (.inl h)
theorem Inv.list(I:Inv X pins σ H s)(h:SqL X.K H a xs):∃its:List Value,Vals xs its/\PlainL s.heap a its.toArray/\xs.length<=sizeLine:=by
 rcases h with h|⟨o,its,n,hk,hc,hd,hs,hz,r⟩
 ·obtain⟨z,its,n,r,e⟩:=h.ok I.hok;exact⟨its,r,⟨_,n,e,rfl,rfl,rfl⟩,z⟩
 ·refine⟨its.toList,r,⟨o,n,I.kIn a o hk,hc,hd,by simpa using hs⟩,?_⟩;have e:=r.length;simp only[w2w]at e;omega
theorem Inv.tuple(I:Inv X pins σ H s)(h:SqT X.K H a xs):∃its:List Value,Vals xs its/\IsTup s.heap a its.toArray/\xs.length<=sizeLine:=by
 rcases h with h|⟨o,its,n,hk,hc,_,hs,hz,r⟩
 ·obtain⟨z,its,r,p,_⟩:=h.ok I.hok;exact⟨its,r,p,z⟩
 ·refine⟨its.toList,r,⟨o,I.kIn a o hk,hc,n,by simpa using hs⟩,?_⟩;have e:=r.length;simp only[w2w]at e;omega
theorem Inv.list_inj(I:Inv X pins σ H s)(h:SqL X.K H a xs)(h':SqL X.K H a ys):xs=ys:=by
 obtain⟨its,r,⟨o,n,e,_,_,d⟩,_⟩:=I.list h;obtain⟨its',r',⟨o',n',e',_,_,d'⟩,_⟩:=I.list h';rw[e]at e';cases e';rw[d]at d';injection d' with d1 _
 have:its=its':=by simpa using congrArg Array.toList d1
 subst this;exact r.inj r'
theorem Inv.tuple_inj(I:Inv X pins σ H s)(h:SqT X.K H a xs)(h':SqT X.K H a ys):xs=ys:=by
 obtain⟨its,r,⟨o,e,_,n,d⟩,_⟩:=I.tuple h;obtain⟨its',r',⟨o',e',_,n',d'⟩,_⟩:=I.tuple h';rw[e]at e';cases e';rw[d]at d';injection d' with d1 _
 have:its=its':=by simpa using congrArg Array.toList d1
 subst this;exact r.inj r'
end
section
variable{st:Stmt}{rest:List Stmt}{t u:TS}
def tNext:TS:=fun D σ H=>D.nx σ H
def tSeq(t u:TS):TS:=fun D σ H=>t {D with nx:=u D} σ H
theorem y01:PSs X [] tNext:=fun _ _ σ H _ I h=>wpAny_execs_nil ⟨σ,H,I,h⟩
theorem x7o(h1:PS X st t)(h2:PSs X rest u):PSs X (st::rest) (tSeq t u):=by
 intro pins s σ H D I h;refine wpAny_execs_cons (thn (h1 pins s σ H {D with nx:=u D} I h) fun f s1 q=>?_)
 cases f with
 |next=>
  obtain⟨σ',H',I',q⟩:=q;exact h2 pins s1 σ' H' D I' q
 |ret v=>exact q
 |brk=>exact q
 |cont=>exact q
theorem y02(h1:PS X st t):PSs X [st] t:=by
 intro pins s σ H D I h;refine wpAny_execs_cons (thn (h1 pins s σ H D I h) fun f s1 q=>?_)
 cases f with
 |next=>exact wpAny_execs_nil q
 |ret v=>exact q
 |brk=>exact q
 |cont=>exact q
theorem Inv.quiet(I:Inv X pins σ H s):interactive X.env=false:=by simp[interactive,I.ok.kind]
def tDrop(te:TE):TS:=fun D σ H=>te σ H fun _ H1=>D.nx σ H1
theorem q6u(he:PE X e te)(hs:swapsWith e none pos.line X.env=pure false:=by rfl):PS X (.Expr e pos) (tDrop te):=by
 intro pins s σ H D I h;exact wpAny_Expr_any (thn (he pins s σ H _ I h) fun v s1 ⟨x,H1,I1,r1,q1⟩=>⟨σ,H1,I1,q1⟩) I.quiet hs
def tRet(te:TE):TS:=fun D σ H=>te σ H D.rt
theorem x4v(he:PE X e te):PS X (.Return (some e) pos) (tRet te):=by
 intro pins s σ H D I h;exact wpAny_Return_some (thn (he pins s σ H _ I h) fun v s1 ⟨x,H1,I1,r1,q1⟩=>⟨x,σ,H1,I1,r1,q1⟩)
def tIfS(c:TT)(t u:TS):TS:=fun D σ H=>c σ H fun b H1=>if b=true then t D σ H1 else u D σ H1
theorem y79{a b:List Stmt}{tc:TT}(hc:PT X c tc)(ha:PSs X a t)(hb:PSs X b u):PS X (.If c a b pos) (tIfS tc t u):=by
 intro pins s σ H D I h;refine wpAny_If (thn (hc pins s σ H _ I h) fun d s1 ⟨H1,I1,q1⟩=>?_)
 cases d with
 |true=>exact ha pins s1 σ H1 D I1 q1
 |false=>exact hb pins s1 σ H1 D I1 q1
end
abbrev TG:=V->St->Hp->(St->Hp->Prop)->Prop
abbrev TGs:=List V->St->Hp->(St->Hp->Prop)->Prop
def PG(X:Cx)(target:Expr)(t:TG):Prop:=
 ∀(pins:List (Addr×Obj))(s:Shared)(σ:St)(H:Hp)(v:V)(u:Value)(Q:St->Hp->Prop),Inv X pins σ H s->RelV v u->t v σ H Q ->
  wpAny (model X.prog X.w) X.A (assign target X.env u) (fun _ s'=>∃σ' H',Inv X pins σ' H' s'/\Q σ' H') X.xe s
def PGs(X:Cx)(ts:List Expr)(t:TGs):Prop:=
 ∀(pins:List (Addr×Obj))(s:Shared)(σ:St)(H:Hp)(vs:List V)(us:List Value)(Q:St->Hp->Prop),Inv X pins σ H s->Vals vs us->t vs σ H Q ->
  wpAny (model X.prog X.w) X.A (assignInOrder ((assignEach ts X.env).map (·.2)) us) (fun _ s'=>∃σ' H',Inv X pins σ' H' s'/\Q σ' H') X.xe s
abbrev TSet:=V->V->V->Hp->(Hp->Prop)->Prop
def PSet(X:Cx)(t:TSet):Prop:=
 ∀(pins:List (Addr×Obj))(s:Shared)(σ:St)(H:Hp)(o i v:V)(ov iv u:Value)(Q:Hp->Prop),Inv X pins σ H s->RelV o ov->RelV i iv->RelV v u->t o i v H Q ->
  wpAny (model X.prog X.w) X.A (setItem ov iv u) (fun _ s'=>∃H',Inv X pins σ H' s'/\Q H') X.xe s
def gName(i:Nat):TG:=fun v σ H Q=>Q (σ.set i (some v)) H
theorem y03(hN:X.N.Nodup)(hi:X.N[i]?=some x)(hx:Loc X.env.scope x)(hf:X.fn x=true\/X.env.scope.names.lookup x=some .local:=by walk_at "2"):PG X (.Name x pos) (gName i):=by
 intro pins s σ H v u Q I r h;exact wpAny_assign_Name (q7d I hN hi hx r (fun s' I'=>⟨_,H,I',h⟩) hf)
noncomputable def gNil:TGs:=fun vs σ H Q=>vs=[]/\Q σ H
noncomputable def gCons(t:TG)(u:TGs):TGs:=fun vs σ H Q=>∃v r,vs=v::r/\t v σ H fun σ' H'=>u r σ' H' Q
theorem x2t:PGs X [] gNil:=by
 intro pins s σ H vs us Q I r h;obtain⟨e,h⟩:=h;subst e;cases r;exact assignInOrder_nil ⟨σ,H,I,h⟩
theorem q5u{t:TG}{u:TGs}(h1:PG X e t)(h2:PGs X es u)
  (hs:(assignEach (e::es) X.env).map (·.2)=assign e X.env::(assignEach es X.env).map (·.2):=by rfl):PGs X (e::es) (gCons t u):=by
 intro pins s σ H vs us Q I r h;obtain⟨v,vr,e1,h⟩:=h;subst e1;cases r with
 |cons r rr=>
  rw[hs];refine assignInOrder_cons (thn (h1 pins s σ H _ _ _ I r h) fun _ s1 ⟨σ1,H1,I1,q1⟩=>?_)
  exact h2 pins s1 σ1 H1 _ _ Q I1 rr q1
def gTup(K:PySem.W.Frag)(n:Nat)(t:TGs):TG:=fun v σ H Q=>∃a xs,v=.ref a/\SqT K H a xs/\xs.length=n/\t xs σ H Q
theorem x4w{t:TGs}{n:Nat}(hc:X.calm=true)(h:PGs X es t)
  (hn:(assignEach es X.env).length=n:=by rfl)(hst:(assignEach es X.env).findIdx? (·.1)=none:=by rfl):PG X (.Tuple es k pos) (gTup X.K n t):=by
 intro pins s σ H v u Q I r hw;obtain⟨a,xs,e1,hq,hl,hw⟩:=hw;subst e1;cases r;obtain⟨its,rv,ht,hz⟩:=I.tuple hq;refine assign_Tuple_tuple (I.ok.hd hc) ht (by simp[hn,<- hl,rv.length]) hst fun h' hx=>?_
 have I1:Inv X pins σ H {s with heap:=h'}:=I.kept (t':=s.toks) fun b o e=>hx b o (w0o (Heap.lt_size e)) e
 exact h pins _ σ H xs _ Q I1 (by simpa using rv) hw
def gSub(to ti:TE)(t:TSet):TG:=fun v σ H Q=>to σ H fun o H1=>ti σ H1 fun i H2=>t o i v H2 fun H3=>Q σ H3
theorem y4s{o i:Expr}{to ti:TE}{t:TSet}(ho:PE X o to)(hi:PE X i ti)(hs:PSet X t)
  (ha:∀v,assign (.Subscript o i pos) X.env v=(do
   let ov <- holding [v] (eval o X.env)
   let iv <- holding [v,ov] (eval i X.env)
   standAt pos
   holding [v,ov,iv] (setItem ov iv v)
   release [v,ov,iv] []):=by intro _;rfl):PG X (.Subscript o i pos) (gSub to ti t):=by
 intro pins s σ H v u Q I r h;rw[ha];refine wpAny_bind (wpAny_holding (thn (ho pins s σ H _ I h) fun ov s1 ⟨x,H1,I1,r1,q1⟩=>?_))
 refine wpAny_bind (wpAny_holding (thn (hi pins s1 σ H1 _ I1 q1) fun iv s2 ⟨y,H2,I2,r2,q2⟩=>?_))
 refine wpAny_bind (wpAny_standAt (wpAny_bind (wpAny_holding (thn (hs pins s2 σ H2 x y v ov iv u _ I2 r1 r2 r q2) fun _ s3 ⟨H3,I3,q3⟩=>?_))))
 exact wpAny_release ⟨σ,H3,I3,q3⟩
def tAsg(te:TE)(g:TG):TS:=fun D σ H=>te σ H fun x H1=>g x σ H1 D.nx
theorem y4t{g:TG}(he:PE X e te)(hg:PG X tg g)(hs:swapsWithSole [tg] e pos.line X.env=pure false:=by rfl)(hw:swappedStores [tg] e X.env=pure none:=by rfl)
  (h1:(assignEach [tg] X.env).map (·.2)=[assign tg X.env]:=by rfl):PS X (.Assign [tg] e pos) (tAsg te g):=by
 intro pins s σ H D I h;refine wpAny_Assign_stores (thn (he pins s σ H _ I h) fun v s1 ⟨x,H1,I1,r1,q1⟩=>?_) hs hw
 rw[h1];exact thn (hg pins s1 σ H1 x v _ I1 r1 q1) fun _ s2 q=>q
theorem y4u{pos':Pos}(hN:X.N.Nodup)(hi:X.N[i]?=some x)(hx:Loc X.env.scope x)(he:PE X e te)(hs:swapsWith e (some (.Name x pos')) pos.line X.env=pure false:=by rfl)(hf:X.fn x=true\/X.env.scope.names.lookup x=some .local:=by walk_at "2"):
  PS X (.Assign [.Name x pos'] e pos) (tAsg te (gName i)):=by
 intro pins s σ H D I h;refine wpAny_Assign_Name (thn (he pins s σ H _ I h) fun v s1 ⟨y,H1,I1,r1,q1⟩=>?_) hs
 exact q7d I1 hN hi hx r1 (fun s2 I2=>⟨_,H1,I2,q1⟩) hf
def tWhile(c:TT)(tb:TS):TS:=fun D σ H=>∃W:Nat->St->Hp->Prop,(∃m,W m σ H)/\∀m σ H,W m σ H ->
 c σ H fun b H1=>if b=true then ∃N:St->Hp->Prop,(∀σ' H',N σ' H'->∃m',m'<m/\W m' σ' H')/\tb {D with nx:=N,ct:=N,bk:=D.nx} σ H1 else D.nx σ H1
theorem x7p{body:List Stmt}{tc:TT}(hp:PassesOwn (model X.prog X.w) X.A X.env X.xe)(hc:PT X c tc)(hb:PSs X body tb):PS X (.While c body [] pos) (tWhile tc tb):=by
 intro pins s σ H D I h;obtain⟨W,⟨m0,w0⟩,turn⟩:=h;refine wpAny_While (codeAny_whileLoop (fun n s'=>∃σ' H',Inv X pins σ' H' s'/\W n σ' H') ?_ m0 ⟨σ,H,I,w0⟩)
 rintro n s1 ⟨σ1,H1,I1,w1⟩;refine wpAny_passesOwn hp (thn (hc pins s1 σ1 H1 _ I1 (turn n σ1 H1 w1)) fun b s2 ⟨H2,I2,q2⟩=>?_)
 cases b with
 |true=>
  obtain⟨N,hN,q2⟩:=q2;rw[if_pos rfl];refine wpAny_passesOwn hp (thn (hb pins s2 σ1 H2 _ I2 q2) fun f s3 q3=>?_)
  cases f with
  |next=>
   obtain⟨σ3,H3,I3,n3⟩:=q3;obtain⟨m',hm,w3⟩:=hN σ3 H3 n3;exact⟨m',hm,σ3,H3,I3,w3⟩
  |cont=>
   obtain⟨σ3,H3,I3,n3⟩:=q3;obtain⟨m',hm,w3⟩:=hN σ3 H3 n3;exact⟨m',hm,σ3,H3,I3,w3⟩
  |brk=>exact q3
  |ret v=>exact q3
 |false=>
  rw[if_neg w1t];exact wpAny_execs_nil ⟨σ1,H2,I2,q2⟩
structure It where
 go:Nat->Hp->Prop
 yld:Nat->Hp->V->Hp->Prop
 stop:Nat->Hp->Prop
def FpOk(X:Cx)(pins:List (Addr×Obj))(H:Hp)(b:Addr):Prop:=
 H b=none/\b≠X.env.locals/\b∉X.fs/\(b∈X.ex\/X.s₀.heap.objs.size<=b)/\(∀x c,X.env.cells.lookup x=some c->c≠b)/\∀p∈X.pn++pins,p.1≠b
theorem Inv.fpOk(I:Inv X pins σ H s)(hb:s.heap.objs.size<=b)(hn:H' b=none):FpOk X pins H' b:=by
 refine⟨hn,w3p (w0m I.lt hb),I.nofs hb,.inr (w0w I.sz hb),fun x c e z=>?_,fun p hp z=>?_⟩
 ·obtain⟨v,q⟩:=I.cell x c e;exact absurd (w0m q.lt (by rw[z];exact hb)) (w1s _)
 ·exact absurd (w0m (Heap.lt_size (I.pin p hp).1) (by rw[z];exact hb)) (w1s _)
structure Turn(P:Program)(w:World)(K:PySem.W.Frag)(tg:Expr)(J:It)(fp:List Addr)(it:Addr)(tn:Nat->Heap->Prop):Prop where
 mem:it∈fp
 obj:∀i h,tn i h->∀b∈fp,∃o,h.get? b=some o/\∀v,o.data≠.cell v
 keep:∀i h h',tn i h->(∀b∈fp,∀o,h.get? b=some o->h'.get? b=some o)->tn i h'
 item:∀(X:Cx),X.prog=P->X.w=w->X.K=K->X.calm=true->∀(i:Nat)(pins:List (Addr×Obj))(s:Shared)(σ:St)(H:Hp)(E:Value->Shared->Prop),Inv X pins σ H s->(∀b∈fp,FpOk X pins H b)->tn i s.heap->J.go i H ->
  wpAny (model P w) X.A (pyNext (.ref it)) (fun r s1=>∃u,r=some u /\
   wpAny (model P w) X.A (letOwnedTupleGo tg (.ref it) u) (fun _ s2=>∃x H',Inv X pins σ H' s2/\RelV x u/\J.yld i H x H'/\tn (i+1) s2.heap/\∀b∈fp,H' b=none) E s1) E s
 done:∀(X:Cx),X.prog=P->X.w=w->X.K=K->X.calm=true->∀(i:Nat)(pins:List (Addr×Obj))(s:Shared)(σ:St)(H:Hp)(E:Value->Shared->Prop),Inv X pins σ H s->(∀b∈fp,FpOk X pins H b)->tn i s.heap->J.stop i H ->
  wpAny (model P w) X.A (pyNext (.ref it)) (fun r s1=>r=none/\Inv X pins σ H s1) E s
 self:∀(A:Around)(i:Nat)(s:Shared)(Q:Value->Shared->Prop)(E:Value->Shared->Prop),tn i s.heap->Q (.ref it) s->wpAny (model P w) A (pyIter (.ref it)) Q E s
abbrev TI:=St->Hp->(It->Hp->Prop)->Prop
def PIE(X:Cx)(pins:List (Addr×Obj))(σ:St)(tg:Expr)(R:It->Hp->Prop)(itv:Value)(s2:Shared):Prop:=
 ∃(it:Addr)(fp:List Addr)(tn:Nat->Heap->Prop)(J:It)(H':Hp),itv=.ref it/\Inv X pins σ H' s2/\Turn X.prog X.w X.K tg J fp it tn/\tn 0 s2.heap/\(∀b∈fp,FpOk X pins H' b)/\R J H'
def PI(X:Cx)(tg iter:Expr)(wi:TI):Prop:=
 ∀(pins:List (Addr×Obj))(s:Shared)(σ:St)(H:Hp)(R:It->Hp->Prop),Inv X pins σ H s->wi σ H R ->
  wpAny (model X.prog X.w) X.A (eval iter X.env) (fun v s1=>wpAny (model X.prog X.w) X.A (pyIter v) (PIE X pins σ tg R) X.xe s1) X.xe s
theorem x3o{M : Model}{E : Value -> Shared -> Prop}{s : Shared}{it : Addr}{o : Obj}{n : String}{vs : Array Value}{Q : Unit -> Shared -> Prop}(ho : s.heap.get? it = some o)(hc : o.cls = .type n)(hd : o.data = .fields vs)
    (hn : ["enumerate", "zip", "dict_itemiterator", "dict_reverseitemiterator", "odict_iterator", "itertools.zip_longest", "itertools.pairwise"].contains n = false)(hQ : Q () s) : wpAny M A (letOwnedTupleGo tg (.ref it) u) Q E s := by
  unfold letOwnedTupleGo
  cases tg <;> first
    | exact wpAny_pure hQ
    | (cases u <;> first
        | exact wpAny_pure hQ
        | (refine wpAny_bind (wpAny_load ho ?_)
           rw [hc, hd];show wpAny M A (if (["enumerate", "zip", "dict_itemiterator", "dict_reverseitemiterator", "odict_iterator", "itertools.zip_longest", "itertools.pairwise"].contains n && vs[0]? == some (rawInt _)) = true then _ else _) Q E s;rw [if_neg (by intro h; rw [hn, Bool.false_and] at h; cases h)];exact wpAny_pure hQ))
noncomputable def Itl(K:PySem.W.Frag)(a:Addr):It:=
 ⟨fun i H=>∃xs x,SqL K H a xs/\xs[i]?=some x,fun i H x H'=>H'=H/\∀xs,SqL K H a xs->xs[i]?=some x,fun i H=>∃xs,SqL K H a xs/\xs.length<=i⟩
noncomputable def Itt(K:PySem.W.Frag)(a:Addr):It:=
 ⟨fun i H=>∃xs x,SqT K H a xs/\xs[i]?=some x,fun i H x H'=>H'=H/\∀xs,SqT K H a xs->xs[i]?=some x,fun i H=>∃xs,SqT K H a xs/\xs.length<=i⟩
noncomputable def Itr(lo:Int)(n:Nat):It:=⟨fun i _=>i<n,fun i H x H'=>H'=H/\x=.int (lo+i),fun i _=>n<=i⟩
theorem x4x(a it:Addr):Turn P w K tg (Itl K a) [it] it (fun i h=>h.IsListIter it a i) where
 mem:=by simp
 obj:=fun i h st b hb=>by
  have e:b=it:=by simpa using hb
  subst e;obtain⟨o,e,c,d⟩:=st;exact⟨o,e,fun v z=>by rw[d]at z;cases z⟩
 keep:=fun i h h' st k=>st.at fun o e=>k it (by simp) o e
 item:=by
  intro X hP hw hK hc i pins s σ H E I hf st hg;subst hP hw hK;obtain⟨xs,x,hq,hx⟩:=hg;obtain⟨its,rv,p,hz⟩:=I.list hq;obtain⟨u,hu,ru⟩:=rv.get hx;obtain⟨f0,f1,f2,f3,f4,f5⟩:=hf it (by simp);refine wpAny_pyNext_list_item st p.isList (x:=u) (by simpa using hu) fun h' st' sb=>?_
  have I1:Inv X pins σ H {s with heap:=h'}:=I.turned (t':=s.toks) (fun b o hb e=>(sb.2 b hb).trans e) f0 f1 f3 f4 f5
  obtain⟨o,e,c,d⟩:=id st';exact⟨u,rfl,x3o (s:={s with heap:=h'}) e c d (by decide) ⟨x,H,I1,ru,⟨rfl,fun ys hy=>by rw[I.list_inj hy hq];exact hx⟩,st',fun b hb=>(hf b hb).1⟩⟩
 done:=by
  intro X hP hw hK hc i pins s σ H E I hf st hg;subst hP hw hK;obtain⟨xs,hq,hx⟩:=hg;obtain⟨its,rv,p,hz⟩:=I.list hq;obtain⟨f0,f1,f2,f3,f4,f5⟩:=hf it (by simp);have hl:=rv.length;exact wpAny_pyNext_list_end (I.ok.hd hc) st p.isList (by simp;omega) fun h' eb=>⟨rfl,I.turned (t':=s.toks) (fun b o hb e=>eb b o hb e) f0 f1 f3 f4 f5⟩
 self:=fun _ _ _ _ _ st h=>wpAny_pyIter_listiter st h
theorem x3p(a it:Addr):Turn P w K tg (Itt K a) [it] it (fun i h=>h.IsTupleIter it a i) where
 mem:=by simp
 obj:=fun i h st b hb=>by
  have e:b=it:=by simpa using hb
  subst e;obtain⟨o,e,c,d⟩:=st;exact⟨o,e,fun v z=>by rw[d]at z;cases z⟩
 keep:=fun i h h' st k=>st.at fun o e=>k it (by simp) o e
 item:=by
  intro X hP hw hK hc i pins s σ H E I hf st hg;subst hP hw hK;obtain⟨xs,x,hq,hx⟩:=hg;obtain⟨its,rv,p,hz⟩:=I.tuple hq;obtain⟨u,hu,ru⟩:=rv.get hx;obtain⟨f0,f1,f2,f3,f4,f5⟩:=hf it (by simp);refine wpAny_pyNext_tuple_item st (show s.heap.IsTuple a its.toArray from p) (x:=u) (by simpa using hu) fun h' st' sb=>?_
  have I1:Inv X pins σ H {s with heap:=h'}:=I.turned (t':=s.toks) (fun b o hb e=>(sb.2 b hb).trans e) f0 f1 f3 f4 f5
  obtain⟨o,e,c,d⟩:=id st';exact⟨u,rfl,x3o (s:={s with heap:=h'}) e c d (by decide) ⟨x,H,I1,ru,⟨rfl,fun ys hy=>by rw[I.tuple_inj hy hq];exact hx⟩,st',fun b hb=>(hf b hb).1⟩⟩
 done:=by
  intro X hP hw hK hc i pins s σ H E I hf st hg;subst hP hw hK;obtain⟨xs,hq,hx⟩:=hg;obtain⟨its,rv,p,hz⟩:=I.tuple hq;obtain⟨f0,f1,f2,f3,f4,f5⟩:=hf it (by simp);have hl:=rv.length;exact wpAny_pyNext_tuple_end (I.ok.hd hc) st (show s.heap.IsTuple a its.toArray from p) (by simp;omega) fun h' eb=>⟨rfl,I.turned (t':=s.toks) (fun b o hb e=>eb b o hb e) f0 f1 f3 f4 f5⟩
 self:=fun _ _ _ _ _ st h=>wpAny_pyIter_tupleiter st h
theorem x3q(it:Addr)(lo:Int)(n:Nat):Turn P w K tg (Itr lo n) [it] it (fun i h=>IsRangeIter h it (lo+(i:Nat)*1) ((n:Int)-(i:Nat)) 1) where
 mem:=by simp
 obj:=fun i h st b hb=>by
  have e:b=it:=by simpa using hb
  subst e
  exact⟨_,st,fun v z=>by
   have z':Data.fields _=Data.cell v:=z;cases z'⟩
 keep:=fun i h h' st k=>k it (by simp) _ st
 item:=by
  intro X hP hw hK hc i pins s σ H E I hf st hg;subst hP hw hK;obtain⟨f0,f1,f2,f3,f4,f5⟩:=hf it (by simp);have W:=Walks.range (prog:=X.prog) (w:=X.w) (I.ok.hd hc) it lo 1 n;refine W.item i s _ _ hg st fun v h' tk hv st' kk=>?_
  obtain⟨t,rfl⟩:=hv;have I1:Inv X pins σ H {s with heap:=h',toks:=tk}:=I.turned (fun b o hb e=>kk b o (by simpa using hb) e) f0 f1 f3 f4 f5
  refine⟨_,rfl,x3o (s:={s with heap:=h',toks:=tk}) (n:="range_iterator") st' rfl rfl (by decide) ⟨.int (lo+i),H,I1,⟨t,?_⟩,⟨rfl,rfl⟩,st',fun b hb=>(hf b hb).1⟩⟩
  rw[Int.mul_one]
 done:=by
  intro X hP hw hK hc i pins s σ H E I hf st hg;subst hP hw hK;obtain⟨f0,f1,f2,f3,f4,f5⟩:=hf it (by simp);exact wpAny_pyNext_range_end (I.ok.hd hc) st (by have:n<=i:=hg;omega) fun h' eb=>⟨rfl,I.turned (t':=s.toks) (fun b o hb e=>eb b o hb e) f0 f1 f3 f4 f5⟩
 self:=fun _ _ _ _ _ st h=>wpAny_pyIter_rangeiter st h
theorem x7q{R:It->Hp->Prop}{lo hi:Int}{t u v:Tok}{tk:Nat}(I:Inv X pins σ H s)(h1:-(2^62)<=lo)(h2:lo<2^62)(h3:-(2^62)<=hi)(h4:hi<2^62)
  (q:R (Itr lo (hi-lo).toNat) H):wpAny (model X.prog X.w) X.A (pyIter (.ref s.heap.objs.size)) (PIE X pins σ tg R) E {s with heap:=s.heap.push {cls:=.type "range", data:=.fields #[.int lo t,.int hi u,.int 1 v]},toks:=tk}:=by
 refine wpAny_pyIter_range (IsRange.new ..) (small_one h1 h2 h3 h4) ?_;have I1:Inv X pins σ H {s with heap:=s.heap.push {cls:=.type "range", data:=.fields #[.int lo t,.int hi u,.int 1 v]},toks:=tk}:=I.kept fun b o e=>Heap.get?_push_of_some _ e
 refine⟨(s.heap.push {cls:=.type "range", data:=.fields #[.int lo t,.int hi u,.int 1 v]}).objs.size,[(s.heap.push {cls:=.type "range", data:=.fields #[.int lo t,.int hi u,.int 1 v]}).objs.size],_,_,H,rfl,
  I1.kept (t':=tk) fun b o e=>Heap.get?_push_of_some _ e,x3q _ lo (hi-lo).toNat,?_,fun b hb=>?_,q⟩
 ·have e1:lo+((0:Nat):Int)*1=lo:=by simp
  have e2:(((hi-lo).toNat:Nat):Int)-((0:Nat):Int)=Builtin.Range.rangeSize lo hi 1:=by rw[rangeSize_one];split<;>omega
  show IsRangeIter _ _ (lo+((0:Nat):Int)*1) ((((hi-lo).toNat:Nat):Int)-((0:Nat):Int)) 1;rw[e1,e2];exact Heap.get?_push_size _ rfl
 ·have e:b=(s.heap.push {cls:=.type "range", data:=.fields #[.int lo t,.int hi u,.int 1 v]}).objs.size:=by simpa using hb
  subst e;exact I1.fpOk (w0h _) (I1.hok.fresh (w0h _))
def iRng1(ta:TA):TI:=fun σ H R=>ta σ H fun vs H1=>∃j:Int,vs=[.int j]/\-(2^62)<=j/\j<2^62/\R (Itr 0 j.toNat) H1
theorem q9f{a:Expr}{ta:TA}(hg:Gl X "range")(hm:X.mg "range"=none)(ha:PA X [a] ta)(hs:starEach [a] X.env=[(false,eval a X.env)]:=by rfl):PI X tg (.Call (.Name "range" p) [a] [] pos) (iRng1 ta):=by
 intro pins s σ H R I h;refine Call_ (q4y I hg hm boot_range (PyProof.Rows.callWith_type1 (thn (ha pos pins s σ H _ I h) fun us s1 ⟨vs,H1,I1,r1,q1⟩=>?_) hs rfl))
 obtain⟨j,e,q1,q2,q⟩:=q1;subst e;cases r1 with
 |cons r rr=>
  cases rr;obtain⟨t,rfl⟩:=r;exact call_range_1 (x7q I1 (by omega) (by omega) q1 q2 (by simpa using q))
def tFor(wi:TI)(g:TG)(tb:TS):TS:=fun D σ H=>wi σ H fun J H1=>∃W:Nat->Nat->St->Hp->Prop,(∃m,W 0 m σ H1)/\∀i m σ H,W i m σ H ->
 (J.stop i H/\D.nx σ H)\/(J.go i H/\∃N:St->Hp->Prop,(∀σ' H',N σ' H'->∃m',m'<m/\W (i+1) m' σ' H')/\∀x H',J.yld i H x H'->g x σ H' fun σ2 H2=>tb {D with nx:=N,ct:=N,bk:=D.nx} σ2 H2)
noncomputable def pinsAt(fp:List Addr)(h:Heap):List (Addr×Obj):=fp.filterMap fun b=>(h.get? b).map fun o=>(b,o)
theorem q2t{o:Obj}(hb:b∈fp)(e:h.get? b=some o):(b,o)∈pinsAt fp h:=w2c.mpr ⟨b,hb,by rw[e];rfl⟩
theorem x4y{p:Addr×Obj}(hp:p∈pinsAt fp h):p.1∈fp/\h.get? p.1=some p.2:=by
 obtain⟨b,hb,e⟩:=w2c.mp hp;cases q:h.get? b with
 |none=>rw[q]at e;cases e
 |some o=>
  rw[q]at e;have e':(b,o)=p:=Option.some.inj e;subst e';exact⟨hb,q⟩
theorem Inv.pinned(I:Inv X pins σ H s)(hf:∀b∈fp,FpOk X pins H b)(ho:∀b∈fp,∃o,s.heap.get? b=some o/\∀v,o.data≠.cell v):Inv X (pins++pinsAt fp s.heap) σ H s:=
 I.pins_of fun p hp=>(w1h.mp hp).elim (fun z=>I.pin p (w0j _ z)) fun z=>by
  obtain⟨hb,e⟩:=x4y z;obtain⟨f0,f1,f2,_⟩:=hf p.1 hb;obtain⟨o,e',d⟩:=ho p.1 hb;rw[e]at e';cases e';exact⟨e,f0,f1,f2,d⟩
theorem Inv.unpinned{pl:List (Addr×Obj)}(I:Inv X (pins++pl) σ H s):Inv X pins σ H s:=I.pins_of fun p hp=>I.pin p (w0j _ (w2f _ hp))
theorem x0w{iter:Expr}{body:List Stmt}{wi:TI}{g:TG}(hp:PassesOwn (model X.prog X.w) X.A X.env X.xe)(hc:X.calm=true)(hi:PI X tg iter wi)(hg:PG X tg g)(hb:PSs X body tb)
  (hs:∀x,foldedSetIterable iter X.env x=pure x:=by intro _;rfl):PS X (.For tg iter body [] pos) (tFor wi g tb):=by
 intro pins s σ H D I h;refine wpAny_For (thn (hi pins s σ H _ I h) fun v s1 h1=>thn h1 fun itv s2 h2=>?_) hs
 obtain⟨it,fp,tn,J,H2,e,I2,T,st2,f2,W,⟨m0,w0⟩,turn⟩:=h2;subst e;have stat:∀{H':Hp},(∀b∈fp,H' b=none)->∀b∈fp,FpOk X pins H' b:=fun hn b hb=>⟨hn b hb,(f2 b hb).2⟩
 refine codeAny_forLoop_any (fun n s'=>∃i σ' H',Inv X pins σ' H' s'/\tn i s'.heap/\(∀b∈fp,H' b=none)/\W i n σ' H') ?_ m0 ⟨0,σ,H2,I2,st2,fun b hb=>(f2 b hb).1,w0⟩
 rintro n s3 ⟨i,σ3,H3,I3,st3,fr3,w3⟩;rcases turn i n σ3 H3 w3 with⟨stop,qn⟩|⟨go,N,hN,step⟩
 ·refine wpAny_passesOwn hp (thn (T.done X rfl rfl rfl hc i pins s3 σ3 H3 X.xe I3 (stat fr3) st3 stop) fun r s4 ⟨hr,I4⟩=>?_)
  subst hr;exact wpAny_execs_nil ⟨σ3,H3,I4,qn⟩
 ·refine wpAny_passesOwn hp (thn (T.item X rfl rfl rfl hc i pins s3 σ3 H3 X.xe I3 (stat fr3) st3 go) fun r s4 ⟨u,hr,h4⟩=>?_)
  subst hr;refine wpAny_passesOwn hp (thn h4 fun _ s5 ⟨x,H5,I5,r5,y5,st5,fr5⟩=>?_)
  have I5':=I5.pinned (stat fr5) (T.obj _ _ st5);refine wpAny_passesOwn hp (thn (hg _ s5 σ3 H5 x u _ I5' r5 (step x H5 y5)) fun _ s6 ⟨σ6,H6,I6,q6⟩=>?_)
  refine wpAny_passesOwn hp (thn (hb _ s6 σ6 H6 _ I6 q6) fun f s7 q7=>?_)
  have again:∀{σ7:St}{H7:Hp},Inv X (pins++pinsAt fp s5.heap) σ7 H7 s7->N σ7 H7->∃m,m<n/\∃i σ' H',Inv X pins σ' H' s7/\tn i s7.heap/\(∀b∈fp,H' b=none)/\W i m σ' H':=fun {σ7 H7} I7 n7=>by
   obtain⟨m',hm,w7⟩:=hN σ7 H7 n7;refine⟨m',hm,i+1,σ7,H7,I7.unpinned,T.keep _ _ _ st5 fun b hb o e=>(I7.pin (b,o) (w0j _ (w0j _ (q2t hb e)))).1,fun b hb=>?_,w7⟩
   obtain⟨o,e,d⟩:=T.obj _ _ st5 b hb;exact(I7.pin (b,o) (w0j _ (w0j _ (q2t hb e)))).2.1
  cases f with
  |next=>obtain⟨σ7,H7,I7,n7⟩:=q7;exact again I7 n7
  |cont=>obtain⟨σ7,H7,I7,n7⟩:=q7;exact again I7 n7
  |brk=>obtain⟨σ7,H7,I7,q7⟩:=q7;exact⟨σ7,H7,I7.unpinned,q7⟩
  |ret v=>obtain⟨x7,σ7,H7,I7,r7,q7⟩:=q7;exact⟨x7,σ7,H7,I7.unpinned,r7,q7⟩
theorem x7r{g:TG}{D:Ends}(Pv:Nat->St->Hp->Prop)(h0:Pv 0 σ H)(hl:∀i σ H,i<=xs.length->Pv i σ H->SqL K H a xs)
  (hs:∀i x σ H,xs[i]?=some x->Pv i σ H->g x σ H fun σ2 H2=>tb {D with nx:=Pv (i+1),ct:=Pv (i+1),bk:=D.nx} σ2 H2)(hd:∀σ H,Pv xs.length σ H->D.nx σ H):
  ∃W:Nat->Nat->St->Hp->Prop,(∃m,W 0 m σ H)/\∀i m σ H,W i m σ H ->
   ((Itl K a).stop i H/\D.nx σ H)\/((Itl K a).go i H/\∃N:St->Hp->Prop,(∀σ' H',N σ' H'->∃m',m'<m/\W (i+1) m' σ' H')/\∀x H',(Itl K a).yld i H x H'->g x σ H' fun σ2 H2=>tb {D with nx:=N,ct:=N,bk:=D.nx} σ2 H2):=by
 refine⟨fun i m σ H=>m=xs.length-i/\i<=xs.length/\Pv i σ H,⟨xs.length,by simp,w1a _,h0⟩,?_⟩
 rintro i m σ H ⟨rfl,hi,p⟩;have q:=hl i σ H hi p
 by_cases hlt:i<xs.length
 ·refine .inr ⟨⟨xs,xs[i],q,by simp[hlt]⟩,Pv (i+1),fun σ' H' p'=>⟨xs.length-(i+1),by omega,rfl,hlt,p'⟩,fun x H' y=>?_⟩
  obtain⟨e,y⟩:=y;subst e;exact hs i x σ _ (y xs q) p
 ·have e:i=xs.length:=by omega
  subst e;exact .inl ⟨⟨xs,q,w0h _⟩,hd σ H p⟩
theorem y04{g:TG}{D:Ends}(Pv:Nat->St->Hp->Prop)(h0:Pv 0 σ H)(hl:∀i σ H,i<=xs.length->Pv i σ H->SqT K H a xs)
  (hs:∀i x σ H,xs[i]?=some x->Pv i σ H->g x σ H fun σ2 H2=>tb {D with nx:=Pv (i+1),ct:=Pv (i+1),bk:=D.nx} σ2 H2)(hd:∀σ H,Pv xs.length σ H->D.nx σ H):
  ∃W:Nat->Nat->St->Hp->Prop,(∃m,W 0 m σ H)/\∀i m σ H,W i m σ H ->
   ((Itt K a).stop i H/\D.nx σ H)\/((Itt K a).go i H/\∃N:St->Hp->Prop,(∀σ' H',N σ' H'->∃m',m'<m/\W (i+1) m' σ' H')/\∀x H',(Itt K a).yld i H x H'->g x σ H' fun σ2 H2=>tb {D with nx:=N,ct:=N,bk:=D.nx} σ2 H2):=by
 refine⟨fun i m σ H=>m=xs.length-i/\i<=xs.length/\Pv i σ H,⟨xs.length,by simp,w1a _,h0⟩,?_⟩
 rintro i m σ H ⟨rfl,hi,p⟩;have q:=hl i σ H hi p
 by_cases hlt:i<xs.length
 ·refine .inr ⟨⟨xs,xs[i],q,by simp[hlt]⟩,Pv (i+1),fun σ' H' p'=>⟨xs.length-(i+1),by omega,rfl,hlt,p'⟩,fun x H' y=>?_⟩
  obtain⟨e,y⟩:=y;subst e;exact hs i x σ _ (y xs q) p
 ·have e:i=xs.length:=by omega
  subst e;exact .inl ⟨⟨xs,q,w0h _⟩,hd σ H p⟩
theorem x4z{lo:Int}{n:Nat}{g:TG}{D:Ends}(Pv:Nat->St->Hp->Prop)(h0:Pv 0 σ H)
  (hs:∀i σ H,i<n->Pv i σ H->g (.int (lo+i)) σ H fun σ2 H2=>tb {D with nx:=Pv (i+1),ct:=Pv (i+1),bk:=D.nx} σ2 H2)(hd:∀σ H,Pv n σ H->D.nx σ H):
  ∃W:Nat->Nat->St->Hp->Prop,(∃m,W 0 m σ H)/\∀i m σ H,W i m σ H ->
   ((Itr lo n).stop i H/\D.nx σ H)\/((Itr lo n).go i H/\∃N:St->Hp->Prop,(∀σ' H',N σ' H'->∃m',m'<m/\W (i+1) m' σ' H')/\∀x H',(Itr lo n).yld i H x H'->g x σ H' fun σ2 H2=>tb {D with nx:=N,ct:=N,bk:=D.nx} σ2 H2):=by
 refine⟨fun i m σ H=>m=n-i/\i<=n/\Pv i σ H,⟨n,by simp,w1a _,h0⟩,?_⟩
 rintro i m σ H ⟨rfl,hi,p⟩
 by_cases hlt:i<n
 ·refine .inr ⟨hlt,Pv (i+1),fun σ' H' p'=>⟨n-(i+1),by omega,rfl,hlt,p'⟩,fun x H' y=>?_⟩
  obtain⟨e,y⟩:=y;subst e y;exact hs i σ _ hlt p
 ·have e:i=n:=by omega
  subst e;exact .inl ⟨w0h _,hd σ H p⟩
abbrev R2:=V->V->Hp->VK->Prop
variable{r:R2}
def OpR(X:Cx)(f:Value->Value->Sem Value)(r:R2):Prop:=
 ∀(pins:List (Addr×Obj))(s:Shared)(σ:St)(H:Hp)(x y:V)(v u:Value)(Q:VK),Inv X pins σ H s->RelV x v->RelV y u->r x y H Q ->
  wpAny (model X.prog X.w) X.A (f v u) (EP X pins σ Q) X.xe s
def UnR(X:Cx)(f:Value->Sem Value)(r:V->Hp->VK->Prop):Prop:=
 ∀(pins:List (Addr×Obj))(s:Shared)(σ:St)(H:Hp)(x:V)(v:Value)(Q:VK),Inv X pins σ H s->RelV x v->r x H Q ->
  wpAny (model X.prog X.w) X.A (f v) (EP X pins σ Q) X.xe s
def CallR(X:Cx)(f:Value)(r:List V->Hp->VK->Prop):Prop:=
 ∀(pins:List (Addr×Obj))(s:Shared)(σ:St)(H:Hp)(xs:List V)(us:List Value)(Q:VK),Inv X pins σ H s->Vals xs us->r xs H Q ->
  wpAny (model X.prog X.w) X.A (call f us) (EP X pins σ Q) X.xe s
def TruR(X:Cx)(r:V->Hp->(Bool->Hp->Prop)->Prop):Prop:=
 ∀(pins:List (Addr×Obj))(s:Shared)(σ:St)(H:Hp)(x:V)(v:Value)(Q:Bool->Hp->Prop),Inv X pins σ H s->RelV x v->r x H Q ->
  wpAny (model X.prog X.w) X.A (truthy v) (TP X pins σ Q) X.xe s
def tOp(r:R2)(ta tb:TE):TE:=fun σ H Q=>ta σ H fun x H1=>tb σ H1 fun y H2=>r x y H2 Q
def tUn(r:V->Hp->VK->Prop)(ta:TE):TE:=fun σ H Q=>ta σ H fun x H1=>r x H1 Q
def rI(C:Int->Int->Prop)(g:Int->Int->V):R2:=fun x y H Q=>∃i j,x=.int i/\y=.int j/\C i j/\Q (g i j) H
def rI0(g:Int->Int->V):R2:=fun x y H Q=>∃i j,x=.int i/\y=.int j/\Q (g i j) H
def rU(g:Int->V):V->Hp->VK->Prop:=fun x H Q=>∃i,x=.int i/\Q (g i) H
section
variable{a b:Expr}{tb tc:TE}
theorem binT(ha:PE X a ta)(hb:PE X b tb){R:V->V->Hp->Prop}(I:Inv X pins σ H s)
  (h:ta σ H fun x H1=>tb σ H1 fun y H2=>R x y H2){Q:Value->Shared->Prop}
  (hf:∀v u s2 x y H2,Inv X pins σ H2 s2->RelV x v->RelV y u->R x y H2->wpAny (model X.prog X.w) X.A (f v u) Q X.xe s2):
  wpAny (model X.prog X.w) X.A (eval a X.env) (fun v s₁=>wpAny (model X.prog X.w) X.A (eval b X.env) (fun u s₂=>wpAny (model X.prog X.w) X.A (f v u) Q X.xe s₂) X.xe s₁) X.xe s:=by
 refine thn (ha pins s σ H _ I h) fun v s1 ⟨x,H1,I1,r1,q1⟩=>?_
 refine thn (hb pins s1 σ H1 _ I1 q1) fun u s2 ⟨y,H2,I2,r2,q2⟩=>?_
 exact hf v u s2 x y H2 I2 r1 r2 q2
theorem y8a{op:Operator}(ho:OpR X (binaryOp op) r)(ha:PE X a ta)(hb:PE X b tb):PE X (.BinOp a op b pos) (tOp r ta tb):=by
 intro pins s σ H Q I h;exact wpAny_BinOp (binT ha hb I h fun v u s2 x y H2 I2 rx ry q=>ho pins s2 σ H2 x y v u Q I2 rx ry q)
theorem y8b{op:UnaryOp}{r:V->Hp->VK->Prop}(ho:UnR X (unaryOp op) r)(ha:PE X a ta):PE X (.UnaryOp op a pos) (tUn r ta):=by
 intro pins s σ H Q I h;exact UnaryOp_ (thn (ha pins s σ H _ I h) fun v s1 ⟨x,H1,I1,r1,q1⟩=>ho pins s1 σ H1 x v Q I1 r1 q1)
theorem opI{C:Int->Int->Prop}{g:Int->Int->Int}
  (rule:∀(i j:Int)(t u:Tok)(s:Shared)(Q:Value->Shared->Prop)(E:Value->Shared->Prop),C i j->Q (.int (g i j) s.toks) {s with toks:=s.toks+1}->wpAny (model X.prog X.w) X.A (f (.int i t) (.int j u)) Q E s):
  OpR X f (rI C fun i j=>.int (g i j)):=by
 intro pins s σ H x y v u Q I rx ry h;obtain⟨i,j,rfl,rfl,hc,q⟩:=h;obtain⟨t,rfl⟩:=rx;obtain⟨t',rfl⟩:=ry;exact rule i j t t' s _ _ hc ⟨.int (g i j),H,I.tok _,⟨_,rfl⟩,q⟩
theorem opI0{g:Int->Int->Int}
  (rule:∀(i j:Int)(t u:Tok)(s:Shared)(Q:Value->Shared->Prop)(E:Value->Shared->Prop),Q (.int (g i j) s.toks) {s with toks:=s.toks+1}->wpAny (model X.prog X.w) X.A (f (.int i t) (.int j u)) Q E s):
  OpR X f (rI0 fun i j=>.int (g i j)):=by
 intro pins s σ H x y v u Q I rx ry h;obtain⟨i,j,rfl,rfl,q⟩:=h;obtain⟨t,rfl⟩:=rx;obtain⟨t',rfl⟩:=ry;exact rule i j t t' s _ _ ⟨.int (g i j),H,I.tok _,⟨_,rfl⟩,q⟩
theorem opB0{g:Int->Int->Bool}
  (rule:∀(i j:Int)(t u:Tok)(s:Shared)(Q:Value->Shared->Prop)(E:Value->Shared->Prop),Q (.bool (g i j)) s->wpAny (model X.prog X.w) X.A (f (.int i t) (.int j u)) Q E s):
  OpR X f (rI0 fun i j=>.bl (g i j)):=by
 intro pins s σ H x y v u Q I rx ry h;obtain⟨i,j,rfl,rfl,q⟩:=h;obtain⟨t,rfl⟩:=rx;obtain⟨t',rfl⟩:=ry;exact rule i j t t' s _ _ ⟨.bl (g i j),H,I,rfl,q⟩
def CDiv(i j:Int):Prop:=0<j/\j<1073741824
def CPow(i j:Int):Prop:=0<=j/\j<=1000000/\i.natAbs<2^64
def CMul(i j:Int):Prop:=(-(2^64)<i/\i<2^64)\/(-(2^64)<j/\j<2^64)
theorem CMul.ok{i j:Int}(h:CMul i j):IntMulOk i j:=by
 rcases h with⟨h1,h2⟩|⟨h1,h2⟩
 ·exact .of_left (intBits_le_64 h1 h2)
 ·exact .of_right (intBits_le_64 h1 h2)
theorem op_add:OpR X (binaryOp .Add) (rI0 fun i j=>.int (i+j)):=opI0 fun _ _ _ _ _ _ _ q=>add_int q
theorem y4v:OpR X (binaryOp .Sub) (rI0 fun i j=>.int (i-j)):=opI0 fun _ _ _ _ _ _ _ q=>sub_int q
theorem y4w:OpR X (binaryOp .Mult) (rI CMul fun i j=>.int (i*j)):=opI fun _ _ _ _ _ _ _ hc q=>mul_int q hc.ok
theorem y05:OpR X (binaryOp .FloorDiv) (rI CDiv fun i j=>.int (i / j)):=opI fun i j _ _ _ _ _ hc q=>by
 have h1:(0:Int)<j:=hc.1;have h2:j<1073741824:=hc.2;exact floordiv_int (by omega) (by rw[Int.fdiv_eq_ediv_of_nonneg i (by omega)];exact q) (.inl (PyProof.noPylong_small (by omega)))
theorem y4x:OpR X (binaryOp .Mod) (rI (fun _ j=>0<j) fun i j=>.int (i%j)):=opI fun i j _ _ _ _ _ hc q=>by
 have h1:(0:Int)<j:=hc;exact mod_int' (by omega) (by rw[Int.fmod_eq_emod_of_nonneg i (by omega)];exact q)
theorem y4y:OpR X (binaryOp .Pow) (rI CPow fun i j=>.int (i^j.toNat)):=opI fun _ _ _ _ _ _ _ hc q=>pow_int_small hc.1 hc.2.1 hc.2.2 q
theorem unI{f:Value->Sem Value}{g:Int->Int}
  (rule:∀(i:Int)(t:Tok)(s:Shared)(Q:Value->Shared->Prop)(E:Value->Shared->Prop),Q (.int (g i) s.toks) {s with toks:=s.toks+1}->wpAny (model X.prog X.w) X.A (f (.int i t)) Q E s):
  UnR X f (rU fun i=>.int (g i)):=by
 intro pins s σ H x v Q I rx h;obtain⟨i,rfl,q⟩:=h;obtain⟨t,rfl⟩:=rx;exact rule i t s _ _ ⟨.int (g i),H,I.tok _,⟨_,rfl⟩,q⟩
theorem y4z:UnR X (unaryOp .USub) (rU fun i=>.int (-i)):=unI fun _ _ _ _ _ q=>neg_int q
end
section
variable{a b:Expr}{tb tc:TE}
theorem y40{Q:VK}{k k':Bool}(I:Inv X pins σ H s)(q:Q (.bl k) H)(e:k=k'):EP X pins σ Q (.bool k') s:=by
 subst e;exact⟨.bl k,H,I,rfl,q⟩
theorem y0i:OpR X (compareOp .Lt) (rI0 fun i j=>.bl (decide (i<j))):=opB0 fun _ _ _ _ _ _ _ q=>lt_int q
theorem y8c:OpR X (compareOp .LtE) (rI0 fun i j=>.bl (decide (i<=j))):=opB0 fun _ _ _ _ _ _ _ q=>le_int q
theorem y8d:OpR X (compareOp .Gt) (rI0 fun i j=>.bl (decide (j<i))):=opB0 fun _ _ _ _ _ _ _ q=>gt_int q
theorem OpR.or{r':R2}(h:OpR X f r)(h':OpR X f r'):OpR X f (fun x y H Q=>r x y H Q\/r' x y H Q):=by
 intro pins s σ H x y v u Q I rx ry q;rcases q with q|q
 ·exact h pins s σ H x y v u Q I rx ry q
 ·exact h' pins s σ H x y v u Q I rx ry q
theorem nomark(b:Expr)(h:op≠.In:=by decide)(h2:op≠.NotIn:=by decide):behindInMarks op b=false:=by
 have e1:(op==CmpOp.In)=false:=by cases op<;>first|rfl|exact absurd rfl h
 have e2:(op==CmpOp.NotIn)=false:=by cases op<;>first|rfl|exact absurd rfl h2
 cases b<;>simp[behindInMarks,e1,e2]
theorem y06(ho:OpR X (compareOp op) r)(ha:PE X a ta)(hb:PE X b tb)(hm:behindInMarks op b=false):PE X (.Compare a [op] [b] pos) (tOp r ta tb):=by
 intro pins s σ H Q I h;exact wpAny_Compare1 (binT ha hb I h fun v u s2 x y H2 I2 rx ry q=>ho pins s2 σ H2 x y v u Q I2 rx ry q) hm
def tTest(t:TE):TT:=fun σ H Q=>t σ H fun x H'=>∃k,x=.bl k/\Q k H'
theorem y07(ho:OpR X (compareOp op) r)(ha:PE X a ta)(hb:PE X b tb)(hm:behindInMarks op b=false):PT X (.Compare a [op] [b] pos) (tTest (tOp r ta tb)):=by
 intro pins s σ H Q I h
 refine wpAny_isTrue_Compare1 (thn (ha pins s σ H _ I h) fun v s1 ⟨x,H1,I1,r1,q1⟩=>thn (hb pins s1 σ H1 _ I1 q1) fun u s2 ⟨y,H2,I2,r2,q2⟩=>
  thn (ho pins s2 σ H2 x y v u _ I2 r1 r2 q2) fun c s3 ⟨z,H3,I3,r3,k,e,q3⟩=>?_) hm
 subst e;cases r3;exact wpAny_truthy_bool ⟨H3,I3,q3⟩
def TruV(K:PySem.W.Frag)(x:V)(H:Hp)(k:Bool):Prop:=
 match x with
 |.non=>k=false
 |.bl b=>k=b
 |.int i=>k=(i != 0)
 |.str y=>y.length<=sizeLine/\k=((y.length:Int) != 0)
 |.byt y=>y.size<=sizeLine/\k=((y.size:Int) != 0)
 |.ref p=>(∃xs,SqL K H p xs/\k=!xs.isEmpty)\/(∃xs,SqT K H p xs/\k=!xs.isEmpty)\/∃kvs,H p=some (.dK kvs)/\k=!kvs.isEmpty
 |_=>False
theorem x3r{κ:Type}{kvs:List (κ×V)}{vs:List (κ×Value)}(r:KV kvs vs):(!vs.isEmpty)=!kvs.isEmpty:=by
 cases r<;>rfl
theorem q70{its:List Value}(r:Vals xs its):(!its.toArray.isEmpty)=!xs.isEmpty:=by
 cases r<;>simp
theorem line63:(sizeLine:Nat)<2^63:=by rw[sizeLine_eq];decide
theorem y41:TruR X (fun x H Q=>∃k,TruV X.K x H k/\Q k H):=by
 intro pins s σ H x v Q I rx h;obtain⟨k,e,q⟩:=h;have hl:=line63;have hs:sizeLine=16777216:=sizeLine_eq;cases x with
 |non=>
  cases rx;have e':k=false:=e;subst e';exact truthy_none ⟨H,I,q⟩
 |bl b=>
  cases rx;have e':k=b:=e;subst e';exact wpAny_truthy_bool ⟨H,I,q⟩
 |int i=>
  obtain⟨t,rfl⟩:=rx;have e':k=(i != 0):=e;subst e';exact PySem.P.truthy_int ⟨H,I,q⟩
 |str y=>
  obtain⟨t,rfl⟩:=rx;obtain⟨hy,e'⟩:y.length<=sizeLine/\k=((y.length:Int) != 0):=e;subst e';exact PySem.P.truthy_str (by omega) ⟨H,I.tok _,q⟩
 |byt y=>
  obtain⟨t,rfl⟩:=rx;obtain⟨hy,e'⟩:y.size<=sizeLine/\k=((y.size:Int) != 0):=e;subst e';exact PySem.W.truthy_bytes (by omega) ⟨H,I.tok _,q⟩
 |ref p=>
  cases rx;have e':(∃xs,SqL X.K H p xs/\k=!xs.isEmpty)\/(∃xs,SqT X.K H p xs/\k=!xs.isEmpty)\/∃kvs,H p=some (.dK kvs)/\k=!kvs.isEmpty:=e;rcases e' with⟨xs,hx,e'⟩|⟨xs,hx,e'⟩|⟨kvs,hx,e'⟩
  ·subst e';obtain⟨its,r,pl,hz⟩:=I.list hx;have hlen:=r.length;exact wpAny_truthy_list pl.isList (by simp only[w0c];omega) ⟨H,I.tok _,by rw[q70 r];exact q⟩
  ·subst e';obtain⟨its,r,pl,hz⟩:=I.tuple hx;have hlen:=r.length;exact truthy_tuple pl (by simp only[w0c];omega) ⟨H,I.tok _,by rw[q70 r];exact q⟩
  ·subst e';obtain⟨hz,hS,vs,r,m⟩:kvs.length<=sizeLine/\(p==sysModules)=false/\∃vs,KV kvs vs/\s.heap.DictOf (mixKind X.prog X.w) p vs:=I.hok p _ hx;have hlen:kvs.length=vs.length:=Paired.length r;exact wpAny_truthy_dict hS m (by omega) ⟨H,I.tok _,by rw[x3r r];exact q⟩
 |_=>exact(show False from e).elim
theorem x7s(ha:PE X a ta)(he:∀whole,isTrue a X.env whole=(do let v <- whole;standAt a.pos;holding [v] (truthy v))):
  PT X a (fun σ H Q=>ta σ H fun x H'=>∃k,TruV X.K x H' k/\Q k H'):=by
 intro pins s σ H Q I h;exact isTrue_plain (thn (ha pins s σ H _ I h) fun v s1 ⟨x,H1,I1,r1,q1⟩=>y41 pins s1 σ H1 x v Q I1 r1 q1) (he _)
theorem op_add_str:OpR X (binaryOp .Add) (fun x y H Q=>∃i j,x=.str i/\y=.str j/\i.length+j.length<=sizeLine/\Q (.str (i++j)) H):=by
 intro pins s σ H x y v u Q I rx ry h;obtain⟨i,j,rfl,rfl,hz,q⟩:=h;obtain⟨t,rfl⟩:=rx;obtain⟨t',rfl⟩:=ry;exact add_str (fun t' tk=>⟨.str (i++j),H,I.tok _,⟨_,rfl⟩,q⟩) hz
theorem vals1{x:V}(r:Vals [x] us):∃u,us=[u]/\RelV x u:=by
 cases r with
 |cons r1 r2=>cases r2;exact⟨_,rfl,r1⟩
theorem vals2{x y:V}(r:Vals [x,y] us):∃u w',us=[u,w']/\RelV x u/\RelV y w':=by
 cases r with
 |cons r1 r2=>
  cases r2 with
  |cons r3 r4=>cases r4;exact⟨_,_,rfl,r1,r3⟩
theorem x40(hc:X.calm=true):CallR X (.builtin "min") (fun xs H Q=>∃i j,xs=[.int i,.int j]/\Q (.int (if j<i then j else i)) H):=by
 intro pins s σ H xs us Q I r h;obtain⟨i,j,rfl,q⟩:=h;obtain⟨u,w',rfl,⟨t,rfl⟩,⟨t',rfl⟩⟩:=vals2 r;refine min_two_ints (I.ok.hd hc) fun h' tk k=>⟨_,H,I.kept k,?_,q⟩
 by_cases hj:j<i
 ·rw[if_pos hj,if_pos hj];exact⟨_,rfl⟩
 ·rw[if_neg hj,if_neg hj];exact⟨_,rfl⟩
theorem x41:CallR X (.type "int") (fun xs H Q=>(∃i,xs=[.int i]/\Q (.int i) H)\/∃k,xs=[.bl k]/\Q (.int (if k then 1 else 0)) H):=by
 intro pins s σ H xs us Q I r h;rcases h with⟨i,rfl,q⟩|⟨k,rfl,q⟩
 ·obtain⟨u,rfl,t,rfl⟩:=vals1 r;exact call_int_int ⟨.int i,H,I,⟨_,rfl⟩,q⟩
 ·obtain⟨u,rfl,r1⟩:=vals1 r;cases r1;exact call_int_bool ⟨.int (if k then 1 else 0),H,I.tok _,⟨_,rfl⟩,q⟩
def LenV(K:PySem.W.Frag)(x:V)(H:Hp)(n:Nat):Prop:=
 match x with
 |.str y=>y.length<=sizeLine/\n=y.length
 |.byt y=>y.size<=sizeLine/\n=y.size
 |.ref p=>(∃xs,SqL K H p xs/\n=xs.length)\/∃xs,SqT K H p xs/\n=xs.length
 |_=>False
theorem x0x:CallR X (.builtin "len") (fun xs H Q=>∃x n,xs=[x]/\LenV X.K x H n/\Q (.int n) H):=by
 intro pins s σ H xs us Q I r h;obtain⟨x,n,rfl,e,q⟩:=h;obtain⟨u,rfl,rx⟩:=vals1 r;have hl:=line63;have hs:sizeLine=16777216:=sizeLine_eq;cases x with
 |str y=>
  obtain⟨t,rfl⟩:=rx;obtain⟨hy,e'⟩:y.length<=sizeLine/\n=y.length:=e;subst e';exact len_str (by omega) ⟨.int _,H,I.tok _,⟨_,rfl⟩,q⟩
 |byt y=>
  obtain⟨t,rfl⟩:=rx;obtain⟨hy,e'⟩:y.size<=sizeLine/\n=y.size:=e;subst e';exact PySem.W.len_bytes (by omega) ⟨.int _,H,I.tok _,⟨_,rfl⟩,q⟩
 |ref p=>
  cases rx;have e':(∃xs,SqL X.K H p xs/\n=xs.length)\/∃xs,SqT X.K H p xs/\n=xs.length:=e;rcases e' with⟨xs,hx,e'⟩|⟨xs,hx,e'⟩
  ·subst e';obtain⟨its,r',pl,hz⟩:=I.list hx;have hlen:=r'.length;exact Calls.call_len_list pl.isList (by simp only[w0c];omega) ⟨.int xs.length,H,I.tok _,⟨_,by simp only[w0c];rw[hlen]⟩,q⟩
  ·subst e';obtain⟨its,r',pl,hz⟩:=I.tuple hx;have hlen:=r'.length;exact len_tuple pl (by simp only[w0c];omega) ⟨.int xs.length,H,I.tok _,⟨_,by simp only[w0c];rw[hlen]⟩,q⟩
 |_=>exact(show False from e).elim
end
structure ObjM(h:Heap)(x dx C:Addr)(mA:Str->Option Value):Prop where
 obj:h.get? x=some (PySem.W.instObj C dx)
 ns:h.Ns1 dx mA
 ne:dx≠x
noncomputable def putF(f:Str)(v:V):List (Str×V)->List (Str×V)
 |[]=>[(f,v)]
 |(g,x)::r=>if g=f then(g,v)::r else(g,x)::putF f v r
theorem RelO.some_of{v:V}{o:Option Value}(r:RelO (some v) o):∃u,o=some u/\RelV v u:=by
 cases o with
 |none=>exact(show False from r).elim
 |some u=>exact⟨u,rfl,r⟩
structure Cls(K:PySem.W.Frag)(C:Addr):Prop where
 pg:PySem.W.plainGet K C Str.empty=true
 hd:PySem.W.hasDictIn K C=true
 po:PySem.W.plainOver K C=true
 sa:findIn K (.ref C) "__setattr__"=some (some (.builtin "object.__setattr__"))
structure Con(K:PySem.W.Frag)(C:Addr)(f:Str)(v:V)(u:Value):Prop where
 at_:findIn K (.ref C) f=some (some u)
 rel:RelV v u
 get:specialIn K u "__get__"=some none
 cp:PySem.W.copiedNames.contains f=false
structure Meth(K:PySem.W.Frag)(C:Addr)(m:Str)(f:Addr):Prop where
 at_:findIn K (.ref C) m=some (some (.ref f))
 fn:PySem.W.isFn K (.ref f)=true
 kp:keepIn K (.ref f)=true
section
variable{Q:Value->Shared->Prop}{c:Value}{b:Bool}
inductive TyOf(K:PySem.W.Frag)(H:Hp):V->Value->Prop where
 |non:TyOf K H .non (.type "NoneType")
 |bl (x:Bool):TyOf K H (.bl x) (.type "bool")
 |int (i:Int):TyOf K H (.int i) (.type "int")
 |str (x:Str):TyOf K H (.str x) (.type "str")
 |flt (x:UInt64):TyOf K H (.flt x) (.type "float")
 |lst {a:Addr} {xs:List V} (e:H a=some (.lst xs)):TyOf K H (.ref a) (.type "list")
 |frz {a:Addr} {o:Obj} {xs:List V} (e:H a=some (.frz o (.lst xs))):TyOf K H (.ref a) (.type "list")
 |tup {a:Addr} {xs:List V} (e:H a=some (.tup xs)):TyOf K H (.ref a) (.type "tuple")
 |dK {a:Addr} {kvs:List (Key×V)} (e:H a=some (.dK kvs)):TyOf K H (.ref a) (.type "dict")
 |dT {a:Addr} {sh:Sh} {kvs:List (Kx×V)} {kas:List Addr} (e:H a=some (.dT sh kvs kas)):TyOf K H (.ref a) (.type "dict")
 |ins {a C dx:Addr} {fs:List (Str×V)} (e:H a=some (.ins C dx fs)) (cl:Cls K C) (ha:findIn K (.ref C) "__class__"=some (some (.builtin "object.__class__")))
   (hn:specialIn K (.builtin "object.__class__") "__get__"=some (some (.builtin "getset_descriptor.__get__"))) (htk:takesIn K (.builtin "object.__class__")=some true)
   (hm:PySem.W.mroIn K C (.type "object")=some true):TyOf K H (.ref a) (.ref C)
end
structure Room(k:Nat)(A:Around):Prop where
 hd:A.handled=none
 dp:A.depth+3*k+5<recursionLimit
 un:A.units+16*k+200<cLine
 gd:A.guards=some []
theorem Room.deeper(r:Room (k+1) A)(env:Env):Room k (A.deeper env):=
 ⟨r.hd,by have:=r.dp;show A.depth+1+3*k+5<_;omega,by have:=r.un;show A.units+3+16*k+200<_;omega,r.gd⟩
theorem Room.depth(r:Room k A):A.depth<recursionLimit:=by have:=r.dp;omega
def tNil:TA:=fun _ H Q=>Q [] H
def tCons(ta:TE)(tr:TA):TA:=fun σ H Q=>ta σ H fun x H1=>tr σ H1 fun xs H2=>Q (x::xs) H2
section
variable{t:TA}
theorem q6a:PA X [] tNil:=fun _ _ _ _ H Q I h=>Calls.spliced_nil ⟨[],H,I,.nil,h⟩
theorem q3p(ha:PE X e te)(hr:PA X es t)(hs:starEach (e::es) X.env=(false,eval e X.env)::starEach es X.env:=by rfl):PA X (e::es) (tCons te t):=by
 intro pos pins s σ H Q I h;rw[hs];show wpAny _ _ (spliced ((false,eval e X.env)::backTo pos (starEach es X.env))) _ _ s;refine Calls.spliced_cons (thn (ha pins s σ H _ I h) fun u s1 ⟨x,H1,I1,r1,q1⟩=>?_)
 exact thn (hr pos pins s1 σ H1 _ I1 q1) fun us s2 ⟨xs,H2,I2,r2,q2⟩=>⟨x::xs,H2,I2,.cons r1 r2,q2⟩
def tTup(t:TA):TE:=fun σ H Q=>t σ H fun xs H1=>xs.length<=sizeLine/\∀p,H1 p=none->Q (.ref p) (upd H1 p (.tup xs))
def tLst(t:TA):TE:=fun σ H Q=>t σ H fun xs H1=>xs.length<=sizeLine/\∀p,H1 p=none->Q (.ref p) (upd H1 p (.lst xs))
theorem x42{x1}(h:PA X es t):PE X (.Tuple es x1 pos) (tTup t):=by
 intro pins s σ H Q I hq;refine wpAny_Tuple_spliced (thn (h pos pins s σ H _ I hq) fun us s1 ⟨xs,H1,I1,r,z,q⟩=>⟨by rw[<- r.length];exact z,?_⟩)
 have hf:H1 s1.heap.objs.size=none:=I1.hok.fresh (w0h _);refine⟨.ref s1.heap.objs.size,upd H1 s1.heap.objs.size (.tup xs),I1.laid (t':=s1.toks) (fun b u e=>Heap.get?_push_of_some _ e) (w0h _) ?_,rfl,q _ hf⟩
 exact⟨z,us,r,⟨_,Heap.get?_push_size _ rfl,rfl,_,rfl⟩,⟨_,Heap.get?_push_size _ rfl,rfl⟩⟩
theorem y42(h:PA X es t):PE X (.List es pos) (tLst t):=by
 intro pins s σ H Q I hq;refine wpAny_List_spliced (thn (h pos pins s σ H _ I hq) fun us s1 ⟨xs,H1,I1,r,z,q⟩=>⟨by rw[<- r.length];exact z,?_⟩)
 have hf:H1 s1.heap.objs.size=none:=I1.hok.fresh (w0h _);refine⟨.ref s1.heap.objs.size,upd H1 s1.heap.objs.size (.lst xs),I1.laid (t':=s1.toks) (fun b u e=>Heap.get?_push_of_some _ e) (w0h _) ?_,rfl,q _ hf⟩
 exact⟨z,us,0,r,Heap.get?_push_size _ rfl⟩
end
abbrev Sp:=List V->Hp->VK->XK->Prop
variable{sp:Sp}
abbrev CXT:=List Env->Hp->Shared->XK->Value->Shared->Prop
variable{CX:CXT}
structure Env0(P:Program)(w:World)(K:PySem.W.Frag)(mg:Str->Option Value)(base:Heap)(A:Around)(outer:List Env)(s:Shared)(H:Hp):Prop where
 frames:A.frames=some outer
 mod:Mod K mg base
 bs:∀b o,base.get? b=some o->s.heap.get? b=some o/\H b=none
 bsz:base.objs.size<=s.heap.objs.size
 funs:s.heap.FunFrames base outer
 frf:∀b∈frs outer,H b=none
 hok:HOk P w H s.heap
 bare:AllBare s.gens
 tab:TabOk K H
def CE(outer:List Env)(P:Program)(w:World)(H:Hp)(s:Shared)(Q:VK)(u:Value)(s':Shared):Prop:=
 ∃v H',s'.os=s.os/\AllBare s'.gens/\Un (frs outer) [] H H' s.heap s'.heap/\HOk P w H' s'.heap/\RelV v u/\Q v H'
def CR(CX:CXT)(outer:List Env)(P:Program)(w:World)(H:Hp)(s:Shared)(Q:VK)(E:XK)(r:Result)(s':Shared):Prop:=
 match r with
 |.ok (.ret u)=>CE outer P w H s Q u s'
 |.ok _=>False
 |.error e=>CX outer H s E e s'
structure FnOk(P:Program)(w:World)(K:PySem.W.Frag)(mg:Str->Option Value)(base:Heap)(CX:CXT)(k:Nat)(f:Addr)(fd:FuncData)(ps:List Str)(sp:Sp):Prop where
 len:∀vs H Q E,sp vs H Q E->vs.length=ps.length
 run:∀(A:Around)(outer:List Env)(s:Shared)(H:Hp)(args:Args)(us:List Value)(vs:List V)(Q:VK)(E:XK),Room k A->Env0 P w K mg base A outer s H->BindsTo s fd args (ps.zip us)->Vals vs us->sp vs H Q E ->
  codeAny (model P w) A (.call (.ref f) args) (CR CX outer P w H s Q E) s
theorem FnOk.imp{f:Addr}{sp':Sp}(F:FnOk P w K mg base CX k f fd ps sp)
  (h:∀vs H Q E,sp' vs H Q E->sp vs H Q E):FnOk P w K mg base CX k f fd ps sp':=
 ⟨fun vs H Q E q=>F.len vs H Q E (h _ _ _ _ q),fun A outer s H args us vs Q E hr he hb hv hs=>F.run A outer s H args us vs Q E hr he hb hv (h _ _ _ _ hs)⟩
section
variable{s':Shared}
theorem Inv.env0(I:Inv X pins σ H s):Env0 X.prog X.w X.K X.mg X.base X.A X.stack s H:=
 ⟨I.ok.frames,I.ok.mod,I.bs,w0w I.ok.bsz I.sz,I.stack,I.stkFree,I.hok,I.bare,I.ok.tab.un I.base⟩
theorem Inv.after{Q:VK}(I:Inv X pins σ H s)(h:CE X.stack X.prog X.w H s Q u s'):EP X pins σ Q u s':=by
 obtain⟨v,H',os,bare,un,hok,r,q⟩:=h;obtain⟨hh,g,d,t,os'⟩:=s';obtain rfl:os'=s.os:=os;exact⟨v,H',I.call (h':=hh) (g':=g) (d':=d) (t':=t) (ch:=[]) un hok bare (fun b z=>absurd z (by simp)),r,q⟩
end
def tCall(sp:Sp)(dvs:List V)(E:XK)(t:TA):TE:=fun σ H Q=>t σ H fun vs H1=>sp (vs++dvs) H1 Q E
def Binds(K:PySem.W.Frag)(fd:FuncData)(ps:List Str)(ds:List Value):Prop:=
 ∀(s:Shared)(us:List Value),K.In s.heap->(us++ds).length=ps.length->BindsTo s fd ⟨us,[]⟩ (ps.zip (us++ds))
theorem Binds.all(h:∀us:List Value,us.length=ps.length->bindArgs fd ⟨us,[]⟩=pure (ps.zip us)):Binds K fd ps []:=fun s us _ hl=>by
 rw[w1i]at hl |-
 exact .of_eq (h us hl)
section
variable{f C:Addr}{dvs:List V}{ds:List Value}{E:XK}{m:Str}{apos:Pos}{o:Expr}{t:TA}
structure Mk(K:PySem.W.Frag)(C f:Addr):Prop where
 makes:PySem.W.makesIn K C=true
 init:findIn K (.ref C) "__init__"=some (some (.ref f))
 fn:PySem.W.isFn K (.ref f)=true
 kp:keepIn K (.ref C)=true
end
section
variable{f C:Addr}{ks:List Str}{E:XK}{m:Str}{apos kpos:Pos}{o:Expr}{kws:List Keyword}{t tk:TA}{nm:Option Str}
structure KBinds(K:PySem.W.Frag)(fd:FuncData)(ps ks:List Str)(g:List Value->List Value->List Value)(gV:List V->List V->List V):Prop where
 to:∀(s:Shared)(us ws:List Value),K.In s.heap->(g us ws).length=ps.length->BindsTo s fd ⟨us,ks.zip ws⟩ (ps.zip (g us ws))
 rel:∀{vs:List V}{us:List Value}{zs:List V}{ws:List Value},Vals vs us->Vals zs ws->Vals (gV vs zs) (g us ws)
variable{g:List Value->List Value->List Value}{gV:List V->List V->List V}
end
structure FnScope(N P:List Str)(sc:Scope):Prop where
 kind:sc.kind=.function
 co:sc.isCoroutine=false
 gen:sc.isGenerator=false
 nd:N.Nodup
 pre:N.take P.length=P
 par:∀x∈P,sc.names.lookup x=some .local\/sc.names.lookup x=some .cell
 nofree:∀y∈sc.names,y.2≠.free
theorem q9g{kindOf:Str->Option NameKind}:∀{binds:List (Str×Value)}{m:Str->Option Value},(∀v,(x,v)∉binds)->bindL kindOf binds m x=m x
 |[],_,_=>rfl
 |(n,v)::r,m,h=>by
  unfold bindL;rw[q9g fun w hw=>h w (w0y _ hw)]
  split
  ·have:x≠n:=by rintro rfl;exact h v w1b
   simp[this]
  ·rfl
theorem q9h{kindOf:Str->Option NameKind}:∀{binds:List (Str×Value)}{m:Str->Option Value},(∀v,(x,v)∉binds)->bindC kindOf binds m x=m x
 |[],_,_=>rfl
 |(n,v)::r,m,h=>by
  unfold bindC;rw[q9h fun w hw=>h w (w0y _ hw)]
  split
  ·rfl
  ·have:x≠n:=by rintro rfl;exact h v w1b
   simp[this]
theorem q9i{kindOf:Str->Option NameKind}{x:Str}{v:Value}:∀{P:List Str}{vs:List Value}{i:Nat}{m:Str->Option Value},P.Nodup->P[i]?=some x->vs[i]?=some v->kindOf x=some .local ->
  bindL kindOf (P.zip vs) m x=some v
 |[],_,_,_,_,h,_,_=>by simp at h
 |_::_,[],_,_,_,_,h,_=>by simp at h
 |p::P,w::vs,0,m,nd,h1,h2,hk=>by
  simp at h1 h2;subst h1;subst h2;show bindL kindOf ((p,w)::P.zip vs) m p=_;unfold bindL;rw[q9g fun v hv=>(w1f.mp nd).1 (w1m hv).1,if_pos hk]
  simp
 |p::P,w::vs,i+1,m,nd,h1,h2,hk=>by
  show bindL kindOf ((p,w)::P.zip vs) m x=_;unfold bindL;exact q9i (i:=i) (w1f.mp nd).2 (by simpa using h1) (by simpa using h2) hk
theorem q9j{kindOf:Str->Option NameKind}{x:Str}{v:Value}:∀{P:List Str}{vs:List Value}{i:Nat}{m:Str->Option Value},P.Nodup->P[i]?=some x->vs[i]?=some v->kindOf x≠some .local ->
  bindC kindOf (P.zip vs) m x=some v
 |[],_,_,_,_,h,_,_=>by simp at h
 |_::_,[],_,_,_,_,h,_=>by simp at h
 |p::P,w::vs,0,m,nd,h1,h2,hk=>by
  simp at h1 h2;subst h1;subst h2;show bindC kindOf ((p,w)::P.zip vs) m p=_;unfold bindC;rw[q9h fun v hv=>(w1f.mp nd).1 (w1m hv).1,if_neg hk]
  simp
 |p::P,w::vs,i+1,m,nd,h1,h2,hk=>by
  show bindC kindOf ((p,w)::P.zip vs) m x=_;unfold bindC;exact q9j (i:=i) (w1f.mp nd).2 (by simpa using h1) (by simpa using h2) hk
noncomputable def start(N:List Str)(vs:List V):St:=vs.map some++List.replicate (N.length-vs.length) none
noncomputable def cxOf(CX:CXT)(P:Program)(w:World)(K:PySem.W.Frag)(mg:Str->Option Value)(base:Heap)(N:List Str)(qual:Str)(scope:Scope)(f:Addr)(cd:Value)(A:Around)(outer:List Env)(s:Shared)(H:Hp)(E:XK):Cx where
 prog:=P
 w:=w
 K:=K
 mg:=mg
 base:=base
 A:=A.deeper (envOfC qual scope s.heap.objs.size f cd)
 N:=N
 s₀:=s
 H₀:=H
 env:=envOfC qual scope s.heap.objs.size f cd
 outer:=outer
 stack:=envOfC qual scope s.heap.objs.size f cd::outer
 ex:=[]
 calm:=true
 fn:=fun _=>true
 pn:=[]
 xe:=fun e s'=>wpAny (model P w) (A.deeper (envOfC qual scope s.heap.objs.size f cd)) (leaving (envOfC qual scope s.heap.objs.size f cd) e) (fun _ s''=>CX outer H s E e s'') (fun e' s''=>CX outer H s E e' s'') s'
theorem x0y{sc:Scope}{n:Nat}(h:sc.names.lookup x=some .cell):∃c,(cellsFrom n sc.names []).lookup x=some c:=by
 have q:=cellsFrom_some sc.names n [] (.inl h);exact w1n.mp q
theorem q9k{qual:Str}{scope:Scope}{f:Addr}{cd:Value}{outer:List Env}{s1:Shared}{E:XK}{vs:List V}
  (S:FnScope N ps scope)(hd:A.handled=none)(e0:Env0 P w K mg base A outer s H)(hl:vs.length=ps.length)(r:Vals vs us)
  (x:InCallC s s.heap.objs.size (bindL (envOfC qual scope s.heap.objs.size f cd).kindOf (ps.zip us) fun _=>none) (cellsFrom (s.heap.objs.size+1) scope.names []) (bindC (envOfC qual scope s.heap.objs.size f cd).kindOf (ps.zip us) fun _=>none) s1):
  Inv (cxOf CX P w K mg base N qual scope f cd A outer s H E) [] (start N vs) H s1:=by
 have hpl:ps.length<=N.length:=by have:=congrArg List.length S.pre;rw[w2i]at this;omega
 obtain⟨h1,tk,rfl,hk⟩:=x.done;have noA:∀b:Addr,b∉(cxOf CX P w K mg base N qual scope f cd A outer s H E).ex:=fun b z=>absurd (show b∈([]:List Addr)from z) (by simp)
 refine⟨⟨e0.mod,S.kind,rfl,rfl,w0h _,fun y z c h1 h2=>?_,fun y hy=>?_,fun y c _ h=>?_,fun _=>hd,Around.frames_deeper e0.frames,.inr ⟨rfl,rfl⟩,fun b z=>absurd z (noA b),e0.bs,e0.bsz,fun b _ _=>noA b,fun b z=>absurd z (noA b),e0.funs,e0.frf,e0.tab⟩,
  rfl,e0.bare,Un.kept hk,⟨_,x.toInCall.ns,fun i y v h1 h2 h3=>?_⟩,fun y c h=>⟨_,x.cell y c h⟩,e0.hok.fresh (w0h _),fun y c h=>?_,fun p hp=>absurd (show p∈([]:List (Addr×Obj))from hp) (by simp),e0.hok.kept hk,?_⟩
 ·exact name_of_addr x.apart (PySem.mem_of_lookup h1) (PySem.mem_of_lookup h2)
 ·have hy:scope.names.lookup y=some .cell\/scope.names.lookup y=some .free:=hy;rcases hy with hy|hy
  ·exact x0y hy
  ·exact absurd rfl (S.nofree _ (PySem.mem_of_lookup hy))
 ·exact w4c (x.above y c (PySem.mem_of_lookup h))
 ·have hi:i<vs.length:=by
   unfold start at h2
   by_cases hi:i<vs.length
   ·exact hi
   ·rw[w1k (by simpa using hi)]at h2;rw[w1o]at h2;split at h2<;>cases h2
  have ha:vs[i]?=some v:=by
   unfold start at h2;rw[w0s (by simpa using hi),w0n]at h2;cases e:vs[i]? with
   |none=>rw[e]at h2;cases h2
   |some a=>rw[e]at h2;cases h2;rfl
  obtain⟨u,hu,rv⟩:=r.get ha
  have hp:ps[i]?=some y:=by
   rw[<- S.pre,List.getElem?_take_of_lt (by omega)];exact h1
  have ndP:ps.Nodup:=by rw[<- S.pre];exact S.nd.sublist (List.take_sublist _ _)
  refine⟨u,rv,?_⟩;rcases S.par y (w0i hp)with k|k
  ·exact .inl ⟨k,q9i ndP hp hu k⟩
  ·obtain⟨c,e⟩:=x0y (n:=s.heap.objs.size+1) k;refine .inr ⟨.inl k,c,e,?_⟩;have q:=x.cell y c e;rw[q9j ndP hp hu (by show scope.names.lookup y≠_;rw[k];decide)]at q;exact q
 ·exact e0.hok.fresh (w4c (x.above y c (PySem.mem_of_lookup h)))
 ·unfold start;show _=N.length;rw[w0v,w0b,w1u];omega
theorem y0j{f:Addr}{name qual:Str}{params:Arguments}{body:List Stmt}{scope:Scope}{dV kV doc pm cdv ct oc:Value}{an od:Option Addr}
  {osl:Array (Option Value)}(lk:K.lookup f=some ⟨oc,od,.func (PySem.W.fnOf name qual params body scope dV kV doc pm an cdv ct),osl⟩)(hcd:PySem.W.codeIn K cdv qual=true)(S:FnScope N ps scope)
  (len:∀vs H Q E,sp vs H Q E->vs.length=ps.length)
  (hbody:∀(A:Around)(outer:List Env)(s:Shared)(H:Hp)(vs:List V)(Q:VK)(E:XK),Room k (A.deeper (envOfC qual scope s.heap.objs.size f cdv))->sp vs H Q E ->
   ∃t,PSs (cxOf CX P w K mg base N qual scope f cdv A outer s H E) body t/\t {nx:=fun _ H'=>Q .non H',rt:=Q} (start N vs) H):
  FnOk P w K mg base CX (k+1) f (PySem.W.fnOf name qual params body scope dV kV doc pm an cdv ct) ps sp:=by
 refine⟨len,fun A outer s H args us vs Q E hr e0 hb r hsp=>?_⟩
 have hl:=len _ _ _ _ hsp;have KX:K.In s.heap:=e0.mod.kin.keeps fun b o e=>(e0.bs b o e).1
 have lim:s.heap.NoLimit:=e0.mod.nolimit.keeps fun b o e=>(e0.bs b o e).1
 have hkind:∀y∈ps.zip us,scope.names.lookup y.1=some .local\/(scope.names.lookup y.1=some .cell/\((cellsFrom (s.heap.objs.size+1) scope.names []).lookup y.1).isSome=true):=fun⟨n,v⟩ hy=>by
  rcases S.par n (w1m hy).1 with q|q
  ·exact .inl q
  ·exact .inr ⟨q,cellsFrom_some _ _ _ (.inl q)⟩
 refine codeAny_call_function hr.depth (KX _ _ lk) rfl S.co S.gen rfl (PySem.W.codeRec_of KX hcd) (hb _ _ _ _ ?_)
 refine wpAny_newFunctionEnv_cells S.kind hkind fun env he s1 x=>?_
 subst he;refine⟨lim.keeps x.toInCall.keep,codeAny_func ?_⟩
 obtain⟨t,ht,hq⟩:=hbody A outer s H vs Q E (hr.deeper _) hsp;have I:Inv (cxOf CX P w K mg base N qual scope f cdv A outer s H E) [] (start N vs) H s1:=q9k S hr.hd e0 hl r x;refine wpAny_mono (ht [] s1 (start N vs) H _ I hq) (fun fl s' hs=>?_) fun e s' hs=>hs
 have fin:∀{σ':St}{H':Hp}{v:V}{u:Value},Inv (cxOf CX P w K mg base N qual scope f cdv A outer s H E) [] σ' H' s'->RelV v u->Q v H'->CE outer P w H s Q u s':=
  fun {σ' H' v u} J rv q=>⟨v,H',J.os,J.bare,J.base,J.hok,rv,q⟩
 cases fl with
 |ret u=>
  obtain⟨v,σ',H',J,rv,q⟩:=hs;exact fin J rv q
 |next=>
  obtain⟨σ',H',J,q⟩:=hs;exact fin (v:=V.non) (u:=Value.none) J rfl q
 |brk=>
  obtain⟨_,_,_,q⟩:=hs;exact False.elim q
 |cont=>
  obtain⟨_,_,_,q⟩:=hs;exact False.elim q
section
variable{t:TA}{id T:String}{r:List V->Hp->VK->Prop}
def tCB(r:List V->Hp->VK->Prop)(t:TA):TE:=fun σ H Q=>t σ H fun vs H1=>r vs H1 Q
theorem q7e(hc:CallR X (.builtin id) r)(hg:Gl X x)(hm:X.mg x=none)(hv:bootBuiltins x=some (.builtin id))(ha:PA X (e::es) t)(hn:x≠"__name__":=by decide)(hdb:(x==("__debug__":Str))=false:=by decide)
  (he:starEach (e::es) X.env=(false,eval e X.env)::starEach es X.env:=by rfl)(hpl:(backTo pos (starEach es X.env)).any (·.1)=false:=by rfl):PE X (.Call (.Name x p) (e::es) [] pos) (tCB r t):=by
 intro pins s σ H Q I h;refine wpAny_Call_Name_kw (q4y I hg hm hv ?_ hn hdb);exact PyProof.Rows.callWith_builtin1 (thn (ha pos pins s σ H _ I h) fun us s1 ⟨vs,H1,I1,r1,q1⟩=>hc pins s1 σ H1 vs us Q I1 r1 q1) he hpl
theorem q9l(hc:CallR X (.type T) r)(hg:Gl X x)(hm:X.mg x=none)(hv:bootBuiltins x=some (.type T))(ha:PA X (e::es) t)(hn:x≠"__name__":=by decide)(hdb:(x==("__debug__":Str))=false:=by decide)
  (he:starEach (e::es) X.env=(false,eval e X.env)::starEach es X.env:=by rfl)(hpl:(backTo pos (starEach es X.env)).any (·.1)=false:=by rfl):PE X (.Call (.Name x p) (e::es) [] pos) (tCB r t):=by
 intro pins s σ H Q I h;refine wpAny_Call_Name_kw (q4y I hg hm hv ?_ hn hdb);exact PyProof.Rows.callWith_type1 (thn (ha pos pins s σ H _ I h) fun us s1 ⟨vs,H1,I1,r1,q1⟩=>hc pins s1 σ H1 vs us Q I1 r1 q1) he hpl
end
end L2
namespace HT
open PySem PyProof.Rows
section
variable{prog:Program}{w:World}{A:Around}{E:Value->Shared->Prop}{s:Shared}
theorem cat_tup{t b:Addr}{vs ws:List Value}{Q:Value->Shared->Prop}(ht:IsTup s.heap t vs.toArray)(hb:IsTup s.heap b ws.toArray)(hv:vs≠[])
  (h1:ws=[]->Q (.ref t) s)(h2:ws≠[]->Q (.ref s.heap.objs.size) {s with heap:=s.heap.push {cls:=.type "tuple", data:=.seq (vs++ws).toArray}})
  (hsz:vs.length+ws.length<=sizeLine):wpAny (model prog w) A (binaryOp .Add (.ref t) (.ref b)) Q E s:=by
 obtain⟨⟨cls,dd,data,sl⟩,ho,hc,n,hd⟩:=id ht;obtain⟨⟨cls2,dd2,data2,sl2⟩,ho2,hc2,n2,hd2⟩:=id hb;simp only at hc hd hc2 hd2;subst hc hd hc2 hd2;have e:vs.toArray++ws.toArray=(vs++ws).toArray:=by simp
 by_cases hw:ws=[]
 ·exact concat_meets ⟨_,ho,rfl⟩ ⟨_,ho2,rfl⟩ noFill_tuple_add seq_tuple_add PySem.F.slot_tuple_add PySem.F.entry_tuple_add (PySem.F.args_tuple_add_2 _ _)
   (tuple_addW1 t b vs.toArray ws.toArray n n2 dd dd2 sl sl2 (by simpa using hv) (by simp[hw])) ⟨ho,ho2,h1 hw⟩
 ·refine concat_meets ⟨_,ho,rfl⟩ ⟨_,ho2,rfl⟩ noFill_tuple_add seq_tuple_add PySem.F.slot_tuple_add PySem.F.entry_tuple_add (PySem.F.args_tuple_add_2 _ _)
   (tuple_addW2 t b vs.toArray ws.toArray n n2 dd dd2 sl sl2 (by simpa using hv) (by simpa using hw) (by rw[w0c,w0c];exact hsz)) ⟨ho,ho2,?_⟩
  rw[e];exact h2 hw
noncomputable def sIx(n d:Nat):Option Int->Nat
 |none=>d
 |some v=>if v<0 then(v+(n:Int)).toNat else min v.toNat n
theorem sIx_nat(n d k:Nat):sIx n d (some (k:Int))=min k n:=by
 show(if(k:Int)<0 then((k:Int)+(n:Int)).toNat else min (k:Int).toNat n)=min k n;rw[if_neg (by omega),w1x]
theorem y43(n d:Nat)(hd:d<=n)(o:Option Int):sIx n d o<=n:=by
 cases o with
 |none=>exact hd
 |some v=>
  show(if v<0 then(v+(n:Int)).toNat else min v.toNat n)<=n
  by_cases hv:v<0
  ·rw[if_pos hv];omega
  ·rw[if_neg hv];exact w3k _ _
theorem x2u(v:Int)(n d:Nat):(if v<0 then max (v+(n:Int)) 0 else min v (n:Int))=((sIx n d (some v):Nat):Int):=by
 show(if v<0 then max (v+(n:Int)) 0 else min v (n:Int))=(((if v<0 then(v+(n:Int)).toNat else min v.toNat n):Nat):Int)
 by_cases hv:v<0
 ·simp only[if_pos hv];omega
 ·simp only[if_neg hv];omega
theorem x3s(lo hi:Option Int)(n:Nat):Builtin.Slice.sliceAdjust lo hi 1 (n:Int)=(((sIx n 0 lo:Nat):Int),((sIx n n hi:Nat):Int)):=by
 have h1:¬((1:Int)<0):=by omega
 unfold Builtin.Slice.sliceAdjust;simp only[h1,if_false];refine Prod.ext ?_ ?_
 ·cases lo with
  |none=>rfl
  |some v=>exact x2u v n 0
 ·cases hi with
  |none=>rfl
  |some v=>exact x2u v n n
theorem x3t(i j:Nat):Builtin.Slice.slicePlaces (i:Int) (j:Int) 1=j-i:=by
 unfold Builtin.Slice.slicePlaces;have h1:(1:Int)>0:=by omega
 simp only[h1,if_true,Int.ediv_one];split<;>omega
theorem q71{v:Value}{o:Option Int}{Q:Option Int->Shared->Prop}(p:IsPart v o)(h:Q o s):wpAny (model prog w) A (Builtin.Slice.slicePartIndex v) Q E s:=by
 cases p with
 |none=>exact slicePart_none h
 |int i t=>exact slicePart_int h
theorem q7f{sl:Addr}{vl vu:Value}{lo hi:Option Int}{n:Nat}{Q:Int×Int×Nat->Shared->Prop}(hs:s.heap.IsSliceOf sl vl vu .none)(pl:IsPart vl lo)(pu:IsPart vu hi)
  (h:Q (((sIx n 0 lo:Nat):Int),1,sIx n n hi-sIx n 0 lo) s):wpAny (model prog w) A (Builtin.Slice.sliceApplied (.ref sl) (pure (n:Int))) Q E s:=by
 obtain⟨os,hos,hcs,hds⟩:=id hs;unfold Builtin.Slice.sliceApplied Builtin.Slice.sliceFields;refine wpAny_bind (wpAny_bind (wpAny_field hos hds (x:=vl) rfl (wpAny_bind (wpAny_field hos hds (x:=vu) rfl (wpAny_bind (wpAny_field hos hds (x:=.none) rfl (wpAny_pure ?_)))))));refine wpAny_bind (slicePart_none ?_);show wpAny _ _ (if((1:Int)==0)=true then _ else _) _ _ s;rw[if_neg (by decide)];refine wpAny_bind (q71 pl (wpAny_bind (q71 pu (wpAny_bind (wpAny_pure ?_)))));show wpAny _ _ (match Builtin.Slice.sliceAdjust lo hi 1 (n:Int)with|(lo,hi)=>pure (lo,(1:Int),Builtin.Slice.slicePlaces lo hi 1)) _ _ s;rw[x3s lo hi n];show wpAny _ _ (pure (((sIx n 0 lo:Nat):Int),(1:Int),Builtin.Slice.slicePlaces ((sIx n 0 lo:Nat):Int) ((sIx n n hi:Nat):Int) 1)) _ _ s;rw[x3t];exact wpAny_pure h
theorem x7t(xs:Array Value)(i k:Nat):((List.range k).filterMap fun(m:Nat)=>xs[((i:Int)+(m:Int)*1).toNat]?).toArray=((xs.toList.drop i).take k).toArray:=by
 have e:(fun(m:Nat)=>xs[((i:Int)+(m:Int)*1).toNat]?)=fun m=>xs[i+m]?:=by
  funext m
  have:((i:Int)+(m:Int)*1).toNat=i+m:=by omega
  rw[this]
 rw[e];have:=pick_run xs i k;rw[List.filterMap_map]at this;have e2:((fun x=>xs[x]?) ∘ fun x=>i+x)=fun m=>xs[i+m]?:=rfl
 rw[e2]at this;rw[this]
theorem getItem_tuple_cut{t sl:Addr}{items:Array Value}{vl vu:Value}{lo hi:Option Int}{Q:Value->Shared->Prop}(ht:IsTup s.heap t items)(hs:s.heap.IsSliceOf sl vl vu .none)(pl:IsPart vl lo)(pu:IsPart vu hi)
  (hw:¬(sIx items.size 0 lo=0/\sIx items.size items.size hi=items.size))
  (h:Q (.ref s.heap.objs.size) {s with heap:=s.heap.push {cls:=.type "tuple", data:=.seq ((items.toList.drop (sIx items.size 0 lo)).take (sIx items.size items.size hi-sIx items.size 0 lo)).toArray}})
  (hsz:items.size<=sizeLine):wpAny (model prog w) A (getItem (.ref t) (.ref sl)) Q E s:=by
 have htake:sizeOk (.seq ((items.toList.drop (sIx items.size 0 lo)).take (sIx items.size items.size hi-sIx items.size 0 lo)).toArray):=by
  show((items.toList.drop (sIx items.size 0 lo)).take (sIx items.size items.size hi-sIx items.size 0 lo)).toArray.size<=sizeLine;rw[w0c,w2i,w2s,w2w];exact w0w (w3k _ _) (w0w (Nat.sub_le _ _) hsz)
 have hj:sIx items.size items.size hi<=items.size:=y43 _ _ (w0h _) hi;obtain⟨os,hos,hcs,hds⟩:=id hs;have hTs:s.TypeIs (.ref sl) "slice":=⟨os,hos,hcs⟩;unfold getItem;try with_reducible refine wpAny_holding ?_
 first|refine wpAny_bind (wpAny_pure ?_)|skip
 refine wpAny_bind (wpAny_sequenceKey ht.typeIs (by decide) ?_)
 refine wpAny_bind (wpAny_callSpecial?_slot (name:=Str.ofString "__getitem__") ht.typeIs PyProof.Rows.slot_tuple_getitem
  (wpAny_call_entry PyProof.Rows.slot_tuple_getitem ht.typeIs entry_tuple_getitem ?_ (args_tuple_getitem _ _)))
 show wpAny _ _ (Builtin.Tuple.tupleItemsOf (.ref t) >>= _) _ _ s;refine wpAny_bind (tupleItemsOf_ ht ?_);refine wpAny_bind (wpAny_typeOf hTs ?_);rw[if_pos (by decide)];refine wpAny_bind (q7f hs pl pu ?_)
 have hno:¬((((sIx items.size 0 lo:Nat):Int)==0&&(1:Int)==1&&(sIx items.size items.size hi-sIx items.size 0 lo)==items.size)=true):=by
  intro q;rw[w1d,w1d]at q;have q1:((sIx items.size 0 lo:Nat):Int)=0:=eq_of_beq q.1.1;have q2:sIx items.size items.size hi-sIx items.size 0 lo=items.size:=eq_of_beq q.2;exact hw ⟨by omega,by omega⟩
 show wpAny _ _ (if(((sIx items.size 0 lo:Nat):Int)==0&&(1:Int)==1&&(sIx items.size items.size hi-sIx items.size 0 lo)==items.size)=true then _ else _) _ _ s;rw[if_neg hno,x7t]
 first
  |exact wpAny_bind (m:=Builtin.Tuple.tupleExact _) (wpAny_newObj_type (wpAny_pure ⟨_,rfl,wpAny_pure h⟩) htake)
  |exact wpAny_bind (m:=Builtin.Tuple.tupleExact _) (wpAny_newObj_type (wpAny_bind (wpAny_pure (wpAny_pure ⟨_,rfl,wpAny_pure h⟩))) htake)
  |exact wpAny_bind (wpAny_bind (m:=Builtin.Tuple.tupleExact _) (wpAny_newObj_type (wpAny_pure (wpAny_pure ⟨_,rfl,wpAny_pure h⟩)) htake))
  |exact wpAny_bind (wpAny_bind (m:=Builtin.Tuple.tupleExact _) (wpAny_newObj_type (wpAny_pure ⟨_,rfl,wpAny_pure h⟩) htake))
end
end HT
namespace L2
open PySem PySem.Spec PyProof.Rows
variable{X:Cx}{H:Hp}{pins:List (Addr×Obj)}{xs:List V}{its us:List Value}{n:Nat}{s:Shared}{σ:St}{α:Type}{x:V}
abbrev TO:=St->Hp->(Option Int->Hp->Prop)->Prop
def PO(X:Cx)(e:Option Expr)(t:TO):Prop:=
 ∀(pins:List (Addr×Obj))(s:Shared)(σ:St)(H:Hp)(Q:Option Int->Hp->Prop),Inv X pins σ H s->t σ H Q ->
  wpAny (model X.prog X.w) X.A (evalPart e X.env) (fun u s'=>∃o H',Inv X pins σ H' s'/\IsPart u o/\Q o H') X.xe s
def tNoPart:TO:=fun _ H Q=>Q none H
def tPart(t:TE):TO:=fun σ H Q=>t σ H fun x H1=>∃i,x=.int i/\Q (some i) H1
section
variable{e:Expr}{te:TE}{lo hi:Option Expr}{tl th:TO}{pos p2:Pos}
theorem y08:PO X none tNoPart:=by
 intro pins s σ H Q I h;rw[evalPart_none];exact wpAny_pure ⟨none,H,I,.none,h⟩
theorem y09(h:PE X e te):PO X (some e) (tPart te):=by
 intro pins s σ H Q I hw;rw[evalPart_some];refine thn (h pins s σ H _ I hw) fun u s1 ⟨x,H1,I1,r1,q1⟩=>?_
 obtain⟨i,rfl,q⟩:=q1;obtain⟨t,rfl⟩:=r1;exact⟨some i,H1,I1,.int i t,q⟩
def SlR(X:Cx)(r:V->Option Int->Option Int->Hp->VK->Prop):Prop:=
 ∀(pins:List (Addr×Obj))(s:Shared)(σ:St)(H:Hp)(x:V)(v vl vu:Value)(lo hi:Option Int)(sl:Addr)(Q:VK),Inv X pins σ H s->RelV x v->s.heap.IsSliceOf sl vl vu .none->IsPart vl lo->IsPart vu hi->r x lo hi H Q ->
  ∃T id,typeLookup (.type T) "__getitem__"=pure (some (.builtin id))/\s.TypeIs v T/\wpAny (model X.prog X.w) X.A (getItem v (.ref sl)) (EP X pins σ Q) X.xe s
theorem SlR.or{r r':V->Option Int->Option Int->Hp->VK->Prop}(h:SlR X r)(h':SlR X r'):SlR X (fun x lo hi H Q=>r x lo hi H Q\/r' x lo hi H Q):=by
 intro pins s σ H x v vl vu lo hi sl Q I rx hs pl pu q;rcases q with q|q
 ·exact h pins s σ H x v vl vu lo hi sl Q I rx hs pl pu q
 ·exact h' pins s σ H x v vl vu lo hi sl Q I rx hs pl pu q
def tSl(r:V->Option Int->Option Int->Hp->VK->Prop)(te:TE)(tl th:TO):TE:=fun σ H Q=>te σ H fun x H1=>tl σ H1 fun l H2=>th σ H2 fun u H3=>r x l u H3 Q
theorem x7u{r:V->Option Int->Option Int->Hp->VK->Prop}(hr:SlR X r)(he:PE X e te)(hl:PO X lo tl)(hu:PO X hi th):PE X (.Subscript e (.Slice lo hi none p2) pos) (tSl r te tl th):=by
 intro pins s σ H Q I h;refine Subscript_ (thn (he pins s σ H _ I h) fun v s1 ⟨x,H1,I1,r1,q1⟩=>?_)
 refine wpAny_Slice (thn (hl pins s1 σ H1 _ I1 q1) fun vl s2 ⟨l,H2,I2,pl,q2⟩=>thn (hu pins s2 σ H2 _ I2 q2) fun vu s3 ⟨u,H3,I3,pu,q3⟩=>?_)
 rw[evalPart_none];refine wpAny_pure ?_;have I4:Inv X pins σ H3 {s3 with heap:=s3.heap.push {cls:=.type "slice", data:=.fields #[vl,vu,.none]}}:=I3.kept (t':=s3.toks) fun b ob q=>Heap.get?_push_of_some _ q
 obtain⟨T,id,hT,ht,hg⟩:=hr pins {s3 with heap:=s3.heap.push {cls:=.type "slice", data:=.fields #[vl,vu,.none]}} σ H3 x v vl vu l u s3.heap.objs.size Q I4 r1 (Heap.IsSliceOf.new ..) pl pu q3;show wpAny (model X.prog X.w) X.A (subscriptTail e (.Slice lo hi none p2) v (.ref s3.heap.objs.size)) (EP X pins σ Q) X.xe {s3 with heap:=s3.heap.push {cls:=.type "slice", data:=.fields #[vl,vu,.none]}};exact tail_any (ops:=[.ref s3.heap.objs.size,v]) ht hT hg (by with_unfolding_all rfl)
noncomputable def cutV(xs:List V)(lo hi:Option Int):List V:=(xs.drop (HT.sIx xs.length 0 lo)).take (HT.sIx xs.length xs.length hi-HT.sIx xs.length 0 lo)
theorem q66(xs:List V)(lo hi:Option Int):(cutV xs lo hi).length<=xs.length:=by
 unfold cutV;rw[w2i,w2s];exact w0w (w3k _ _) (Nat.sub_le _ _)
def rSlT(K:PySem.W.Frag):V->Option Int->Option Int->Hp->VK->Prop:=fun x lo hi H Q=>∃a xs,x=.ref a/\SqT K H a xs /\
 ¬(HT.sIx xs.length 0 lo=0/\HT.sIx xs.length xs.length hi=xs.length)/\∀p,H p=none->Q (.ref p) (upd H p (.tup (cutV xs lo hi)))
theorem y44:SlR X (rSlT X.K):=by
 intro pins s σ H x v vl vu lo hi sl Q I rx hs pl pu h;obtain⟨a,xs,rfl,hx,hw,q⟩:=h;cases rx;obtain⟨its,r,ht,hz⟩:=I.tuple hx;have hlen:its.toArray.size=xs.length:=by rw[w0c];exact r.length.symm
 refine⟨"tuple", _,PyProof.Rows.slot_tuple_getitem.lookup,ht.typeIs,?_⟩;refine HT.getItem_tuple_cut ht hs pl pu (by rw[hlen];exact hw) ?_ (by rw[hlen];exact hz);rw[hlen];refine⟨.ref s.heap.objs.size,_,I.laid (t':=s.toks) (o:=.tup (cutV xs lo hi)) (fun b ob q=>Heap.get?_push_of_some _ q) (w0h _) ?_,rfl,q _ (I.hok.fresh (w0h _))⟩
 exact⟨w0w (q66 xs lo hi) hz,_,(r.drop (HT.sIx xs.length 0 lo)).take (HT.sIx xs.length xs.length hi-HT.sIx xs.length 0 lo),IsTup.new _ _,_,Heap.get?_push_size _ rfl,rfl⟩
def rCatT(K:PySem.W.Frag):R2:=fun x y H Q=>∃a b xs ys,x=.ref a/\y=.ref b/\SqT K H a xs/\SqT K H b ys/\xs≠[]/\xs.length+ys.length<=sizeLine /\
 (ys=[]->Q (.ref a) H)/\(ys≠[]->∀p,H p=none->Q (.ref p) (upd H p (.tup (xs++ys))))
theorem Vals.nil_iff(r:Vals xs us):us=[]↔xs=[]:=by
 cases r with
 |nil=>simp
 |cons _ _=>simp
theorem op_catT:OpR X (binaryOp .Add) (rCatT X.K):=by
 intro pins s σ H x y v u Q I rx ry h;obtain⟨a,b,xs,ys,rfl,rfl,ha,hb,hx,hz,q1,q2⟩:=h;cases rx;cases ry;obtain⟨its,r1,p1,_⟩:=I.tuple ha;obtain⟨its2,r2,p2,_⟩:=I.tuple hb;refine HT.cat_tup p1 p2 (fun z=>hx (r1.nil_iff.mp z)) (fun z=>⟨.ref a,H,I,rfl,q1 (r2.nil_iff.mp z)⟩) (fun z=>?_) (by rw[<- r1.length,<- r2.length];exact hz)
 refine⟨.ref s.heap.objs.size,_,I.laid (t':=s.toks) (o:=.tup (xs++ys)) (fun b ob q=>Heap.get?_push_of_some _ q) (w0h _) ?_,rfl,q2 (fun w=>z (r2.nil_iff.mpr w)) _ (I.hok.fresh (w0h _))⟩
 exact⟨by rw[w0v];exact hz,_,r1.append r2,IsTup.new _ _,_,Heap.get?_push_size _ rfl,rfl⟩
end
noncomputable def ixN(n:Nat)(i:Int):Option Nat:=if 0<=i then(if i<n then some i.toNat else none)else if -(n:Int)<=i then some (i+n).toNat else none
noncomputable def atI(xs:List α)(i:Int):Option α:=(ixN xs.length i).bind fun j=>xs[j]?
theorem q8t{i:Int}{j:Nat}(h:ixN n i=some j):seqIndex? i n=some j/\j<n/\-(n:Int)<=i/\i<n:=by
 unfold ixN at h
 by_cases h0:0<=i
 ·rw[if_pos h0]at h
  by_cases h1:i<n
  ·rw[if_pos h1]at h;have e:i.toNat=j:=Option.some.inj h;exact⟨by rw[seqIndex_of h0 h1,e],by omega,by omega,h1⟩
  ·rw[if_neg h1]at h;cases h
 ·rw[if_neg h0]at h
  by_cases h1:-(n:Int)<=i
  ·rw[if_pos h1]at h;have e:(i+n).toNat=j:=Option.some.inj h;exact⟨by rw[seqIndex_neg (by omega) h1,e],by omega,h1,by omega⟩
  ·rw[if_neg h1]at h;cases h
theorem q8u{xs:List α}{i:Int}{v:α}(h:atI xs i=some v):∃j,seqIndex? i xs.length=some j/\xs[j]?=some v/\j<xs.length/\-(xs.length:Int)<=i/\i<xs.length:=by
 unfold atI at h;cases e:ixN xs.length i with
 |none=>rw[e]at h;cases h
 |some j=>
  rw[e]at h;obtain⟨h1,h2,h3,h4⟩:=q8t e;exact⟨j,h1,h,h2,h3,h4⟩
theorem q3q{xs:List α}{j:Nat}{v:α}(h:xs[j]?=some v):atI xs (j:Int)=some v:=by
 have hj:j<xs.length:=(w0a.mp h).1
 have e:ixN xs.length (j:Int)=some j:=by
  unfold ixN;rw[if_pos (by omega),if_pos (by omega)];simp
 unfold atI;rw[e];exact h
def PlainIx(b:Expr):Prop:=∀o i,subscripted b false o i=operate [o,i] (getItem o i)
def IxR(X:Cx)(r:R2):Prop:=
 ∀(value slice:Expr)(pins:List (Addr×Obj))(s:Shared)(σ:St)(H:Hp)(x y:V)(v u:Value)(Q:VK),Inv X pins σ H s->RelV x v->RelV y u->r x y H Q ->
  subscripted slice false v u=operate [v,u] (getItem v u)->wpAny (model X.prog X.w) X.A (subscriptTail value slice v u) (EP X pins σ Q) X.xe s
def MtR(X:Cx)(id:String)(r:V->List V->Hp->VK->Prop):Prop:=
 ∀(pins:List (Addr×Obj))(s:Shared)(σ:St)(H:Hp)(x:V)(xs:List V)(v:Value)(us:List Value)(Q:VK),Inv X pins σ H s->RelV x v->Vals xs us->r x xs H Q ->
  wpAny (model X.prog X.w) X.A (call (.builtin id) (v::us)) (EP X pins σ Q) X.xe s
section
variable{a b:Expr}{ta tb:TE}{pos:Pos}
theorem IxR.or{r r':R2}(h:IxR X r)(h':IxR X r'):IxR X (fun x y H Q=>r x y H Q\/r' x y H Q):=by
 intro value slice pins s σ H x y v u Q I rx ry q hs;rcases q with q|q
 ·exact h value slice pins s σ H x y v u Q I rx ry q hs
 ·exact h' value slice pins s σ H x y v u Q I rx ry q hs
theorem q6v{r:R2}(hr:IxR X r)(ha:PE X a ta)(hb:PE X b tb)(hs:PlainIx b):PE X (.Subscript a b pos) (tOp r ta tb):=by
 intro pins s σ H Q I h;exact Subscript_ (binT ha hb I h fun v u s2 x y H2 I2 rx ry q=>hr a b pins s2 σ H2 x y v u Q I2 rx ry q (hs _ _))
def rIxL(K:PySem.W.Frag):R2:=fun x y H Q=>∃p xs i v,x=.ref p/\y=.int i/\SqL K H p xs/\atI xs i=some v/\Q v H
def rIxT(K:PySem.W.Frag):R2:=fun x y H Q=>∃p xs i v,x=.ref p/\y=.int i/\SqT K H p xs/\atI xs i=some v/\Q v H
def rIxS:R2:=fun x y H Q=>∃z i c,x=.str z/\y=.int i/\z.length<=sizeLine/\atI z.cps.toList i=some c/\Q (.str ⟨#[c]⟩) H
theorem ix_list:IxR X (rIxL X.K):=by
 intro value slice pins s σ H x y v u Q I rx ry h hs;obtain⟨p,xs,i,z,rfl,rfl,hq,he,q⟩:=h;cases rx;obtain⟨t,rfl⟩:=ry;obtain⟨its,r,pl,hz⟩:=I.list hq;obtain⟨j,h1,h2,h3,h4,h5⟩:=q8u he;obtain⟨w,ew,rw'⟩:=r.get h2;have hl:=r.length;have hn:=line63;have fin:EP X pins σ Q w s:=⟨z,H,I,rw',q⟩
 by_cases h0:0<=i
 ·have hj:i.toNat=j:=by
   rw[seqIndex_of h0 h5]at h1;exact Option.some.inj h1
  exact item_listR pl.isList h0 (by omega) (by rw[hj];simpa using ew) fin hs
 ·have hj:(i+(its.toArray.size:Int)).toNat=j:=by
   rw[seqIndex_neg (by omega) h4]at h1;rw[w0c,<- hl];exact Option.some.inj h1
  exact subscriptTail_builtinR (x:=w) pl.isList.typeIs slot_list_getitem.lookup
   (wpAny_getItem_list_neg (Q:=fun r s'=>r=w/\EP X pins σ Q r s') pl.isList (by omega) (by rw[w0c]<;>omega) (by omega) (by rw[hj];simpa using ew) ⟨rfl,fin⟩) hs
theorem ix_tup:IxR X (rIxT X.K):=by
 intro value slice pins s σ H x y v u Q I rx ry h hs;obtain⟨p,xs,i,z,rfl,rfl,hq,he,q⟩:=h;cases rx;obtain⟨t,rfl⟩:=ry;obtain⟨its,r,pl,hz⟩:=I.tuple hq;obtain⟨j,h1,h2,h3,h4,h5⟩:=q8u he;obtain⟨w,ew,rw'⟩:=r.get h2;have hl:=r.length;have hn:=line63;have fin:EP X pins σ Q w s:=⟨z,H,I,rw',q⟩
 exact subscriptTail_builtinR (x:=w) pl.typeIs slot_tuple_getitem.lookup
  (getItem_tuple (j:=j) (Q:=fun r s'=>r=w/\EP X pins σ Q r s') pl (by omega) (by omega) (by rw[w0c,<- hl];exact h1) (by simpa using ew) ⟨rfl,fin⟩) hs
theorem y45:IxR X rIxS:=by
 intro value slice pins s σ H x y v u Q I rx ry h hs;obtain⟨z,i,c,rfl,rfl,hz,he,q⟩:=h;obtain⟨t,rfl⟩:=rx;obtain⟨t',rfl⟩:=ry;obtain⟨j,h1,h2,h3,h4,h5⟩:=q8u he;have hl:z.cps.toList.length=z.length:=by simp[Str.length]
 rw[hl]at h1 h4 h5;have hn:=line63
 exact tail_any (typeIs_str s z t) slot_str_getitem.lookup (getItem_str (c:=c) (by
  have e1:decide (i < -(2^63:Int))=false:=decide_eq_false (by omega);have e2:decide (i>=2^63)=false:=decide_eq_false (by omega);rw[e1,e2,Bool.or_false]) (by rw[h1];simpa using h2) ⟨.str ⟨#[c]⟩,H,I.tok _,⟨_,rfl⟩,q⟩) hs
def rIx(K:PySem.W.Frag):R2:=fun x y H Q=>rIxL K x y H Q\/rIxT K x y H Q\/rIxS x y H Q
theorem x43:IxR X (rIx X.K):=ix_list.or (ix_tup.or y45)
theorem x3u(its:List Value)(n j:Nat)(u:Value):Obj.mapSeq (·.setIfInBounds j u) {cls:=.type "list", data:=.seq its.toArray n}={cls:=.type "list", data:=.seq (its.set j u).toArray n}:=by
 simp[Obj.mapSeq]
theorem Inv.lst{p:Addr}(I:Inv X pins σ H s)(h:H p=some (.lst xs)):
  ∃(its:List Value)(n:Nat),Vals xs its/\s.heap.get? p=some {cls:=.type "list", data:=.seq its.toArray n}/\xs.length<=sizeLine:=by
 obtain⟨z,its,n,r,e⟩:=I.hok p _ h;exact⟨its,n,r,e,z⟩
theorem Inv.lstUpd{p:Addr}{ys:List V}{its':List Value}{n':Nat}{f:Obj->Obj}(I:Inv X pins σ H s)(h:H p=some (.lst xs))
  (ho:s.heap.get? p=some {cls:=.type "list", data:=.seq its.toArray n})(hf:f {cls:=.type "list", data:=.seq its.toArray n}={cls:=.type "list", data:=.seq its'.toArray n'})(r:Vals ys its')(hz:ys.length<=sizeLine)(t:Nat):
  Inv X pins σ (upd H p (.lst ys)) {s with heap:=s.heap.update p f,toks:=t}:=by
 have e:(s.heap.update p f).get? p=some {cls:=.type "list", data:=.seq its'.toArray n'}:=by
  rw[Heap.get?_update_self f ho (by rw[hf]<;>rfl),hf]
 refine I.write (x:=p) (e:=p) (by rw[h];trivial) (.inl rfl) (fun b u hb q=>(Heap.get?_update_other _ _ (Ne.symm hb)).trans q) ⟨_,e⟩ ?_
 exact⟨hz,its',n',r,e⟩
def rSetL:V->V->V->Hp->(Hp->Prop)->Prop:=fun o i v H Q=>∃p xs k j,o=.ref p/\i=.int k/\H p=some (.lst xs)/\ixN xs.length k=some j/\Q (upd H p (.lst (xs.set j v)))
theorem x7v:PSet X rSetL:=by
 intro pins s σ H o i v ov iv u Q I ro ri rv h;obtain⟨p,xs,k,j,rfl,rfl,hp,hj,q⟩:=h;cases ro;obtain⟨t,rfl⟩:=ri;obtain⟨its,n,r,ho,hz⟩:=I.lst hp;obtain⟨h1,h2,h3,h4⟩:=q8t hj;have hl:=r.length;have hn:=line63
 have I':Inv X pins σ (upd H p (.lst (xs.set j v))) {s with heap:=s.heap.update p (Obj.mapSeq (·.setIfInBounds j u))}:=
  I.lstUpd hp ho (x3u its n j u) (r.set rv j) (by rw[w3q];exact hz) s.toks
 by_cases h0:0<=k
 ·have hk:k.toNat=j:=by
   rw[seqIndex_of h0 h4]at h1;exact Option.some.inj h1
  exact PySem.W.ki_setAt ho h0 (by omega) (by rw[w0c,<- hl];exact h4) (by rw[hk];exact⟨_,I',q⟩)
 ·have hk:(k+(its.toArray.size:Int)).toNat=j:=by
   rw[seqIndex_neg (by omega) h3]at h1;rw[w0c,<- hl];exact Option.some.inj h1
  exact PySem.W.ki_setBack ho (by omega) (by rw[w0c,<- hl];exact h3) (by omega) (by rw[hk];exact⟨_,I',q⟩)
theorem x0z(lo hi:Option Int)(n:Nat):(sliceBounds lo hi none n).1=((HT.sIx n 0 lo:Nat):Int)/\(sliceBounds lo hi none n).2.1=((HT.sIx n n hi:Nat):Int)/\(sliceBounds lo hi none n).2.2=1:=by
 refine⟨?_,?_,rfl⟩
 ·cases lo with
  |none=>simp[sliceBounds,HT.sIx]
  |some i=>
   simp only[sliceBounds,HT.sIx,Option.getD_none,show(1:Int)>0 by decide,if_true]
   by_cases h:i<0
   ·simp only[h,if_true]<;>omega
   ·simp only[h,if_false]<;>omega
 ·cases hi with
  |none=>simp[sliceBounds,HT.sIx]
  |some i=>
   simp only[sliceBounds,HT.sIx,Option.getD_none,show(1:Int)>0 by decide,if_true]
   by_cases h:i<0
   ·simp only[h,if_true]<;>omega
   ·simp only[h,if_false]<;>omega
theorem x0e(its:List Value)(lo hi:Option Int):slicePick its.toArray lo hi none=((its.drop (HT.sIx its.length 0 lo)).take (HT.sIx its.length its.length hi-HT.sIx its.length 0 lo)).toArray:=by
 obtain⟨h1,h2,h3⟩:=x0z lo hi its.toArray.size;unfold slicePick;rw[h1,h2,h3];simp only[sliceRange_one,pick_run,w0c]<;>rfl
def rSlL(K:PySem.W.Frag):V->Option Int->Option Int->Hp->VK->Prop:=fun x lo hi H Q=>∃a xs,x=.ref a/\SqL K H a xs/\∀p,H p=none->Q (.ref p) (upd H p (.lst (cutV xs lo hi)))
theorem sl_list:SlR X (rSlL X.K):=by
 intro pins s σ H x v vl vu lo hi sl Q I rx hs pl pu h;obtain⟨a,xs,rfl,hx,q⟩:=h;cases rx;obtain⟨its,r,ht,hz⟩:=I.list hx;have hlen:=r.length;refine⟨"list", _,slot_list_getitem.lookup,ht.isList.typeIs,?_⟩;refine wpAny_getItem_list_slice ht.isList hs pl pu .none (by simp) ?_ (by rw[w0c]<;>omega);rw[x0e,<- hlen];refine⟨.ref s.heap.objs.size,_,I.laid (t':=s.toks) (o:=.lst (cutV xs lo hi)) (fun b ob q=>Heap.get?_push_of_some _ q) (w0h _) ?_,rfl,q _ (I.hok.fresh (w0h _))⟩
 exact⟨w0w (q66 xs lo hi) hz,_,0,(r.drop (HT.sIx xs.length 0 lo)).take (HT.sIx xs.length xs.length hi-HT.sIx xs.length 0 lo),Heap.get?_push_size _ rfl⟩
theorem x00:CallR X (.type "list") (fun xs H Q=>∃p ys,xs=[.ref p]/\(SqL X.K H p ys\/SqT X.K H p ys)/\∀l,H l=none->Q (.ref l) (upd H l (.lst ys))):=by
 intro pins s σ H xs us Q I r h;obtain⟨p,ys,rfl,hq,q⟩:=h;obtain⟨u,rfl,rx⟩:=vals1 r;cases rx
 have fin:∀(its:List Value),Vals ys its->ys.length<=sizeLine->∀(h':Heap)(c':Nat),(∀b o',s.heap.get? b=some o'->h'.get? b=some o') ->
   h'.get? s.heap.objs.size=some {cls:=.type "list", dict:=none,data:=.seq its.toArray c',slots:=#[]}->EP X pins σ Q (.ref s.heap.objs.size) {s with heap:=h'}:=fun its r' hz h' c' kp e=>
  ⟨.ref s.heap.objs.size,_,I.laid (t':=s.toks) kp (w0h _) (show ObjOk X.prog X.w _ h' _ (.lst ys)from⟨hz,its,c',r',e⟩),rfl,q _ (I.hok.fresh (w0h _))⟩
 rcases hq with hq|hq
 ·obtain⟨its,r',pl,hz⟩:=I.list hq;have hlen:=r'.length;obtain⟨o,ho,hc,n,hd⟩:=pl.isList;exact call_list_seq p (.inl rfl) ho hc hd (fun h' c' kp e=>fin its r' hz h' c' kp e) (by simp only[w0c]<;>omega)
 ·obtain⟨its,r',pl,hz⟩:=I.tuple hq;have hlen:=r'.length;obtain⟨o,ho,hc,n,hd⟩:=pl;exact call_list_seq p (.inr rfl) ho hc hd (fun h' c' kp e=>fin its r' hz h' c' kp e) (by simp only[w0c]<;>omega)
theorem x0f:CallR X (.type "tuple") (fun xs H Q=>∃p ys,xs=[.ref p]/\((SqL X.K H p ys/\∀l,H l=none->Q (.ref l) (upd H l (.tup ys)))\/(SqT X.K H p ys/\Q (.ref p) H))):=by
 intro pins s σ H xs us Q I r h;obtain⟨p,ys,rfl,h⟩:=h;obtain⟨u,rfl,rx⟩:=vals1 r;cases rx;rcases h with⟨hq,q⟩|⟨hq,q⟩
 ·obtain⟨its,r',pl,hz⟩:=I.list hq;have hlen:=r'.length;refine call_tuple_list pl.isList (fun h' kp=>?_) (by simp only[w0c]<;>omega)
  have I1:Inv X pins σ H {s with heap:=h'}:=I.kept (t':=s.toks) kp
  have I2:Inv X pins σ (upd H h'.objs.size (.tup ys)) {s with heap:=h'.push {cls:=.type "tuple", data:=.seq its.toArray}}:=
   I1.laid (t':=s.toks) (fun b o e=>Heap.get?_push_of_some _ e) (w0h _) (show ObjOk X.prog X.w _ _ _ (.tup ys)from⟨hz,its,r',IsTup.new _ _,_,Heap.get?_push_size _ rfl,rfl⟩)
  exact⟨.ref h'.objs.size,_,I2,rfl,q _ (I1.hok.fresh (w0h _))⟩
 ·obtain⟨its,r',pl,hz⟩:=I.tuple hq;exact call_tuple_same pl ⟨.ref p,H,I,rfl,q⟩
def tyV(K:PySem.W.Frag)(T:String)(x:V)(H:Hp):Prop:=match x with
 |.str _=>T="str"
 |.int _=>T="int"
 |.ref p=>(T="list" /\ ∃xs,SqL K H p xs)\/(T="tuple" /\ ∃o,K.lookup p=some o/\o.cls=.type "tuple" /\ o.dict=none) \/
   (T="dict" /\ ((∃kvs,H p=some (.dK kvs))\/∃sh kvs kas,H p=some (.dT sh kvs kas)))\/(T="set" /\ ∃S n,H p=some (.set S n))
 |_=>False
theorem x44{T:String}{v:Value}(I:Inv X pins σ H s)(r:RelV x v)(ty:tyV X.K T x H):
  s.TypeIs v T/\∀a,v=.ref a->∃ob,s.heap.get? a=some ob/\ob.dict=none:=by
 cases x with
 |str z=>
  obtain⟨t,rfl⟩:=r;cases(show T="str" from ty);exact⟨typeIs_str s z t,fun _ e=>nomatch e⟩
 |int i=>
  obtain⟨t,rfl⟩:=r;cases(show T="int" from ty);exact⟨typeIs_int s i t,fun _ e=>nomatch e⟩
 |ref p=>
  cases r;rcases ty with⟨rfl,xs,hq⟩|⟨rfl,o,hk,hc,hd⟩|⟨rfl,hk⟩|⟨rfl,S,n,hk⟩
  ·obtain⟨its,_,pl,_⟩:=I.list hq;refine⟨pl.isList.typeIs,fun a e=>?_⟩
   cases e;obtain⟨o,n,e,c,hd,_⟩:=pl;exact⟨o,e,hd⟩
  ·refine⟨⟨o,I.kIn p o hk,hc⟩,fun a e=>?_⟩
   cases e;exact⟨o,I.kIn _ o hk,hd⟩
  ·have z:∃o,s.heap.get? p=some o/\o.ExactDict:=by
    rcases hk with⟨kvs,hk⟩|⟨sh,kvs,kas,hk⟩
    ·obtain⟨_,_,_,_,o,_,_,e,ex,_⟩:=I.hok p _ hk;exact⟨o,e,ex⟩
    ·obtain⟨_,_,_,_,_,o,_,_,e,ex,_⟩:=I.hok p _ hk;exact⟨o,e,ex⟩
   obtain⟨o,e,ex⟩:=z;refine⟨⟨o,e,ex.1⟩,fun a e2=>?_⟩
   cases e2;exact⟨o,e,ex.2.1⟩
  ·obtain⟨o,_,_,_,e,ex,_⟩:=I.hok p _ hk;refine⟨⟨o,e,ex.1⟩,fun a e2=>?_⟩
   cases e2;exact⟨o,e,ex.2.1⟩
 |_=>exact False.elim ty
def tBM0(K:PySem.W.Frag)(T:String)(r:V->List V->Hp->VK->Prop)(to:TE):TE:=fun σ H Q=>to σ H fun x H1=>tyV K T x H1/\r x [] H1 Q
def tBM(K:PySem.W.Frag)(T:String)(r:V->List V->Hp->VK->Prop)(to:TE)(t:TA):TE:=fun σ H Q=>to σ H fun x H1=>tyV K T x H1/\t σ H1 fun xs H2=>r x xs H2 Q
variable{o e:Expr}{es:List Expr}{to:TE}{t:TA}{name:Str}{apos cpos:Pos}{T id:String}{r:V->List V->Hp->VK->Prop}
theorem y46(pa:PlainAttrs T)(slot:Slot T name id)(hty:typeOf (.builtin id)=pure (.type "method_descriptor"))(hm:MtR X id r)(ho:PE X o to)
  (hbase:attributeBase o name X.env (eval o X.env)=eval o X.env:=by rfl)(hline:(apos.endLine==cpos.line)=true:=by rfl):PE X (.Call (.Attribute o name apos) [] [] cpos) (tBM0 X.K T r to):=by
 intro pins s σ H Q I h;refine wpAny_Call_method0_late hbase hline (thn (ho pins s σ H _ I h) fun v s1 ⟨x,H1,I1,r1,ty,q1⟩=>?_)
 obtain⟨h1,h2⟩:=x44 I1 r1 ty;exact⟨T,id,pa,slot,hty,h1,h2,Calls.callWith_builtin rfl (PySem.evalArgs_none (hm pins s1 σ H1 x [] v [] Q I1 r1 .nil q1))⟩
theorem y0k(pa:PlainAttrs T)(slot:Slot T name id)(hty:typeOf (.builtin id)=pure (.type "method_descriptor"))(hm:MtR X id r)(ho:PE X o to)(ha:PA X (e::es) t)
  (hbase:attributeBase o name X.env (eval o X.env)=eval o X.env:=by rfl)
  (hfew:((backTo cpos (starEach (e::es) X.env)).all (fun x=>!x.1)&&(backToKw cpos (keywordEach [] X.env)).all (fun x=>x.1.isSome)
   && decide ((e::es).length+([]:List Keyword).length+(if([]:List Keyword).isEmpty then 0 else 1)<30))=true:=by rfl)
  (hline:(apos.endLine==cpos.line)=true:=by rfl)(hs:starEach (e::es) X.env=(false,eval e X.env)::starEach es X.env:=by rfl)(hplain:(backTo cpos (starEach es X.env)).any (·.1)=false:=by rfl):
  PE X (.Call (.Attribute o name apos) (e::es) [] cpos) (tBM X.K T r to t):=by
 intro pins s σ H Q I h;refine wpAny_Call_method_late hbase hfew hline rfl (thn (ho pins s σ H _ I h) fun v s1 ⟨x,H1,I1,r1,ty,q1⟩=>?_)
 obtain⟨h1,h2⟩:=x44 I1 r1 ty;refine⟨T,id,pa,slot,hty,h1,h2,?_⟩;have hA:=ha cpos pins s1 σ H1 _ I1 q1;rw[hs]at hA |-
 refine Calls.callWith_builtin (by show(false||(backTo cpos (starEach es X.env)).any (·.1))=false;rw[hplain]<;>rfl) (Calls.evalArgs_plain ?_);exact thn hA fun us s2 ⟨vs,H2,I2,r2,q2⟩=>hm pins s2 σ H2 x vs v us Q I2 r1 r2 q2
/- xs.append(e),list.index on a module's tuple .. are MtR facts of 06m -/
end
def MtM(X:Cx)(id:String)(r:V->List V->Hp->VK->Prop):Prop:=
 ∀(pins:List (Addr×Obj))(s:Shared)(σ:St)(H:Hp)(x:V)(xs:List V)(v:Value)(us:List Value)(Q:VK),Inv X pins σ H s->RelV x v->Vals xs us->r x xs H Q ->
  wpAny (model X.prog X.w) X.A (call (.builtin id) (v::us)) (EP X pins σ Q) X.xe s
theorem Vals.one(h:Vals [x] us):∃u,us=[u]/\RelV x u:=vals1 h
theorem Vals.two{y:V}(h:Vals [x,y] us):∃u v,us=[u,v]/\RelV x u/\RelV y v:=vals2 h
theorem Vals.zero:∀{us:List Value},Vals [] us->us=[]
 |_,.nil=>rfl
theorem Vals.eraseIdx:∀{xs:List V}{us:List Value}(i:Nat),Vals xs us->Vals (xs.eraseIdx i) (us.eraseIdx i)
 |_,_,_,.nil=>.nil
 |_,_,0,.cons _ t=>t
 |_,_,i+1,.cons r t=>.cons r (Vals.eraseIdx i t)
theorem Vals.reverse(h:Vals xs us):Vals xs.reverse us.reverse:=by
 induction h with
 |nil=>exact .nil
 |cons r t ih=>rw[w1y,w1y];exact Vals.append ih (.cons r .nil)
theorem Vals.rep(h:Vals xs us):∀k:Nat,Vals (List.replicate k xs).flatten (List.replicate k us).flatten
 |0=>.nil
 |k+1=>by
  rw[w1c,w1c,w1p,w1p];exact Vals.append h (Vals.rep h k)
theorem q9m:∀(l:List α)(i:Nat),(l.eraseIdx i).length<=l.length
 |[],_=>w0h _
 |_::_,0=>w4f _
 |_::r,i+1=>Nat.succ_le_succ (q9m r i)
theorem q9n(its:List Value):∀(k:Nat)(acc:List Value),
  List.foldl (fun x1 x2=>x1++x2) acc.toArray (List.replicate k its.toArray)=(acc++(List.replicate k its).flatten).toArray
 |0,acc=>by simp
 |k+1,acc=>by
  have e:acc.toArray++its.toArray=(acc++its).toArray:=by simp
  have e2:(acc++its)++(List.replicate k its).flatten=acc++(List.replicate (k+1) its).flatten:=by
   rw[w1c,w1p,w2q]
  rw[<- e2,<- q9n its k (acc++its),<- e,w1c,List.foldl_cons]
section
variable{l b:Addr}{ys zs:List V}
theorem Inv.lset{its':List Value}{f:Array Value->Array Value}{t':Nat}(I:Inv X pins σ H s)(hH:H l=some (.lst xs))
  (e:s.heap.get? l=some {cls:=.type "list", data:=.seq its.toArray n})(hf:f its.toArray=its'.toArray)(hv:Vals ys its')(hz:ys.length<=sizeLine):
  Inv X pins σ (upd H l (.lst ys)) {s with heap:=s.heap.update l (Obj.mapSeq f),toks:=t'}:=by
 have q:=PySem.IsL.update e f;rw[hf]at q;refine I.write (x:=l) (e:=l) (by rw[hH];exact trivial) (.inl rfl) (fun b' u hb hu=>(Heap.get?_update_other s.heap (Obj.mapSeq f) (Ne.symm hb)).trans hu) ⟨_,q⟩ ?_
 exact⟨hz,its',_,hv,q⟩
theorem Inv.lnew{t':Nat}(I:Inv X pins σ H s)(hv:Vals ys its)(hz:ys.length<=sizeLine):
  Inv X pins σ (upd H s.heap.objs.size (.lst ys)) {s with heap:=s.heap.push {cls:=.type "list", data:=.seq its.toArray},toks:=t'}:=
 I.laid (fun _ _ q=>Heap.get?_push_of_some _ q) (w0h _) ⟨hz,its,0,hv,Heap.get?_push_size _ rfl⟩
theorem Inv.fresh(I:Inv X pins σ H s):H s.heap.objs.size=none:=I.hok.fresh (w0h _)
theorem Inv.lstM(I:Inv X pins σ H s)(hH:H l=some (.lst xs)):xs.length<=sizeLine/\∃(its:List Value)(n:Nat),Vals xs its/\xs.length=its.length/\s.heap.get? l=some {cls:=.type "list", data:=.seq its.toArray n}:=by
 obtain⟨z,its,n,r,e⟩:=I.hok l _ hH;exact⟨z,its,n,r,r.length,e⟩
theorem notLongL(h:n<=sizeLine):Builtin.List.listTooLong n=false:=by
 unfold Builtin.List.listTooLong;exact decide_eq_false (by omega)
end
def rAppend:V->List V->Hp->VK->Prop:=fun x vs H Q=>∃l xs y,x=.ref l/\vs=[y]/\H l=some (.lst xs)/\xs.length<sizeLine/\Q .non (upd H l (.lst (xs++[y])))
theorem q6b:MtM X "list.append" rAppend:=by
 intro pins s σ H x vs v us Q I rx rv h;obtain⟨l,xs,y,rfl,rfl,hH,hz,q⟩:=h;cases rx;obtain⟨u,rfl,ru⟩:=rv.one;obtain⟨z,its,n,r,hl,e⟩:=I.lstM hH;refine call_meets F.slot_list_append ⟨_,e,rfl⟩ F.entry_list_append (F.args_list_append_2 _ _) (PySem.list_append l its.toArray n u (by rw[w0c];omega)) ⟨e,?_⟩;refine⟨.non,_,I.lset (its':=its++[u]) hH e (by simp) (r.append (.cons ru .nil)) ?_,rfl,q⟩;rw[w0v,List.length_singleton];omega
def rPopAt:V->List V->Hp->VK->Prop:=fun x vs H Q=>∃l xs i k y,x=.ref l/\vs=[.int i]/\H l=some (.lst xs)/\-(2^63)<=i/\i<2^63/\seqIndex? i xs.length=some k/\xs[k]?=some y/\Q y (upd H l (.lst (xs.eraseIdx k)))
theorem x7w:MtM X "list.pop" rPopAt:=by
 intro pins s σ H x vs v us Q I rx rv h;obtain⟨l,xs,i,k,y,rfl,rfl,hH,h1,h2,hk,hy,q⟩:=h;cases rx;obtain⟨u,rfl,ru⟩:=rv.one;obtain⟨t,rfl⟩:=ru;obtain⟨z,its,n,r,hl,e⟩:=I.lstM hH;obtain⟨w,hw,rw'⟩:=r.get hy
 refine call_meets F.slot_list_pop ⟨_,e,rfl⟩ F.entry_list_pop (F.args_list_pop_2 _ _)
  (MeetsSeq.list_pop_at l its.toArray n i t k w (fitsIndex_both h1 h2) (by rw[w0c,<- hl];exact hk) (by rw[<- Array.getElem?_toList];exact hw) (by rw[w0c];omega)) ⟨e,?_⟩
 refine⟨y,_,I.lset (its':=its.eraseIdx k) hH e ?_ (r.eraseIdx k) ?_,rw',q⟩
 ·show its.toArray.eraseIdxIfInBounds k=(its.eraseIdx k).toArray;rw[List.eraseIdxIfInBounds_toArray]
 ·have:=q9m xs k;omega
def rReverse:V->List V->Hp->VK->Prop:=fun x vs H Q=>∃l xs,x=.ref l/\vs=[]/\H l=some (.lst xs)/\Q .non (upd H l (.lst xs.reverse))
theorem x3v:MtM X "list.reverse" rReverse:=by
 intro pins s σ H x vs v us Q I rx rv h;obtain⟨l,xs,rfl,rfl,hH,q⟩:=h;cases rx;have hus:=rv.zero;subst hus;obtain⟨z,its,n,r,hl,e⟩:=I.lstM hH;refine call_meets F.slot_list_reverse ⟨_,e,rfl⟩ F.entry_list_reverse (F.args_list_reverse_1 _) (AutoSeq1.list_reverse_list_0 l its.toArray n (by rw[w0c];omega)) ⟨e,?_⟩;refine⟨.non,_,I.lset (its':=its.reverse) hH e (by simp) r.reverse ?_,rfl,q⟩;rw[w3v];omega
theorem y1a(xs:List α)(k:Nat):(List.replicate k xs).flatten.length=k*xs.length:=by
 induction k with
 |zero=>simp
 |succ k ih=>rw[w1c,w1p,w0v,ih,Nat.succ_mul,Nat.add_comm]
end L2
namespace Att
open PySem PySem.W PySem.Calls PyProof.Rows
theorem q72{P:Params}{h:Heap}:∀(ns:List Int)(vs:List Value),WellAll P h vs (ns.map WData.int)->IntsAre vs ns:=by
 intro ns
 induction ns with
 |nil=>
  intro vs w;rw[w3c]at w;cases w;exact .nil
 |cons n ns ih=>
  intro vs w;rw[w0r]at w;cases w with
  |cons a b=>
   cases a;exact .cons _ _ (ih _ b)
theorem x45{l:OpenLaw}{n:Nat}(hn:l.most=some n){P:Params}{h:Heap}{args:List WData}{vals:List Value}
  (hpre:l.row.toRowW.claim.pre args=true)(hwl:WellAll P h vals args):
  ∃a vs ns,vals=[Value.ref a]/\args=[WData.list (ns.map WData.int)]/\h.get? a=some {cls:=.type "list", data:=.seq vs.toArray}/\IntsAre vs ns/\ns.length<=n:=by
 have hsh:WShape.hasAll [] args [.list .int]=true:=(pre_splitW hpre).1;have hc:l.pre.holds [] {args:=args}=true:=(pre_splitW hpre).2;obtain⟨d,r,rfl,h1,h2⟩:=hasAllW_cons hsh;obtain rfl:=hasAllW_nil h2;obtain⟨xs,rfl,h3⟩:=hasW_list h1;obtain⟨ns,rfl⟩:=items_int h3
 have hlen:ns.length<=n:=by
  unfold OpenLaw.pre at hc
  have h4:(WTm.not (.lt (.lit (.int (n:Int))) (.len (.arg 0)))).holds [] {args:=[.list (ns.map .int)]}=true:=by
   have h4:=(holds_andW hc).1;rw[hn]at h4;exact h4
  have h5:=condW_of h4 (w_not (w_lt w_lit (w_len_list (w_arg rfl))));rw[w0b]at h5;refine Nat.le_of_not_lt fun q=>?_
  have q':(n:Int)<((ns.length:Nat):Int):=by omega
  first
   |(rw[decide_eq_true q']at h5;exact absurd h5 (by decide))
   |(simp at h5;omega)
 cases hwl with
 |cons w1 w2=>
  cases w2;cases w1 with
  |list ho hall=>exact⟨_,_,ns,rfl,rfl,ho,q72 ns _ hall,hlen⟩
theorem x46(l:OpenLaw)(args:List WData):l.row.toRowW.claim.post args (.bool true) args=true:=
 postW_of (r:=l.row.toRowW) (X:=(true==true))
  (show WShape.has [] (.bool true) .bool=true by first|rfl|decide|simp[WShape.has,WShape.arms,WShape.armsAll])
  (show(WTm.eq .res (.lit (.bool true))).value [] {args:=args,res:=some (.bool true),after:=args}=some (.bool (true==true))from w_eq_bool (w_res rfl) w_lit) rfl
theorem attach_call{l:OpenLaw}{n:Nat}{q:Program}{loose:List Str}{XP:(Str->Option Value)->Heap->Prop}{YP:World->Heap->Prop}{d:DefRec}
  (hn:l.most=some n)(hdf:d.params.defaults=[])
  (call:∀(w:World)(s₀ s₁:Shared)(mg mb:Str->Option Value)(fa:Addr)(o:Obj)(pm cd doc:Value)(a:Addr)(vs:List Value)(ns:List Int),
   Ground q loose [] XP w s₀ mg mb s₁.heap->YP w s₁.heap ->
   s₁.heap.get? fa=some o->o.data=.func (docDef d.name d.params d.body d.scope pm cd doc)->s₁.heap.CodeRec cd d.name->mg d.name=some (.ref fa) ->
   s₁.heap.get? a=some {cls:=.type "list", data:=.seq vs.toArray}->IntsAre vs ns->ns.length<=n->s₁.gens=#[] ->
   codeAny (model l.prog w) callerA (.call (.ref fa) ⟨[.ref a],[]⟩) (fun r s'=>r=.ok (.ret (.bool true))/\OldK s₁.heap s'.heap/\s'.os=s₁.os/\AllBare s'.gens) s₁):
  WalkO q loose XP YP l.row.toRowW d [] (fun f vs=>PySem.call f vs):=by
 intro w s₀ s₁ mg mb G Y fa o pm cd doc dV kV ho hd hcd hD hmg hg args vals as hpre hlay hrd hwl hlo;obtain rfl:dV=.none:=Dflts.none hD hdf;obtain rfl:kV=.none:=Dflts.noKw hD;obtain⟨a,vs,ns,rfl,rfl,hobj,hints,hlen⟩:=x45 hn hpre hwl;refine enter_call (codeAny_mono (call w s₀ s₁ mg mb fa o pm cd doc a vs ns G Y ho (fd_plain hd) hcd hmg hobj hints hlen hg) fun r s' hq=>?_)
 obtain⟨rfl,h2,h3,h4⟩:=hq;exact⟨.inl ⟨.bool true,.bool true,[],rfl,fun _=>rfl,.bool true,x46 l _,fun _=>⟨List.Pairwise.nil,fun _ hm=>(nomatch hm)⟩⟩,h2,h3,h4⟩
section
variable{prog:Program}{w:World}{A:Around}{E:Value->Shared->Prop}{s:Shared}{K:Frag}
noncomputable def ledger(h:Heap)(L d:Addr):List (Addr×Obj):=(List.range h.objs.size).filterMap fun a=>if a=L\/a=d then none else(h.get? a).map fun o=>(a,o)
end
end Att
namespace L2
open PySem PySem.Spec PyProof.Rows
theorem q6c:∀{vs:List Value}{ns:List Int},IntsAre vs ns->Vals (ns.map V.int) vs
 |_,_,.nil=>.nil
 |_,_,.cons n t h=>.cons ⟨t,rfl⟩ (q6c h)
def Only(H:Hp):Prop:=∀b,H b=none\/∃o xs,H b=some (.frz o (.lst xs))
theorem x7x{P:Program}{w:World}{K:PySem.W.Frag}{mg mb:Str->Option Value}{CX:CXT}{k:Nat}{fa a:Addr}{fd:FuncData}{x:Str}{sp:Sp}{s₁:Shared}{vs:List Value}{ns:List Int}
  (KX:K.In s₁.heap)(hns:s₁.heap.Ns mainGlobals mg)(hb:s₁.heap.Ns builtinsNs mb)(hbb:∀x:Str,x≠"__name__"->mb x=bootBuiltins x)(hlim:s₁.heap.NoLimit)(hg:s₁.gens=#[])
  (ha:s₁.heap.get? a=some {cls:=.type "list", data:=.seq vs.toArray})(hi:IntsAre vs ns)(hl:ns.length<=sizeLine)(hr:Room k callerA)
  (F:∀base:Heap,K.In base->base.Ns mainGlobals mg->FnOk P w K mg base CX k fa fd [x] sp)(hbind:∀(s:Shared)(u:Value),BindsTo s fd ⟨[u],[]⟩ [(x,u)])
  (hsp:∀H:Hp,Only H->SqL K H a (ns.map V.int)->sp [.ref a] H (fun v _=>v=.bl true) fun _ _ _=>False)
  (hCX:∀H e s',CX [] H s₁ (fun _ _ _=>False) e s'->False)(hNM:noMark K=true):
  codeAny (model P w) callerA (.call (.ref fa) ⟨[.ref a],[]⟩) (fun r s'=>r=.ok (.ret (.bool true))/\OldK s₁.heap s'.heap/\s'.os=s₁.os/\AllBare s'.gens) s₁:=by
 have rv:=q6c hi;have lenV:=hi.length
 have core:∀H:Hp,Only H->SqL K H a (ns.map V.int)->HOk P w H s₁.heap->(∀b,H b≠none->b=a)->(H a≠none->K.lookup a=none) ->
   codeAny (model P w) callerA (.call (.ref fa) ⟨[.ref a],[]⟩) (fun r s'=>r=.ok (.ret (.bool true))/\OldK s₁.heap s'.heap/\s'.os=s₁.os/\AllBare s'.gens) s₁:=by
  intro H hO hS hok hA hK;have base_of:∀{b:Addr}{o:Obj},s₁.heap.get? b=some o->H b=none->(hidT s₁.heap H).get? b=some o:=fun e n=>x0u e n
  have noA:∀{b:Addr}{o:Obj}{es:Array DictEntry}{ep:Nat},s₁.heap.get? b=some o->o.data=.dict es ep->H b=none:=fun {b o es ep} e d=>by
   cases q:H b with
   |none=>rfl
   |some u=>
    have e':b=a:=hA b (by rw[q];simp);subst e';rw[ha]at e;cases e;have d':Data.seq vs.toArray _=Data.dict es ep:=d;cases d'
  have nsK:∀{b:Addr}{m:Str->Option Value},s₁.heap.Ns b m->(hidT s₁.heap H).Ns b m:=fun {b m} ⟨o,es,ep,e,d,r⟩=>⟨o,es,ep,base_of e (noA e d),d,r⟩
  have hKb:K.In (hidT s₁.heap H):=fun b o e=>base_of (KX b o e) (by
   cases q:H b with
   |none=>rfl
   |some u=>
    have e':b=a:=hA b (by rw[q];simp);subst e';rw[hK (by rw[q];simp)]at e;cases e)
  have hM:Mod K mg (hidT s₁.heap H):=⟨hKb,nsK hns,⟨mb,nsK hb,hbb⟩,let ⟨mc,h1,h2⟩:=hlim;⟨mc,nsK h1,h2⟩⟩;have e0:Env0 P w K mg (hidT s₁.heap H) callerA [] s₁ H:=⟨rfl,hM,fun b o e=>x2s e,Nat.le_of_eq (q9e _ _),trivial,fun b hb=>absurd (show b∈([]:List Addr)from hb) (by simp),hok,.of_eq hg,.vac hNM⟩
  refine codeAny_mono ((F _ hKb (nsK hns)).run callerA [] s₁ H ⟨[.ref a],[]⟩ [.ref a] [.ref a] _ _ hr e0 (hbind s₁ (.ref a)) (.cons rfl .nil) (hsp H hO hS)) fun r s' h=>?_
  cases r with
  |error e=>exact(hCX H e s' h).elim
  |ok fl=>
   cases fl with
   |next=>exact False.elim h
   |brk=>exact False.elim h
   |cont=>exact False.elim h
   |ret u=>
    obtain⟨v,H',os,bare,un,hok',r',q⟩:=h;have q':v=.bl true:=q;subst q';obtain rfl:u=Value.bool true:=r';refine⟨rfl,OldK.of_keep fun b o e=>?_,os,bare⟩
    cases q:H b with
    |none=>exact un.keep b o e q (by intro z;exact absurd (show b∈([]:List Addr)from z) (by simp)) (by simp)
    |some u=>
     rcases hO b with z|⟨ob,xs,z⟩
     ·rw[q]at z;cases z
     ·have z2:=un.frzs b ob _ z;obtain⟨e1,_⟩:=hok b _ z;obtain⟨e2,_⟩:=hok' b _ z2;rw[e]at e1;cases e1;exact e2
 cases hk:K.lookup a with
 |some o=>
  have e:=KX a o hk;rw[ha]at e;cases e;refine core (fun _=>none) (fun _=>.inl rfl) (.inr ⟨_,vs.toArray,_,hk,rfl,rfl,rfl,by rw[w0c,lenV];exact hl,by simpa using rv⟩) (fun b u z=>by have z':(none:Option HO)=some u:=z;cases z') (fun b z=>absurd rfl z) fun z=>absurd rfl z
 |none=>
  refine core (fun b=>if b=a then some (.frz {cls:=.type "list", data:=.seq vs.toArray} (.lst (ns.map V.int)))else none) (fun b=>?_) (.inl (.inr ⟨{cls:=.type "list", data:=.seq vs.toArray},if_pos rfl⟩)) (fun b u z=>?_) (fun b z=>?_) fun _=>hk
  ·by_cases hb:b=a
   ·exact .inr ⟨_,_,if_pos hb⟩
   ·exact .inl (if_neg hb)
  ·by_cases hb:b=a
   ·have z':=(if_pos hb).symm.trans z;cases z';subst hb;exact⟨ha,by rw[w0b];exact hl,vs,_,rv,ha⟩
   ·have z':=(if_neg hb).symm.trans z;cases z'
  ·by_cases hb:b=a
   ·exact hb
   ·exact absurd (if_neg hb) z
noncomputable abbrev KOf{K:PySem.W.Frag}{h:Heap}(_:K.In h):PySem.W.Frag:=K
theorem y1b{l:PySem.W.OpenLaw}{n k:Nat}{q:Program}{loose:List Str}{XP:(Str->Option Value)->Heap->Prop}{YP:World->Heap->Prop}{d:DefRec}{K:Params->PySem.W.Frag}{CX:World->CXT}{sp:World->Sp}{x:Str}
  (hn:l.most=some n)(hn2:n<=sizeLine)(hdf:d.params.defaults=[])(hr:Room k callerA)
  (hY:∀(w:World)(h:Heap),YP w h->(K w.params).In h)
  (F:∀(w:World)(mg:Str->Option Value)(fa:Addr)(h:Heap),(K w.params).In h->h.Ns mainGlobals mg->mg d.name=some (.ref fa) ->
   ∃fd:FuncData,(∀(s:Shared)(u:Value),BindsTo s fd ⟨[u],[]⟩ [(x,u)]) /\
    ∀base:Heap,(K w.params).In base->base.Ns mainGlobals mg->FnOk l.prog w (K w.params) mg base (CX w) k fa fd [x] (sp w))
  (hsp:∀(w:World)(H:Hp)(a:Addr)(ns:List Int),ns.length<=n->Only H->SqL (K w.params) H a (ns.map V.int)->sp w [.ref a] H (fun v _=>v=.bl true) fun _ _ _=>False)
  (hCX:∀(w:World)(H:Hp)(s:Shared)(e:Value)(s':Shared),CX w [] H s (fun _ _ _=>False) e s'->False)(hNM:∀w:World,noMark (K w.params)=true):
  PySem.W.WalkO q loose XP YP l.row.toRowW d [] (fun f vs=>PySem.call f vs):=by
 refine Att.attach_call hn hdf fun w s₀ s₁ mg mb fa o pm cd doc a vs ns G Y ho hd hcd hmg hobj hints hlen hg=>?_
 have KX:=hY w _ Y;obtain⟨fd,hb,hF⟩:=F w mg fa _ KX G.T.g hmg;exact x7x KX G.T.g G.T.b G.T.builtins G.T.nolimit hg hobj hints (w0w hlen hn2) hr hF hb (fun H hO hS=>hsp w H a ns hlen hO hS) (fun H e s'=>hCX w H s₁ e s') (hNM w)
end L2
/- THE LAST THEOREM (shape; LID, My.* are yours):
   My.Adr: a structure of the addresses that your layer names (classes, functions); My.Txt K t: a structure (Prop) of the equations over K;
   My.txt_mk : {K} {implicit addresses ..} (e1 : nsIn K mainGlobals "law" = some (some (.ref f))) (e2 : K.lookup f = some ⟨oc, od, .func (fnOf "law" "law" params body scope dV kV doc pm an cdv ct), sl⟩) (e3 : codeIn K cdv "law" = true) .. : ∃ t, My.Txt K t
set_option maxRecDepth 100000 in
set_option maxHeartbeats 0 in
theorem PySem.Challenge.cw_LID_holds : PySem.Challenge.rw_LID.Holds := by
 w_on; o_law; k_head; (case hw => w_witness2)
 k_fill
 refine L2.y1b (l := PySem.Challenge.rw_LID) (n := 63) (k := 40) (x := "script") (CX := fun w => ..) (sp := fun _ => My.sp_law) rfl (by decide) rfl ⟨rfl, by decide, by decide⟩ (fun w h Y => PySem.W.kIn_of Y) ?F ?S ?C
 case F =>
  intro w mg fa h KX G hmg
  have T : ∃ t, My.Txt (L2.KOf KX) t := by
   dsimp only [L2.KOf]                          -- K must stand as «<heap const> w.params» for k_is;refine' My.txt_mk ?e1 ?e2 ?e3 ..
   (case e1 => PySem.W.k_is)                    -- in the order: a name -> its address -> its object -> its parts
   (case e2 => PySem.W.k_is)
   ..
  obtain ⟨t, T⟩ := T;have e0 := hmg.symm.trans (mg_of KX G T.law);cases e0                                       -- fa is the law's own address;exact ⟨_, fun s u => .of_eq rfl, fun base kb nb => My.law_fn T kb nb⟩     -- if «.of_eq rfl» comes too early: refine' ⟨_, ?b, fun base kb nb => My.law_fn T kb nb⟩; exact fun s u => .of_eq rfl
 case S => exact fun w H a ns hl hO hS => ..
 case C => exact ..
(the tactic k_is has no namespace: write k_is) -/
namespace L2
open PySem PySem.Spec PyProof.Rows
variable{a f:Addr}{A:Around}{X:Cx}{env:Env}{e:Expr}{fd:FuncData}{base h h1:Heap}{H H':Hp}{pins:List (Addr×Obj)}{l:List Env}{es ifs:List Expr}{js:List Nat}{N ps:List Str}{k:Nat}{pos:Pos}{P:Program}{K:PySem.W.Frag}{s:Shared}{sp:Sp}{σ:St}{st:Stmt}{qual x:Str}{mg:Str->Option Value}{te:TE}{v:V}{a0 cls:Value}{w:World}
noncomputable def defArgs(s:Stmt):Arguments:=match s with
 |.FunctionDef _ a _ _ _ _ _ _ _ _=>a
 |_=>{posonlyargs:=[],args:=[],vararg:=none,kwonlyargs:=[],kw_defaults:=[],kwarg:=none,defaults:=[]}
noncomputable def defBody(s:Stmt):List Stmt:=match s with
 |.FunctionDef _ _ b _ _ _ _ _ _ _=>b
 |_=>[]
noncomputable def defScope(s:Stmt):Scope:=match s with
 |.FunctionDef _ _ _ _ _ _ sc _ _ _=>sc
 |_=>{kind:=.function,names:=[],isGenerator:=false,isCoroutine:=false}
noncomputable abbrev CX0:CXT:=fun _ _ _ _ _ _=>False
noncomputable abbrev E0:XK:=fun _ _ _=>False
structure Fun(K:PySem.W.Frag)(x qual:Str)(st:Stmt)(f:Addr)(fd:FuncData):Prop where
 ex:∃(oc:Value)(od:Option Addr)(kV doc pm:Value)(an:Option Addr)(cdv ct:Value)(osl:Array (Option Value)),
  fd=PySem.W.fnOf x qual (defArgs st) (defBody st) (defScope st) .none kV doc pm an cdv ct/\K.lookup f=some ⟨oc,od,.func fd,osl⟩/\PySem.W.codeIn K cdv qual=true
 kp:keepIn K (.ref f)=true
theorem Fun.binds{ps:List Str}(F:Fun K x qual st f fd)
  (h:∀(kV doc pm:Value)(an:Option Addr)(cdv ct:Value)(us:List Value),us.length=ps.length->bindArgs (PySem.W.fnOf x qual (defArgs st) (defBody st) (defScope st) .none kV doc pm an cdv ct) ⟨us,[]⟩=pure (ps.zip us)):Binds K fd ps []:=by
 obtain⟨oc,od,kV,doc,pm,an,cdv,ct,osl,rfl,lk,hcd⟩:=F.ex;exact .all (h kV doc pm an cdv ct)
theorem q0n{st:Stmt}{oc:Value}{od an:Option Addr}{osl:Array (Option Value)}{kV doc pm cdv ct:Value}(l:K.lookup f=some ⟨oc,od,.func (PySem.W.fnOf x qual (defArgs st) (defBody st) (defScope st) .none kV doc pm an cdv ct),osl⟩)
  (c:PySem.W.codeIn K cdv qual=true)(k:keepIn K (.ref f)=true):Fun K x qual st f (PySem.W.fnOf x qual (defArgs st) (defBody st) (defScope st) .none kV doc pm an cdv ct):=⟨⟨oc,od,kV,doc,pm,an,cdv,ct,osl,rfl,l,c⟩,k⟩
theorem pv(i:Nat)(hN:X.N[i]?=some x:=by rfl)(hv:Vis X.env.scope x:=by walk_at "1")(hd:(x==("__debug__":Str))=false:=by decide)
  (hcd:(x==("__classdict__":Str))=false:=by decide):PE X (.Name x pos) (tVar i):=y4k hN hv hd hcd
def Same(H H':Hp):Prop:=∀b o,H b=some o->H' b=some o
theorem Same.refl(H:Hp):Same H H:=fun _ _ h=>h
theorem Same.trans{H1 H2:Hp}(a:Same H H1)(b:Same H1 H2):Same H H2:=fun c o h=>b c o (a c o h)
theorem Same.free(e:Same H H'){l:Addr}(h:H' l=Option.none):H l=Option.none:=by
 cases q:H l with
 |none=>rfl
 |some o=>
  rw[e l o q]at h;cases h
theorem Same.seq{xs:List V}(e:Same H H')(h:SqL K H a xs):SqL K H' a xs:=by
 rcases h with(h|⟨o,h⟩)|h
 ·exact .inl (.inl (e _ _ h))
 ·exact .inl (.inr ⟨o,e _ _ h⟩)
 ·exact .inr h
set_option maxHeartbeats 4000000
theorem ObjOk.get{o:HO}(x:ObjOk P w H h a o):∃ob,h.get? a=some ob:=by
 cases o with
 |lst xs=>obtain⟨_,_,_,_,e⟩:=x;exact⟨_,e⟩
 |tup xs=>obtain⟨_,_,_,p,_⟩:=x;obtain⟨o,e,_⟩:=p;exact⟨o,e⟩
 |dK kvs=>obtain⟨_,_,_,_,o,_,_,e,_⟩:=x;exact⟨_,e⟩
 |dT sh kvs kas=>obtain⟨_,_,_,_,_,o,_,_,e,_⟩:=x;exact⟨_,e⟩
 |set S n=>obtain⟨o,_,_,_,e,_⟩:=x;exact⟨_,e⟩
 |ins C dx fs=>obtain⟨_,_,_,e,_⟩:=x;exact⟨_,e⟩
 |own y=>obtain⟨_,e⟩:=x;exact⟨_,e⟩
 |xd fs=>obtain⟨_,⟨_,_,_,e,_⟩,_⟩:=x;exact⟨_,e⟩
 |rng lo hi=>obtain⟨_,_,_,e⟩:=x;exact⟨_,e⟩
 |frz ob u=>obtain⟨e,_⟩:=x;exact⟨_,e⟩
 |tbl ps=>rcases x with⟨_,_,_,_,e,_⟩|⟨_,_,_,_,_,_,_,_,_,_,_,_,e⟩<;>exact⟨_,e⟩
 |met f y=>exact⟨_,(show h.get? a=some _ from x)⟩
 |ext φ=>obtain⟨_,⟨_,e⟩,_⟩:=x;exact⟨_,e⟩
structure Fly(outer:List Env)(H H':Hp)(h h':Heap)(e:Addr)(cls:Value)(B:Heap):Prop where
 fl:∃a0,Heap.FlyingW B outer e cls a0 h'
 old:∀b o,h.get? b=some o->H b=none->b∉frs outer->B.get? b=some o
 trk:∀b u o,H' b=some u->h'.get? b=some o->B.get? b=some o
 all:∀b o,h.get? b=some o->b∈frs outer\/∃o',B.get? b=some o'
 new:h.get? e=none
noncomputable def CX1(P:Program)(w:World):CXT:=fun outer H s E ev s'=>∃(e:Addr)(cls:Value)(H':Hp)(B:Heap),
 ev=.ref e/\s'.os=s.os/\AllBare s'.gens/\Un (frs outer) [] H H' s.heap s'.heap/\HOk P w H' s'.heap/\Fly outer H H' s.heap s'.heap e cls B/\E cls none H'
def PassX(CX:CXT)(X:Cx)(EE:St->XK):Prop:=∀(pins:List (Addr×Obj))(σ:St)(H:Hp)(s:Shared)(e:Value)(s':Shared),Inv X pins σ H s->CX X.stack H s (EE σ) e s'->X.xe e s'
def RaisX(X:Cx)(EE:St->XK):Prop:=∀(pins:List (Addr×Obj))(σ:St)(H:Hp)(s:Shared)(e:Addr)(cls:Value)(vs:List Value)(h':Heap),Inv X pins σ H s->Heap.MadeExcOf s.heap h' e cls vs->EE σ cls none H->X.xe (.ref e) {s with heap:=h'}
section
variable{CX:CXT}{scope:Scope}{cd:Value}{outer:List Env}{s₀:Shared}{H₀:Hp}{E:XK}
theorem x2v{s':Shared}{e:Addr}{B h'':Heap}
  (I:Inv (cxOf CX P w K mg base N qual scope f cd A outer s₀ H₀ E) pins σ H s)(J:Inv (cxOf CX P w K mg base N qual scope f cd A outer s₀ H₀ E) pins σ H' s')
  (old:∀b o,s.heap.get? b=some o->H b=none->b∉frs (envOfC qual scope s₀.heap.objs.size f cd::outer)->B.get? b=some o)
  (trk:∀b u o,H' b=some u->s'.heap.get? b=some o->B.get? b=some o)
  (all:∀b o,s.heap.get? b=some o->b∈frs (envOfC qual scope s₀.heap.objs.size f cd::outer)\/∃o',B.get? b=some o')
  (new:s.heap.get? e=none)
  (fl:Heap.FlyingW B outer e cls a0 h'')(up:s'.heap.UpToSlots h'')(hE:E cls none H'):
  CX1 P w outer H₀ s₀ E (.ref e) {s' with heap:=h''}:=by
 have neL:∀b o,s₀.heap.get? b=some o->b∉frs outer->b∉frs (envOfC qual scope s₀.heap.objs.size f cd::outer):=fun b o q nb hb=>by
  rcases w0p.mp (show b∈s₀.heap.objs.size::frs outer from hb)with z|z
  ·exact absurd (Heap.lt_size q) (by rw[z];exact w1s _)
  ·exact nb z
 have ex0:∀b:Addr,b∉([]:List Addr):=fun b z=>nomatch z
 have slot:∀b o,s₀.heap.get? b=some o->b∈frs outer->∃sl,h''.get? b=some {o with slots:=sl}:=fun b o q hb=>by
  obtain⟨sl,e1⟩:=J.base.slot b o q (J.ok.frf b hb) hb (ex0 b);obtain⟨_,o2,e2,nd⟩:=J.funs.mem hb
  rw[e1]at e2;cases e2;obtain⟨sl',e3⟩:=up b _ e1 nd;exact⟨sl',e3⟩
 refine⟨e,cls,H',B,rfl,J.os,J.bare,⟨fun b o q n hb hx=>?_,fun b o q n hb hx=>slot b o q hb,fun b o q n hx=>J.base.free b o q n hx,fun b o q hx=>?_,J.base.tups,J.base.frzs,J.base.tbls⟩,fun a o q=>?_,⟨⟨a0,fl⟩,fun b o q n hb=>?_,fun b u o q z=>?_,fun b o q=>?_,?_⟩,hE⟩
 ·exact fl.1 b o (old b o (I.base.keep b o q n hb hx) (I.base.free b o q n hx) (neL b o q hb))
 ·by_cases hb:b∈frs outer
  ·obtain⟨sl,z⟩:=slot b o q hb;exact⟨_,z⟩
  ·obtain⟨o1,e1⟩:=I.base.there b o q hx;rcases all b o1 e1 with z|⟨o',z⟩
   ·exact absurd z (neL b o q hb)
   ·exact⟨o',fl.1 b o' z⟩
 ·refine(J.hok a o q).stay (fun b u hb z=>?_) (fun _ z=>z) fun _ _ _ z=>z
  rcases hb with rfl|hb
  ·exact fl.1 _ _ (trk b o u q z)
  ·exact fl.1 _ _ (trk b _ u hb z)
 ·exact old b o (I.base.keep b o q n hb (ex0 b)) (I.base.free b o q n (ex0 b)) (neL b o q hb)
 ·obtain⟨o1,e1⟩:=(J.hok b u q).get;have e2:=trk b u o1 q e1;have e3:=fl.1 b o1 e2;rw[e3]at z;cases z;exact e2
 ·obtain⟨o1,e1⟩:=I.base.there b o q (ex0 b);rcases all b o1 e1 with z|z
  ·by_cases hb:b∈frs outer
   ·exact .inl hb
   ·exact absurd z (neL b o q hb)
  ·exact .inr z
 ·cases q:s₀.heap.get? e with
  |none=>rfl
  |some o=>
   obtain⟨o1,e1⟩:=I.base.there e o q (ex0 e);rw[new]at e1;cases e1
theorem pass1:PassX (CX1 P w) (cxOf (CX1 P w) P w K mg base N qual scope f cd A outer s₀ H₀ E) (fun _=>E):=by
 intro pins σ H s ev s' I hx;obtain⟨e,cls,H',B,rfl,hos,hg,un,hok,fly,hE⟩:=hx;have J:=I.call' (ch:=[]) hos un hok hg (fun b hb=>nomatch hb)
 obtain⟨a0,fl⟩:=fly.fl;refine wpAny_leaves_onW (base:=B) I.ok.frames rfl fl fun h'' fl2 up=>?_
 exact x2v I J fly.old fly.trk fly.all fly.new fl2 up hE
theorem rais1:RaisX (cxOf (CX1 P w) P w K mg base N qual scope f cd A outer s₀ H₀ E) (fun _=>E):=by
 intro pins σ H s e cls vs h' I hx hE;have J:Inv (cxOf (CX1 P w) P w K mg base N qual scope f cd A outer s₀ H₀ E) pins σ H {s with heap:=h'}:=I.kept (t':=s.toks) hx.keeps;have hin:∀env∈(envOfC qual scope s₀.heap.objs.size f cd::outer),∀b,env.frame=some b->b∈frs (envOfC qual scope s₀.heap.objs.size f cd::outer):=fun env he b hb=>w2c.mpr ⟨env,he,hb⟩
 refine wpAny_leaves_madeW (base:=PySem.W.hideAll s.heap (frs (envOfC qual scope s₀.heap.objs.size f cd::outer))) (h:=s.heap) I.ok.frames rfl (fun b o q=>PySem.W.of_hideAll _ q) (PySem.W.funFrames_hide I.stack hin) hx fun h'' t fl _ _ up=>?_
 refine x2v I J (fun b o q _ nb=>hideAll_get _ q nb) (fun b u o q z=>?_) (fun b o q=>?_) hx.new fl up hE
 ·obtain⟨o1,e1⟩:=(I.hok b u q).get;have e2:=hx.keeps b o1 e1;have z':h'.get? b=some o:=z;rw[e2]at z';cases z';refine hideAll_get _ e1 fun hb=>?_
  rw[I.stkFree b hb]at q;cases q
 ·by_cases hb:b∈frs (envOfC qual scope s₀.heap.objs.size f cd::outer)
  ·exact .inl hb
  ·exact .inr ⟨o,hideAll_get _ q hb⟩
end
theorem passE:PassX (CX1 P w) X (fun _=>E0):=fun _ _ _ _ _ _ _ h=>by
 obtain⟨_,_,_,_,_,_,_,_,_,_,z⟩:=h;exact False.elim z
def tCallX(sp:Sp)(dvs:List V)(EE:St->XK)(t:TA):TE:=fun σ H Q=>t σ H fun vs H1=>sp (vs++dvs) H1 Q (EE σ)
section
variable{CX:CXT}{C:Addr}{dvs:List V}{ds:List Value}{EE:St->XK}{m:Str}{p apos:Pos}{o:Expr}{ta:TE}{t:TA}
theorem y1c{Q:VK}{us:List Value}{vs:List V}(F:FnOk X.prog X.w X.K X.mg X.base CX k f fd ps sp)(hr:Room k X.A)(hb:Binds X.K fd ps ds)(hd:Vals dvs ds)(hx:PassX CX X EE)
  (I:Inv X pins σ H s)(r:Vals vs us)(h:sp (vs++dvs) H Q (EE σ)):wpAny (model X.prog X.w) X.A (call (.ref f) us) (EP X pins σ Q) X.xe s:=by
 have r2:Vals (vs++dvs) (us++ds):=r.append hd;have hl:(us++ds).length=ps.length:=by rw[<- r2.length];exact F.len _ _ _ _ h
 refine wpAny_call (codeAny_mono (F.run X.A X.stack s H ⟨us,[]⟩ (us++ds) (vs++dvs) Q (EE σ) hr I.env0 (hb s us I.kIn hl) r2 h) fun r s' hq=>?_)
 cases r with
 |error e=>exact hx pins σ H s e s' I hq
 |ok fl=>
  cases fl with
  |ret u=>exact I.after hq
  |next=>exact False.elim hq
  |brk=>exact False.elim hq
  |cont=>exact False.elim hq
theorem x7y(F:FnOk X.prog X.w X.K X.mg X.base CX k f fd ps sp)(hr:Room k X.A)(hg:Gl X x)(hm:X.mg x=some (.ref f))(hk:keepIn X.K (.ref f)=true)(hb:Binds X.K fd ps ds)(hd:Vals dvs ds)(hx:PassX CX X EE)
  (ha:PA X (e::es) t)(hdb:(x==("__debug__":Str))=false:=by decide)(he:starEach (e::es) X.env=(false,eval e X.env)::starEach es X.env:=by rfl)(hpl:(backTo pos (starEach es X.env)).any (·.1)=false:=by rfl):
  PE X (.Call (.Name x p) (e::es) [] pos) (tCallX sp dvs EE t):=by
 intro pins s σ H Q I h;refine wpAny_Call_Name_kw (q34 I hg hm ?_ hdb);refine callWith_K (h₀:=X.base) I.ok.mod.kin hk (thn (ha pos pins s σ H _ I h) fun us s1 ⟨vs,H1,I1,r,q⟩=>⟨I1.kIn,?_⟩) he hpl
 exact y1c F hr hb hd hx I1 r q
end
theorem Fun.okX(F:Fun K x qual st f fd)(S:FnScope N ps (defScope st))(len:∀vs H Q E,sp vs H Q E->vs.length=ps.length)
  (hbody:∀(cdv:Value)(A:Around)(outer:List Env)(s:Shared)(H:Hp)(vs:List V)(Q:VK)(E:XK),Room k (A.deeper (envOfC qual (defScope st) s.heap.objs.size f cdv))->sp vs H Q E ->
   ∃t,PSs (cxOf (CX1 P w) P w K mg base N qual (defScope st) f cdv A outer s H E) (defBody st) t/\t {nx:=fun _ H'=>Q .non H',rt:=Q} (start N vs) H):FnOk P w K mg base (CX1 P w) (k+1) f fd ps sp:=by
 obtain⟨oc,od,kV,doc,pm,an,cdv,ct,osl,rfl,lk,hcd⟩:=F.ex;exact y0j lk hcd S len fun A outer s H vs Q E hr hsp=>hbody cdv A outer s H vs Q E hr hsp
noncomputable def strKeysIn(K:PySem.W.Frag)(a:Addr):Bool:=match K.lookup a with
 |some ⟨_,_,.dict es _,_⟩=>es.toList.all fun e=>match e.key with|.str _ _=>true|_=>false
 |_=>false
noncomputable def noInitIn(K:PySem.W.Frag)(a:Addr):Bool:=strKeysIn K a&&PySem.W.nsIn K a "__init__"==some none
noncomputable abbrev veMro:List Value:=[.type "ValueError", .type "Exception", .type "BaseException", .type "object"]
noncomputable def excIn(K:PySem.W.Frag)(C A:Addr):Bool:=match K.lookup C,K.lookup A with
 |some ⟨.type "type", _,.cls cd,sl⟩,some ⟨_,_,.cls ca,_⟩=>(match sl.toList with
   |[_,_,_,_,some (.builtin n),_]=>n=="ValueError.__new__"&&cd.mro==(.ref C::.ref A::veMro)&&!cd.hasDel&&noInitIn K cd.ns&&noInitIn K ca.ns
   |_=>false)
 |_,_=>false
theorem q9o(X:K.In h)(q:noInitIn K a=true):∃m,h.Ns a m/\m "__init__"=none:=by
 unfold noInitIn at q;rw[w1d]at q;obtain⟨q1,q2⟩:=q;unfold strKeysIn at q1;split at q1
 ·rename_i c d es n sl hl
  have hs:StrKeys es:=fun e he=>by
   have:=w0t.mp q1 e (by simpa using he);split at this
   ·rename_i k t hk;exact⟨_,_,hk⟩
   ·cases this
  refine⟨nsFind es,⟨_,es,n,X _ _ hl,rfl,hs,fun _=>rfl⟩,?_⟩
  have q2:=beq_iff_eq.mp q2;unfold PySem.W.nsIn at q2;rw[hl]at q2;dsimp only at q2;unfold nsFind findBy;rw[<- Array.find?_toList];split at q2
  ·cases q2
  ·rename_i he;rw[he];rfl
 ·cases q1
theorem q6d{C A:Addr}(X:K.In h)(q:excIn K C A=true):
  ∃nm qn N bs hdct sn sub ab col dd k0 k1 k2 k3 k5 mN,h.get? C=some (excClassObj nm qn C N bs (.ref A::veMro) hdct sn sub ab col dd k0 k1 k2 k3 k5 "ValueError.__new__")/\h.Ns N mN/\mN "__init__"=none/\OwnTail h veMro (.ref A::veMro):=by
 unfold excIn at q;split at q
 ·rename_i dd cd sl ca0 cad ca csl hC hA;split at q
  ·rename_i k0 k1 k2 k3 n k5 hs;simp only[w1d,beq_iff_eq,Bool.not_eq_true']at q;obtain⟨⟨⟨⟨rfl,hm⟩,hdel⟩,hn⟩,hna⟩:=q;obtain⟨nm,bs,mro,ns,qn,hd,sn,sub,ab,col,del⟩:=cd;dsimp only at hm hdel hn;subst hm hdel
   have hsl:sl=#[k0,k1,k2,k3,some (.builtin "ValueError.__new__"),k5]:=by
    obtain⟨l⟩:=sl;simp only at hs;rw[hs]
   subst hsl;obtain⟨mN,hN,hi⟩:=q9o X hn;obtain⟨mA,hNA,hiA⟩:=q9o X hna;exact⟨nm,qn,ns,bs,hd,sn,sub,ab,col,dd,k0,k1,k2,k3,k5,mN,X _ _ hC,hN,hi,.own (X _ _ hA) hNA hiA .base⟩
  ·cases q
 ·cases q
def tRaise(C:Addr)(EE:St->XK)(t:TA):TS:=fun _ σ H=>t σ H fun vs H1=>vs.length<=sizeLine/\EE σ (.ref C) none H1
section
variable{C Ac:Addr}{EE:St->XK}{np cpos:Pos}{t:TA}
theorem x7z(hx:RaisX X EE)(hc:X.calm=true)(hg:Gl X x)(hm:X.mg x=some (.ref C))(hC:excIn X.K C Ac=true)(ha:PA X (e::es) t)
  (hdb:(x==("__debug__":Str))=false:=by decide)(he:starEach (e::es) X.env=(false,eval e X.env)::starEach es X.env:=by rfl)(hpl:(backTo cpos (starEach es X.env)).any (·.1)=false:=by rfl):
  PS X (.Raise (some (.Call (.Name x np) (e::es) [] cpos)) none pos) (tRaise C EE t):=by
 intro pins s σ H D I h;obtain⟨nm,qn,N,bs,hdct,sn,sub,ab,col,dd,k0,k1,k2,k3,k5,mN,hC1,hN,hi,T⟩:=q6d I.kIn hC
 have hpl2:(backTo cpos (starEach (e::es) X.env)).any (·.1)=false:=by
  rw[he];show(false||(backTo cpos (starEach es X.env)).any (·.1))=false;rw[hpl];rfl
 refine wpAny_Raise_call_subT (C:=C) (nm:=nm) (q:=qn) (N:=N) (bs:=bs) (bm:=.ref Ac::veMro) (hdct:=hdct) (sn:=sn) (sub:=sub) (ab:=ab) (col:=col) (dd:=dd) (k0:=k0) (k1:=k1) (k2:=k2) (k3:=k3) (k5:=k5)
  PySem.F.excBase_ValueError (mN:=mN) (by rfl) (I.ok.hd hc) hpl2 hi (q34 I hg hm ⟨rfl,?_⟩ hdb)
 have key:=ha cpos pins s σ H _ I h;rw[he]at key |-
 refine Calls.evalArgs_plain (wpAny_mono key (fun us s1 ⟨vs,H1,I1,r,hz,q⟩=>?_) fun _ _ y=>y)
 obtain⟨nm',qn',N',bs',hdct',sn',sub',ab',col',dd',k0',k1',k2',k3',k5',mN',hC1',hN',hi',T'⟩:=q6d I1.kIn hC;have kk:∀b o,X.base.get? b=some o->s1.heap.get? b=some o:=I1.bk
 have hCb:X.base.get? C=s1.heap.get? C:=by
  obtain⟨_,_,_,_,_,_,_,_,_,_,_,_,_,_,_,_,z,_⟩:=q6d I.ok.mod.kin hC;rw[z];exact(kk _ _ z).symm
 have hCs:s.heap.get? C=s1.heap.get? C:=by
  obtain⟨_,_,_,_,_,_,_,_,_,_,_,_,_,_,_,_,z,_⟩:=q6d I.ok.mod.kin hC;rw[I.bk _ _ z];exact(kk _ _ z).symm
 have hC2:s1.heap.get? C=some (excClassObj nm qn C N bs (.ref Ac::veMro) hdct sn sub ab col dd k0 k1 k2 k3 k5 "ValueError.__new__"):=hCs ▸ hC1;rw[hC2]at hC1';cases hC1';have em:mN' "__init__"=none:=hi'
 have hN2:s1.heap.Ns N mN:=by
  obtain⟨o1,es1,ep1,a1,a2,a3,a4⟩:=hN;obtain⟨_,_,N3,_,_,_,_,_,_,_,_,_,_,_,_,m3,z3,n3,_,_⟩:=q6d I.ok.mod.kin hC;have z4:=I.bk _ _ z3;rw[hC1]at z4;cases z4;obtain⟨o5,es5,ep5,b1,b2,b3,b4⟩:=n3;have c1:=I.bk _ _ b1;rw[a1]at c1;cases c1;exact⟨_,es1,ep1,I1.bk _ _ b1,a2,a3,a4⟩
 exact⟨rfl,by rw[<- r.length];exact hz,hC2,hN2,T',fun h' ea hme=>hx pins σ H1 s1 ea (.ref C) us h' I1 hme q⟩
end
noncomputable def excO(e:Addr)(cls:Value):HO:=.ext fun h=>∃o vs,h.get? e=some o/\o.cls=cls/\o.data=.fields vs
theorem y1d{e:Addr}(x:∃o vs,h.get? e=some o/\o.cls=cls/\o.data=.fields vs):ObjOk P w H h e (excO e cls):=by
 obtain⟨o,vs,h1,h2,h3⟩:=x;refine⟨⟨o,vs,h1,h2,h3⟩,⟨o,h1⟩,fun g1 g2 ⟨o',vs',q1,q2,q3⟩ k=>⟨o',vs',k o' q1,q2,q3⟩⟩
noncomputable abbrev Cx.tr(X:Cx)(pn:List (Addr×Obj))(xe:Value->Shared->Prop):Cx:={X with pn:=pn,xe:=xe}
noncomputable abbrev Cx.hn(X:Cx)(e:Addr):Cx:={X with A:=X.A.mark (some (.ref e)),calm:=false,xe:=fun _ _=>False}
section
variable{pins':List (Addr×Obj)}{xe:Value->Shared->Prop}{e:Addr}
theorem Cx.Ok.tr(ok:X.Ok)(pn:List (Addr×Obj))(xe:Value->Shared->Prop):(X.tr pn xe).Ok:=
 ⟨ok.mod,ok.kind,ok.glob,ok.blt,ok.above,ok.inj,ok.has,ok.cab,ok.hd,ok.frames,ok.stk,ok.exf,ok.bs,ok.bsz,ok.noex,ok.exfs,ok.funs,ok.frf,ok.tab⟩
theorem Cx.Ok.untr{pn:List (Addr×Obj)}(ok:(X.tr pn xe).Ok):X.Ok:=
 ⟨ok.mod,ok.kind,ok.glob,ok.blt,ok.above,ok.inj,ok.has,ok.cab,ok.hd,ok.frames,ok.stk,ok.exf,ok.bs,ok.bsz,ok.noex,ok.exfs,ok.funs,ok.frf,ok.tab⟩
theorem Cx.Ok.hn(ok:X.Ok)(e:Addr):(X.hn e).Ok:=
 ⟨ok.mod,ok.kind,ok.glob,ok.blt,ok.above,ok.inj,ok.has,ok.cab,(fun z=>nomatch z),ok.frames,ok.stk,ok.exf,ok.bs,ok.bsz,ok.noex,ok.exfs,ok.funs,ok.frf,ok.tab⟩
theorem Inv.tr(I:Inv X pins σ H s)(xe:Value->Shared->Prop):Inv (X.tr (X.pn++pins) xe) [] σ H s:=
 ⟨I.ok.tr _ xe,I.os,I.bare,I.base,I.loc,I.cell,I.free,I.freeC,fun p hp=>I.pin p (by simpa using hp),I.hok,I.len⟩
theorem Inv.untr(I:Inv (X.tr (X.pn++pins) xe) pins' σ H s):Inv X pins σ H s:=
 ⟨I.ok.untr,I.os,I.bare,I.base,I.loc,I.cell,I.free,I.freeC,fun p hp=>I.pin p (w2f _ hp),I.hok,I.len⟩
theorem Inv.hn(I:Inv X pins σ H s)(e:Addr):Inv (X.hn e) pins σ H s:=
 ⟨I.ok.hn e,I.os,I.bare,I.base,I.loc,I.cell,I.free,I.freeC,I.pin,I.hok,I.len⟩
theorem Inv.unhn(ok:X.Ok)(I:Inv (X.hn e) pins σ H s):Inv X pins σ H s:=
 ⟨ok,I.os,I.bare,I.base,I.loc,I.cell,I.free,I.freeC,I.pin,I.hok,I.len⟩
theorem Inv.forget{h':Heap}{m':Str->Option Value}{t:Nat}(I:Inv X pins σ H s)(hs:Heap.SameBut X.env.locals s.heap h')(hn':h'.Ns X.env.locals m'):Inv X pins (List.replicate X.N.length none) H {s with heap:=h',toks:=t}:=by
 obtain⟨m,hn,hl⟩:=id I.loc;obtain⟨oL,_,_,hoL,_⟩:=id hn
 have tracked:HOk X.prog X.w H h':=fun b ob e=>by
  refine(I.hok b ob e).stay (fun c w' hc q=>(hs.2 c ?_).trans q) (fun _ q=>q) fun _ _ _ q=>q
  rintro rfl;rcases hc with rfl|hc
  ·rw[I.free]at e;cases e
  ·rw[I.free]at hc;cases hc
 refine⟨I.ok,I.os,I.bare,⟨fun b o e n hb hx=>?_,fun b o e n hb hx=>?_,I.base.free,fun b o e hx=>?_,I.base.tups,I.base.frzs,I.base.tbls⟩,⟨m',hn',fun j y v' e1 e2 e3=>?_⟩,fun y c e=>?_,I.free,I.freeC,fun p hp=>?_,tracked,by simp⟩
 ·exact(hs.2 b (w0o (w0m (Heap.lt_size e) I.ok.above))).trans (I.base.keep b o e n hb hx)
 ·obtain⟨sl,e1⟩:=I.base.slot b o e n hb hx;exact⟨sl,(hs.2 b (w0o (w0m (Heap.lt_size e) I.ok.above))).trans e1⟩
 ·obtain⟨o',e1⟩:=I.base.there b o e hx;exact⟨o',(hs.2 b (w0o (w0m (Heap.lt_size e) I.ok.above))).trans e1⟩
 ·rw[w1o]at e2;split at e2<;>cases e2
 ·obtain⟨w',z⟩:=I.cell y c e;exact⟨w',z.sameBut hs (I.cne y c e)⟩
 ·obtain⟨e,n,ne,nf,d⟩:=I.pin p hp;exact⟨(hs.2 p.1 ne).trans e,n,ne,nf,d⟩
theorem Fly.un{h2 h3:Heap}{B:Heap}(un:Un (frs l) [] H H' h1 h2)(fly:Fly l H H' h1 h2 e cls B)(fl:Heap.FlyingW B l e cls a0 h3)(up:h2.UpToSlots h3):Un (frs l) [] H H' h1 h3:=by
 obtain⟨a1,fl1⟩:=fly.fl;have ex0:∀b:Addr,b∉([]:List Addr):=fun b z=>nomatch z
 have slot:∀b o,h1.get? b=some o->H b=none->b∈frs l->∃sl,h3.get? b=some {o with slots:=sl}:=fun b o q n hb=>by
  obtain⟨sl,e1⟩:=un.slot b o q n hb (ex0 b);obtain⟨_,o2,e2,nd⟩:=fl1.2.2.1.mem hb;rw[e1]at e2;cases e2;obtain⟨sl',e3⟩:=up b _ e1 nd;exact⟨sl',e3⟩
 refine⟨fun b o q n hb hx=>fl.1 b o (fly.old b o q n hb),fun b o q n hb hx=>slot b o q n hb,un.free,fun b o q hx=>?_,un.tups,un.frzs,un.tbls⟩
 rcases fly.all b o q with hb|⟨o',z⟩
 ·obtain⟨_,o2,e2,nd⟩:=fl.2.2.1.mem hb;exact⟨o2,e2⟩
 ·exact⟨o',fl.1 b o' z⟩
theorem Fly.hok{h2 h3:Heap}{B:Heap}(hok:HOk P w H' h2)(fly:Fly l H H' h1 h2 e cls B)(fl:Heap.FlyingW B l e cls a0 h3):HOk P w H' h3:=fun a o q=>by
 refine(hok a o q).stay (fun b u hb z=>?_) (fun _ z=>z) fun _ _ _ z=>z
 rcases hb with rfl|hb
 ·exact fl.1 _ _ (fly.trk b o u q z)
 ·exact fl.1 _ _ (fly.trk b _ u hb z)
theorem Fly.free{h2:Heap}{B:Heap}(hok:HOk P w H' h2)(fly:Fly l H H' h1 h2 e cls B):H' e=none:=by
 obtain⟨a0,fl⟩:=fly.fl;cases q:H' e with
 |none=>rfl
 |some u=>
  obtain⟨o,z⟩:=(hok e u q).get;have:=fly.trk e u o q z;rw[fl.2.1]at this;cases this
theorem Un.taken{fs:List Addr}{h3:Heap}{o:HO}(un:Un fs [] H H' h1 h3)(new:h1.get? e=none)(fr:H' e=none):Un fs [] H (upd H' e o) h1 h3:=by
 refine⟨un.keep,un.slot,fun b ob q n hx=>?_,un.there,fun b xs q=>?_,fun b ob u q=>?_,fun b ps q=>?_⟩
 ·have:b≠e:=fun z=>by rw[z,new]at q;cases q
  rw[q0c this];exact un.free b ob q n hx
 ·have z:=un.tups b xs q;rw[q0c (q0k z fr)];exact z
 ·have z:=un.frzs b ob u q;rw[q0c (q0k z fr)];exact z
 ·obtain⟨more,z⟩:=un.tbls b ps q;exact⟨more,by rw[q0c (q0k z fr)];exact z⟩
theorem HOk.taken{o:HO}(hok:HOk P w H' h)(fr:H' e=none)(new:ObjOk P w (upd H' e o) h e o):HOk P w (upd H' e o) h:=fun b u q=>by
 by_cases hb:b=e
 ·subst hb;rw[q0f]at q;cases q;exact new
 ·rw[q0c hb]at q;exact(hok b u q).stay (fun _ _ _ z=>z) (fun c z=>by rw[q0c (q0k z fr)];exact z) fun c xs _ z=>by rw[q0c (q0k z fr)];exact z
end
structure RoomH(k:Nat)(A:Around):Prop where
 dp:A.depth+3*k+5<recursionLimit
 un:A.units+16*k+200<cLine
 gd:A.guards=some []
theorem Room.hm(r:Room k A)(v:Option Value):RoomH k (A.mark v):=⟨r.dp,r.un,r.gd⟩
theorem RoomH.un0(r:RoomH k A):Room k {A with handled:=none}:=⟨rfl,r.dp,r.un,r.gd⟩
theorem RoomH.deeper(r:RoomH (k+1) A)(env:Env):RoomH k (A.deeper env):=by
 have z:=r.un0.deeper env;exact⟨z.dp,z.un,z.gd⟩
structure FnOkH(P:Program)(w:World)(K:PySem.W.Frag)(mg:Str->Option Value)(base:Heap)(k:Nat)(f:Addr)(fd:FuncData)(ps:List Str)(sp:Sp):Prop where
 len:∀vs H Q E,sp vs H Q E->vs.length=ps.length
 run:∀(A:Around)(outer:List Env)(s:Shared)(H:Hp)(args:Args)(us:List Value)(vs:List V)(Q:VK),RoomH k A->Env0 P w K mg base A outer s H->BindsTo s fd args (ps.zip us)->Vals vs us->sp vs H Q E0 ->
  codeAny (model P w) A (.call (.ref f) args) (CR CX0 outer P w H s Q E0) s
noncomputable abbrev cxH(P:Program)(w:World)(K:PySem.W.Frag)(mg:Str->Option Value)(base:Heap)(N:List Str)(qual:Str)(scope:Scope)(f:Addr)(cd:Value)(A:Around)(outer:List Env)(s:Shared)(H:Hp):Cx:=
 {cxOf CX0 P w K mg base N qual scope f cd A outer s H E0 with calm:=false,xe:=fun _ _=>False}
theorem Fun.okH(F:Fun K x qual st f fd)(S:FnScope N ps (defScope st))(len:∀vs H Q E,sp vs H Q E->vs.length=ps.length)
  (hbody:∀(cdv:Value)(A:Around)(outer:List Env)(s:Shared)(H:Hp)(vs:List V)(Q:VK),RoomH k (A.deeper (envOfC qual (defScope st) s.heap.objs.size f cdv))->sp vs H Q E0 ->
   ∃t,PSs (cxH P w K mg base N qual (defScope st) f cdv A outer s H) (defBody st) t/\t {nx:=fun _ H'=>Q .non H',rt:=Q} (start N vs) H):FnOkH P w K mg base (k+1) f fd ps sp:=by
 obtain⟨oc,od,kV,doc,pm,an,cdv,ct,osl,rfl,lk,hcd⟩:=F.ex;refine⟨len,fun A outer s H args us vs Q hr e0 hb r hsp=>?_⟩
 have hl:=len _ _ _ _ hsp;have KX:K.In s.heap:=e0.mod.kin.keeps fun b o e=>(e0.bs b o e).1
 have lim:s.heap.NoLimit:=e0.mod.nolimit.keeps fun b o e=>(e0.bs b o e).1
 have hkind:∀y∈ps.zip us,(defScope st).names.lookup y.1=some .local\/((defScope st).names.lookup y.1=some .cell/\((cellsFrom (s.heap.objs.size+1) (defScope st).names []).lookup y.1).isSome=true):=fun⟨n,v⟩ hy=>by
  rcases S.par n (w1m hy).1 with q|q
  ·exact .inl q
  ·exact .inr ⟨q,cellsFrom_some _ _ _ (.inl q)⟩
 refine codeAny_call_function (by have:=hr.dp;omega) (KX _ _ lk) rfl S.co S.gen rfl (PySem.W.codeRec_of KX hcd) (hb _ _ _ _ ?_)
 refine wpAny_newFunctionEnv_cells S.kind hkind fun env he s1 x=>?_
 subst he;refine⟨lim.keeps x.toInCall.keep,codeAny_func ?_⟩
 obtain⟨t,ht,hq⟩:=hbody cdv A outer s H vs Q (hr.deeper (envOfC qual (defScope st) s.heap.objs.size f cdv)) hsp;have e0':Env0 P w K mg base {A with handled:=none} outer s H:=⟨e0.frames,e0.mod,e0.bs,e0.bsz,e0.funs,e0.frf,e0.hok,e0.bare,e0.tab⟩
 have I0:Inv (cxOf CX0 P w K mg base N qual (defScope st) f cdv {A with handled:=none} outer s H E0) [] (start N vs) H s1:=q9k S rfl e0' hl r x;have ok0:=I0.ok
 have I:Inv (cxH P w K mg base N qual (defScope st) f cdv A outer s H) [] (start N vs) H s1:=
  ⟨⟨ok0.mod,ok0.kind,ok0.glob,ok0.blt,ok0.above,ok0.inj,ok0.has,ok0.cab,(fun z=>nomatch z),Around.frames_deeper e0.frames,ok0.stk,ok0.exf,ok0.bs,ok0.bsz,ok0.noex,ok0.exfs,ok0.funs,ok0.frf,ok0.tab⟩,
   I0.os,I0.bare,I0.base,I0.loc,I0.cell,I0.free,I0.freeC,I0.pin,I0.hok,I0.len⟩
 refine wpAny_mono (ht [] s1 (start N vs) H _ I hq) (fun fl s' hs=>?_) fun e s' hs=>hs.elim
 have fin:∀{σ':St}{H':Hp}{v:V}{u:Value},Inv (cxH P w K mg base N qual (defScope st) f cdv A outer s H) [] σ' H' s'->RelV v u->Q v H'->CE outer P w H s Q u s':=
  fun {σ' H' v u} J rv q=>⟨v,H',J.os,J.bare,J.base,J.hok,rv,q⟩
 cases fl with
 |ret u=>
  obtain⟨v,σ',H',J,rv,q⟩:=hs;exact fin J rv q
 |next=>
  obtain⟨σ',H',J,q⟩:=hs;exact fin (v:=V.non) (u:=Value.none) J rfl q
 |brk=>
  obtain⟨_,_,_,q⟩:=hs;exact False.elim q
 |cont=>
  obtain⟨_,_,_,q⟩:=hs;exact False.elim q
section
variable{p:Pos}{t:TA}
theorem x70(F:FnOkH X.prog X.w X.K X.mg X.base k f fd ps sp)(hr:RoomH k X.A)(hg:Gl X x)(hm:X.mg x=some (.ref f))(hk:keepIn X.K (.ref f)=true)(hb:Binds X.K fd ps [])
  (ha:PA X (e::es) t)(hdb:(x==("__debug__":Str))=false:=by decide)(he:starEach (e::es) X.env=(false,eval e X.env)::starEach es X.env:=by rfl)(hpl:(backTo pos (starEach es X.env)).any (·.1)=false:=by rfl):
  PE X (.Call (.Name x p) (e::es) [] pos) (tCall sp [] E0 t):=by
 intro pins s σ H Q I h;refine wpAny_Call_Name_kw (q34 I hg hm ?_ hdb);refine callWith_K (h₀:=X.base) I.ok.mod.kin hk (thn (ha pos pins s σ H _ I h) fun us s1 ⟨vs,H1,I1,r,q⟩=>⟨I1.kIn,?_⟩) he hpl
 have q':sp (vs++[]) H1 Q E0:=q;have r2:Vals (vs++[]) (us++[]):=r.append .nil;have hl:(us++[]).length=ps.length:=by rw[<- r2.length];exact F.len _ _ _ _ q'
 refine wpAny_call (codeAny_mono (F.run X.A X.stack s1 H1 ⟨us,[]⟩ (us++[]) (vs++[]) Q hr I1.env0 (hb s1 us I1.kIn hl) r2 q') fun r s' hq=>?_)
 cases r with
 |error e=>exact False.elim hq
 |ok fl=>
  cases fl with
  |ret u=>exact I1.after hq
  |next=>exact False.elim hq
  |brk=>exact False.elim hq
  |cont=>exact False.elim hq
end
noncomputable abbrev Cx.cp(X:Cx)(Nc:List Str)(scope:Scope)(cl:List (Str×Addr))(C:Addr)(s₀:Shared)(H₀:Hp)(ex:List Addr):Cx:=
 {X with N:=Nc,s₀:=s₀,H₀:=H₀,env:=compEnvC scope cl C X.env,outer:=X.stack,ex:=ex,fn:=fun _=>false,pn:=[],xe:=fun _ _=>False}
theorem q4z:∀(names:List (Str×NameKind))(acc:List (Str×Addr)),(∀x∈names,x.2=.free->∃c,env.cells.lookup x.1=some c) ->
  ∃cl,(forIn names acc fun(x:Str×NameKind) (r:List (Str×Addr))=>(if(x.2==NameKind.free)=true then(cellOf env x.1 >>= fun a=>pure (ForInStep.yield ((x.1,a)::r)))else pure (ForInStep.yield r):Sem (ForInStep (List (Str×Addr)))))=pure cl /\
   (∀x c,cl.lookup x=some c->acc.lookup x=some c\/env.cells.lookup x=some c)/\(∀x,((x,NameKind.free)∈names\/(acc.lookup x).isSome=true)->(cl.lookup x).isSome=true)
 |[],acc,_=>⟨acc,rfl,fun x c h=>.inl h,fun x h=>h.elim (fun z=>nomatch z) id⟩
 |(n,k)::r,acc,h=>by
  by_cases hk:k=.free
  ·subst hk;obtain⟨c,hc⟩:=h (n,.free) w1b rfl;obtain⟨cl,e1,e2,e3⟩:=q4z r ((n,c)::acc) fun x hx=>h x (w0y _ hx)
   refine⟨cl,?_,fun x d hd=>?_,fun x hx=>?_⟩
   ·rw[w2d];have:cellOf env n=pure c:=by unfold cellOf;rw[hc]
    simp only[beq_self_eq_true,if_true,this,pure_bind];exact e1
   ·rcases e2 x d hd with z|z
    ·rw[w0u]at z
     by_cases hx:(x==n)=true
     ·rw[hx]at z;have:x=n:=by simpa using hx
      subst this;cases z;exact .inr hc
     ·rw[w1l.mpr hx]at z;exact .inl z
    ·exact .inr z
   ·refine e3 x ?_;rcases hx with z|z
    ·rcases w0p.mp z with y|y
     ·cases y;exact .inr (by rw[w0u];simp)
     ·exact .inl y
    ·refine .inr ?_;rw[w0u]
     by_cases hx:(x==n)=true
     ·rw[hx];rfl
     ·rw[w1l.mpr hx];exact z
  ·obtain⟨cl,e1,e2,e3⟩:=q4z r acc fun x hx=>h x (w0y _ hx)
   refine⟨cl,?_,e2,fun x hx=>e3 x ?_⟩
   ·rw[w2d];have:(k==NameKind.free)=false:=by simpa using hk
    simp only[this,w2l,if_false,pure_bind];exact e1
   ·rcases hx with z|z
    ·rcases w0p.mp z with y|y
     ·cases y;exact absurd rfl hk
     ·exact .inl y
    ·exact .inr z
theorem q4r{scope:Scope}(h:∀x∈scope.names,x.2=.free->∃c,env.cells.lookup x.1=some c):
  ∃cl,closureFor scope env=pure cl/\(∀x c,cl.lookup x=some c->env.cells.lookup x=some c)/\∀x,(x,NameKind.free)∈scope.names->∃c,cl.lookup x=some c:=by
 obtain⟨cl,e1,e2,e3⟩:=q4z scope.names [] h;refine⟨cl,?_,fun x c hc=>(e2 x c hc).resolve_left (fun z=>nomatch z),fun x hx=>w1n.mp (e3 x (.inl hx))⟩
 unfold closureFor
 first
  |exact e1
  |(rw[e1];rfl)
  |(simp only[e1];rfl)
theorem q6e{env : Env} : ∀ {names : List (Str × NameKind)} {x : Str}, (∀ y ∈ names, y.2 ≠ .cell) ->
    ((names.map fun (n, k) => if (k == NameKind.free && env.scope.kind == .function && env.kindOf n == some .cell) then (n, NameKind.cell) else (n, k)).lookup x = some .cell \/
     (names.map fun (n, k) => if (k == NameKind.free && env.scope.kind == .function && env.kindOf n == some .cell) then (n, NameKind.cell) else (n, k)).lookup x = some .free) -> (x, NameKind.free) ∈ names
  | [], x, _, h => by rcases h with h | h <;> cases h
  | (n, k) :: r, x, hc, h => by
    have ih := @q6e env r x fun y hy => hc y (w0y _ hy)
    rw [w0r] at h;dsimp only at h
    by_cases hx : (x == n) = true
    . have e : x = n := by simpa using hx
      subst e
      by_cases hk : k = .free
      . subst hk; exact w1b
      . exfalso
        have hb : (k == NameKind.free) = false := by simpa using hk
        simp only [hb, Bool.false_and, w2l, if_false, w0u, hx] at h;rcases h with h | h
        . exact hc (x, k) w1b (Option.some.inj h)
        . exact hk (Option.some.inj h)
    . refine w0y _ (ih ?_)
      have hb : (x == n) = false := w1l.mpr hx
      by_cases hq : (k == NameKind.free && env.scope.kind == .function && env.kindOf n == some .cell) = true
      . rw [if_pos hq] at h
        simpa only [w0u, hb] using h
      . rw [if_neg hq] at h
        simpa only [w0u, hb] using h
theorem q9p{prog:Program}{R:Result->Shared->Prop}{elt target iter:Expr}{scope:Scope}{it acc:Value}(I:Nat->Shared->Prop)
  (turn:∀n s,I n s->wpAny (model prog w) A (pyNext it) (fun r s1=>match r with
   |none=>R (.ok .next) s1
   |some v=>wpAny (model prog w) A (letOwnedTupleGo target it v) (fun _ s2=>wpAny (model prog w) A (assign target env v) (fun _ s3=>
     wpAny (model prog w) A (forIn ifs true fun c r=>if r=true then do let ok <- isTrue c env (eval c env);pure (ForInStep.yield ok)else pure (ForInStep.yield r)) (fun ok s4=>
      if ok=true then wpAny (model prog w) A (eval elt env) (fun x s5=>wpAny (model prog w) A (call (.builtin "list.append") [acc,x]) (fun _ s6=>∃m,m<n/\I m s6) (fun _ _=>False) s5) (fun _ _=>False) s4
      else ∃m,m<n/\I m s4) (fun _ _=>False) s3) (fun _ _=>False) s2) (fun _ _=>False) s1) (fun _ _=>False) s)
  (n:Nat)(h:I n s):codeAny (model prog w) A (.compLoop (.ListComp elt [⟨target,iter,ifs,0⟩] scope pos) 0 it acc env) R s:=by
 refine codeAny_loop rfl I (fun n s hI=>?_) n h
 show wpAny _ A ((compTurn (.ListComp elt [⟨target,iter,ifs,0⟩] scope pos) 0 it acc env).onRaise (fun x=>do noteFrame x env;theTreesLotGoes x)) _ _ s
 refine wpAny_noted ?_;rw[compTurn_list];refine wpAny_bind (wpAny_standAt (wpAny_bind (wpAny_mono (turn n s hI) (fun r s1 h1=>?_) fun _ _ z=>z.elim)))
 cases r with
 |none=>exact wpAny_pure h1
 |some v=>
  refine wpAny_bind (wpAny_mono h1 (fun _ s2 h2=>?_) fun _ _ z=>z.elim)
  refine wpAny_bind (wpAny_mono h2 (fun _ s3 h3=>?_) fun _ _ z=>z.elim)
  refine wpAny_bind (wpAny_mono h3 (fun ok s4 h4=>?_) fun _ _ z=>z.elim)
  cases ok with
  |false=>exact wpAny_pure ⟨rfl,h4⟩
  |true=>exact wpAny_bind (wpAny_bind (wpAny_mono h4 (fun x s5 h5=>wpAny_bind (wpAny_mono h5 (fun _ s6 h6=>wpAny_pure (wpAny_pure ⟨rfl,h6⟩)) fun _ _ z=>z.elim)) fun _ _ z=>z.elim))
noncomputable def pj(js:List Nat)(σ:St):St:=js.map fun j=>(σ[j]?).getD none
theorem y47{i:Nat}(h:(pj js σ)[i]?=some (some v)):∃j,js[i]?=some j/\σ[j]?=some (some v):=by
 unfold pj at h;rw[w0n]at h;cases e:js[i]? with
 |none=>rw[e]at h;cases h
 |some j=>
  rw[e]at h;have h:(σ[j]?).getD none=some v:=Option.some.inj h;refine⟨j,rfl,?_⟩;cases e2:σ[j]? with
  |none=>rw[e2]at h;cases h
  |some z=>rw[e2]at h;rw[show z=some v from h]
def PTs(X:Cx)(ifs:List Expr)(t:TT):Prop:=
 ∀(pins:List (Addr×Obj))(s:Shared)(σ:St)(H:Hp)(Q:Bool->Hp->Prop),Inv X pins σ H s->t σ H Q ->
  wpAny (model X.prog X.w) X.A (forIn ifs true fun c r=>if r=true then do let ok <- isTrue c X.env (eval c X.env);pure (ForInStep.yield ok)else pure (ForInStep.yield r)) (TP X pins σ Q) X.xe s
def tYes:TT:=fun _ H Q=>Q true H
theorem y1e:PTs X [] tYes:=fun pins s σ H Q I h=>wpAny_tests_nil ⟨H,I,h⟩
def Kp(σ σ':St):Prop:=∀(i:Nat) v,σ[i]?=some (some v)->σ'[i]?=some (some v)
theorem Kp.one:Kp (List.replicate 1 none++σ) (some v::σ):=fun i u h=>by
 cases i with
 |zero=>cases h
 |succ i=>exact h
theorem Kp.two{u:V}:Kp (List.replicate 2 none++σ) (some v::some u::σ):=fun i w h=>by
 match i,h with
 |0,h=>cases h
 |1,h=>cases h
 |i+2,h=>exact h
def tComp(wi:TI)(nl:Nat)(js:List Nat)(g:TG)(tc:TT)(te:TE):TE:=fun σ H Q=>wi σ H fun J H1=>∀D,H1 D=none->∃W:Nat->Nat->Hp->Prop,(∃m,W 0 m (upd H1 D (.lst [])))/\∀i m H2,W i m H2 ->
 (J.stop i H2/\Q (.ref D) H2)\/(J.go i H2/\∀x H3,J.yld i H2 x H3->g x (List.replicate nl none++pj js σ) H3 fun σ4 H4=>Kp (List.replicate nl none++pj js σ) σ4/\tc σ4 H4 fun b H5=>
  if b=true then te σ4 H5 fun y H6=>∃ys,H6 D=some (.lst ys)/\ys.length<sizeLine/\∃m',m'<m/\W (i+1) m' (upd H6 D (.lst (ys++[y])))else ∃m',m'<m/\W (i+1) m' H5)
section
variable{elt target iter:Expr}{scope:Scope}{wi:TI}{g:TG}{tc:TT}
theorem x01{Nl Nf:List Str}{fp:List Addr}{cl:List (Str×Addr)}{tk:Nat}{mC:Str->Option Value}
  (I:Inv X pins σ H s)(hfp:∀b∈fp,FpOk X pins H b)(hob:∀b∈fp,∃o,s.heap.get? b=some o/\∀v,o.data≠.cell v)
  (hk:scope.kind=.function)(hcell:∀y∈scope.names,y.2≠.cell)(hcl:∀x c,cl.lookup x=some c->X.env.cells.lookup x=some c)(hcf:∀x,(x,NameKind.free)∈scope.names->∃c,cl.lookup x=some c)
  (hj:∀(i j:Nat) y,Nf[i]?=some y->js[i]?=some j->X.N[j]?=some y)(hlen:js.length=Nf.length)
  (hNf:∀y∈Nf,(y,NameKind.free)∈scope.names/\Vis X.env.scope y/\X.env.kindOf y≠some .local)
  (hvis:∀y∈Nf,(relabel scope X.env).names.lookup y=some .cell\/(relabel scope X.env).names.lookup y=some .free)
  (hn:h1.Ns (s.heap.objs.size+1) mC)(hs:Heap.SameBut (s.heap.objs.size+1) ((s.heap.push {cls:=.type "list", dict:=none,data:=.seq ([]:List Value).toArray}).push {cls:=.type "dict", data:=.dict #[]}) h1):
  Inv (X.cp (Nl++Nf) scope cl (s.heap.objs.size+1) {s with heap:=s.heap.push {cls:=.type "list", dict:=none,data:=.seq ([]:List Value).toArray}} (upd H s.heap.objs.size (.lst [])) fp) [] (List.replicate Nl.length none++pj js σ) (upd H s.heap.objs.size (.lst [])) {s with heap:=h1,toks:=tk}:=by
 have fD:H s.heap.objs.size=none:=I.hok.fresh (w0h _);have up1:∀b u,s.heap.get? b=some u->(s.heap.push {cls:=.type "list", dict:=none,data:=.seq ([]:List Value).toArray}).get? b=some u:=fun b u q=>Heap.get?_push_of_some _ q
 have szp:(s.heap.push {cls:=.type "list", dict:=none,data:=.seq ([]:List Value).toArray}).objs.size=s.heap.objs.size+1:=Heap.size_push ..
 have up2:∀b u,(s.heap.push {cls:=.type "list", dict:=none,data:=.seq ([]:List Value).toArray}).get? b=some u->h1.get? b=some u:=fun b u q=>by
  have hlt:=Heap.lt_size q;rw[szp]at hlt;exact(hs.2 b (w0o hlt)).trans (Heap.get?_push_of_some _ q)
 have up:∀b u,s.heap.get? b=some u->h1.get? b=some u:=fun b u q=>up2 b u (up1 b u q)
 have ltOf:∀b o,s.heap.get? b=some o->b≠s.heap.objs.size:=fun b o q=>w0o (Heap.lt_size q)
 have fr0:∀b o,s.heap.get? b=some o->H b=none->upd H s.heap.objs.size (.lst []) b=none:=fun b o q n=>by rw[q0c (ltOf b o q)];exact n
 have hasC:∀x,((relabel scope X.env).names.lookup x=some .cell\/(relabel scope X.env).names.lookup x=some .free)->∃c,cl.lookup x=some c:=fun x hx=>hcf x (q6e hcell hx)
 have hokD:HOk X.prog X.w (upd H s.heap.objs.size (.lst [])) (s.heap.push {cls:=.type "list", dict:=none,data:=.seq ([]:List Value).toArray}):=
  I.hok.laid up1 (w0h _) ⟨w1a _,[],_,.nil,Heap.get?_push_size _ rfl⟩
 have cellK:∀x c,cl.lookup x=some c->∃v,s.heap.IsCell c v:=fun x c e=>I.cell x c (hcl x c e)
 have cellUp:∀c v,s.heap.IsCell c v->h1.IsCell c v:=fun c v ⟨o,q,r⟩=>⟨o,up _ _ q,r⟩
 refine⟨⟨I.ok.mod,hk,I.ok.glob,I.ok.blt,(by show(s.heap.push _).objs.size<=_;rw[szp];exact w0h _),fun x y c e1 e2=>I.ok.inj x y c (hcl x c e1) (hcl y c e2),fun x hx=>hasC x hx,(fun x c z=>nomatch z),I.ok.hd,I.ok.frames,.inl rfl,fun b hb=>⟨?_,fun x c e=>?_⟩,fun b o q=>?_,?_,fun b o q hb=>?_,fun b hb hb2=>?_,?_,fun b hb=>?_,(I.ok.tab.un I.base).laid fD⟩,
  rfl,I.bare,Un.kept up2,⟨mC,hn,fun i y v e1 e2 e3=>?_⟩,fun x c e=>?_,?_,fun x c e=>?_,fun p hp=>(by cases hp),hokD.kept up2,?_⟩
 ·obtain⟨o,q,_⟩:=hob b hb;exact w0o (w2r (Heap.lt_size q))
 ·exact(hfp b hb).2.2.2.2.1 x c (hcl x c e)
 ·obtain⟨q1,q2⟩:=I.bs b o q;exact⟨up1 _ _ q1,fr0 b o q1 q2⟩
 ·show X.base.objs.size<=(s.heap.push _).objs.size;rw[szp];exact Nat.le_succ_of_le (w0w I.ok.bsz I.sz)
 ·rcases(hfp b hb).2.2.2.1 with z|z
  ·exact I.ok.noex b o q z
  ·obtain⟨q1,_⟩:=I.ok.bs b o q;exact absurd (Heap.lt_size q1) (w3s.mpr z)
 ·rcases w0p.mp (I.stkSub b hb2)with z|z
  ·exact(hfp b hb).2.1 z
  ·exact(hfp b hb).2.2.1 z
 ·exact I.stack.of_keeps fun b o q _=>⟨o,up1 _ _ q,rfl⟩
 ·obtain⟨_,o,q,_⟩:=I.stack.mem hb;exact fr0 b o q (I.stkFree b hb)
 ·-- the names
  have e2':(List.replicate Nl.length none++pj js σ)[i]?=some (some v):=e2;have e1':(Nl++Nf)[i]?=some y:=e1
  by_cases hi:i<Nl.length
  ·rw[w0s (by simpa using hi),w1o]at e2';split at e2'<;>cases e2'
  ·have hi':Nl.length<=i:=w3s.mp hi;rw[w1k (by simpa using hi')]at e2';rw[w1k hi']at e1';rw[w1u]at e2';obtain⟨j,ej,eσ⟩:=y47 e2';have hNy:=hj _ _ _ e1' ej;obtain⟨hfr,hv,hnl⟩:=hNf y (w0i e1');obtain⟨m,hm,hl⟩:=I.loc;obtain⟨u,r,l⟩:=hl j y v hNy eσ hv;refine⟨u,r,?_⟩;rcases l with⟨k,_⟩|⟨k,c,ec,z⟩
   ·exact absurd k hnl
   ·obtain⟨c',ec'⟩:=hcf y hfr;have:=hcl y c' ec';rw[ec]at this;cases this;exact .inr ⟨hvis y (w0i e1'),c,ec',cellUp _ _ z⟩
 ·obtain⟨v,z⟩:=cellK x c e;exact⟨v,cellUp _ _ z⟩
 ·show upd H s.heap.objs.size (.lst []) (s.heap.objs.size+1)=none;rw[q0c (Nat.succ_ne_self _)];exact I.hok.fresh (w4f _)
 ·obtain⟨v,o,q,_⟩:=cellK x c e;exact fr0 c o q (I.freeC x c (hcl x c e))
 ·show(List.replicate Nl.length none++pj js σ).length=(Nl++Nf).length;rw[w0v,w0v,w1u];unfold pj;rw[w0b,hlen]
theorem x47{σ':St}{s':Shared}{Nc:List Str}{fp:List Addr}{cl:List (Str×Addr)}{h':Heap}
  (I:Inv X pins σ H s)(hfp:∀b∈fp,FpOk X pins H b)
  (J:Inv (X.cp Nc scope cl (s.heap.objs.size+1) {s with heap:=s.heap.push {cls:=.type "list", dict:=none,data:=.seq ([]:List Value).toArray}} (upd H s.heap.objs.size (.lst [])) fp) [] σ' H' s')
  (hs:Heap.SameBut (s.heap.objs.size+1) s'.heap h'):Inv X pins σ H' {s' with heap:=h'}:=by
 have fD:H s.heap.objs.size=none:=I.hok.fresh (w0h _);have up1:∀b u,s.heap.get? b=some u->(s.heap.push {cls:=.type "list", dict:=none,data:=.seq ([]:List Value).toArray}).get? b=some u:=fun b u q=>Heap.get?_push_of_some _ q
 have neC:∀b o,s.heap.get? b=some o->b≠s.heap.objs.size+1:=fun b o q=>w0o (w2r (Heap.lt_size q))
 have fr0:∀b o,s.heap.get? b=some o->H b=none->upd H s.heap.objs.size (.lst []) b=none:=fun b o q n=>by rw[q0c (w0o (Heap.lt_size q))];exact n
 have old:∀b u,H b=some u->upd H s.heap.objs.size (.lst []) b=some u:=fun b u q=>by rw[q0c (q0k q fD)];exact q
 have B:Un (frs X.stack) fp (upd H s.heap.objs.size (.lst [])) H' (s.heap.push {cls:=.type "list", dict:=none,data:=.seq ([]:List Value).toArray}) s'.heap:=J.base;have hC:H' (s.heap.objs.size+1)=none:=J.free;refine I.call' (s':={s' with heap:=h'}) (ch:=fp) (J.os.trans rfl) ⟨fun b o q n hb hx=>?_,fun b o q n hb hx=>?_,fun b o q n hx=>B.free b o (up1 _ _ q) (fr0 b o q n) hx,fun b o q hx=>?_,fun b xs q=>B.tups b xs (old _ _ q),fun b o u q=>B.frzs b o u (old _ _ q),fun b ps q=>B.tbls b ps (old _ _ q)⟩ (fun a o q=>?_) J.bare fun b hb=>?_
 ·exact(hs.2 b (neC b o q)).trans (B.keep b o (up1 _ _ q) (fr0 b o q n) hb hx)
 ·obtain⟨sl,z⟩:=B.slot b o (up1 _ _ q) (fr0 b o q n) hb hx;exact⟨sl,(hs.2 b (neC b o q)).trans z⟩
 ·obtain⟨o',z⟩:=B.there b o (up1 _ _ q) hx;exact⟨o',(hs.2 b (neC b o q)).trans z⟩
 ·refine(J.hok a o q).stay (fun c v hc z=>(hs.2 c ?_).trans z) (fun _ z=>z) fun _ _ _ z=>z
  rintro rfl;rcases hc with rfl|hc
  ·rw[hC]at q;cases q
  ·rw[hC]at hc;cases hc
 ·obtain⟨_,f1,f2,f3,f4,f5⟩:=hfp b hb;exact⟨f3,f1,f4,f5⟩
theorem y1f{Nl Nf:List Str}(hc:X.calm=true)(hi:PI X target iter wi)
  (hk:scope.kind=.function)(hcell:∀y∈scope.names,y.2≠.cell)(hnames:∀x∈scope.names,x.2=.local->scope.names.lookup x.1=some .local)
  (hfree:∀x∈scope.names,x.2=.free->X.env.kindOf x.1=some .cell\/X.env.kindOf x.1=some .free)
  (hj:∀(i j:Nat) y,Nf[i]?=some y->js[i]?=some j->X.N[j]?=some y)(hlen:js.length=Nf.length)
  (hNf:∀y∈Nf,(y,NameKind.free)∈scope.names/\Vis X.env.scope y/\X.env.kindOf y≠some .local)
  (hvis:∀y∈Nf,(relabel scope X.env).names.lookup y=some .cell\/(relabel scope X.env).names.lookup y=some .free)
  (hg:∀cl C s₀ H₀ ex,PG (X.cp (Nl++Nf) scope cl C s₀ H₀ ex) target g)(ht:∀cl C s₀ H₀ ex,PTs (X.cp (Nl++Nf) scope cl C s₀ H₀ ex) ifs tc)(he:∀cl C s₀ H₀ ex,PE (X.cp (Nl++Nf) scope cl C s₀ H₀ ex) elt te)
  (hs:∀x,foldedSetIterable iter X.env x=pure x:=by intro _;rfl):
  PE X (.ListComp elt [⟨target,iter,ifs,0⟩] scope pos) (tComp wi Nl.length js g tc te):=by
 intro pins s σ H Q I h;obtain⟨cl,hclos,hcl,hcf⟩:=q4r (scope:=scope) (env:=X.env) fun x hx hf=>I.ok.has x.1 (hfree x hx hf)
 rw[eval_ListComp];refine wpAny_comprehension_free (use:=none) rfl hs hclos hk hnames (thn (hi pins s σ H _ I h) fun v s1 h1=>thn h1 fun itv s2 h2=>?_)
 obtain⟨it,fp,tn,J,H2,e,I2,T,st2,f2,rd⟩:=h2;subst e;refine wpAny_newObj_type (wpAny_newFunctionEnv hcell (by intro y hy;simp at hy) (fun h₁ hns₁ hsb₁=>?_) hk)
 dsimp only at hns₁ hsb₁ |-
 have szp:(s2.heap.push {cls:=.type "list", dict:=none,data:=.seq ([]:List Value).toArray}).objs.size=s2.heap.objs.size+1:=Heap.size_push ..;rw[szp]at hns₁ hsb₁ |-
 have fD:H2 s2.heap.objs.size=none:=I2.hok.fresh (w0h _);obtain⟨W,⟨m0,w0⟩,turn⟩:=rd s2.heap.objs.size fD;have obj2:=T.obj 0 s2.heap st2;have IS:=x01 (Nl:=Nl) (Nf:=Nf) (js:=js) (cl:=cl) (tk:=s2.toks+([]:List (Str×Value)).length) I2 f2 obj2 hk hcell hcl hcf hj hlen hNf hvis hns₁ hsb₁
 have upS:∀b u,s2.heap.get? b=some u->h₁.get? b=some u:=fun b u q=>by
  have hlt:=Heap.lt_size q;exact(hsb₁.2 b (w0o (w2r hlt))).trans (Heap.get?_push_of_some _ (Heap.get?_push_of_some _ q))
 have stS:tn 0 h₁:=T.keep 0 s2.heap h₁ st2 fun b hb o q=>upS b o q
 have noD:∀b∈fp,upd H2 s2.heap.objs.size (.lst []) b=none:=fun b hb=>by
  obtain⟨o,q,_⟩:=obj2 b hb;rw[q0c (w0o (Heap.lt_size q))];exact(f2 b hb).1
 have stat:∀{H':Hp},(∀b∈fp,H' b=none)->∀b∈fp,FpOk (X.cp (Nl++Nf) scope cl (s2.heap.objs.size+1) {s2 with heap:=s2.heap.push {cls:=.type "list", dict:=none,data:=.seq ([]:List Value).toArray}} (upd H2 s2.heap.objs.size (.lst [])) fp) [] H' b:=fun hn b hb=>by
  refine⟨hn b hb,(IS.ok.exf b hb).1,IS.ok.exfs b hb,.inl hb,(IS.ok.exf b hb).2,fun p hp=>(by cases hp)⟩
 have loop:∀s4:Shared,s4={s2 with heap:=h₁,toks:=s2.toks+([]:List (Str×Value)).length} ->
   codeAny (model X.prog X.w) X.A (.compLoop (.ListComp elt [⟨target,iter,ifs,0⟩] scope pos) 0 (.ref it) (.ref s2.heap.objs.size) (compEnvC scope cl (s2.heap.objs.size+1) X.env))
    (compPost (model X.prog X.w) X.A X.xe none (EP X pins σ Q) (.ref s2.heap.objs.size) (s2.heap.objs.size+1)) s4:=by
  rintro s4 rfl;refine q9p (fun n s'=>∃i H',Inv (X.cp (Nl++Nf) scope cl (s2.heap.objs.size+1) {s2 with heap:=s2.heap.push {cls:=.type "list", dict:=none,data:=.seq ([]:List Value).toArray}} (upd H2 s2.heap.objs.size (.lst [])) fp) [] (List.replicate Nl.length none++pj js σ) H' s'/\tn i s'.heap/\(∀b∈fp,H' b=none)/\W i n H') ?_ m0 ⟨0,_,IS,stS,noD,w0⟩
  rintro n s3 ⟨i,H3,I3,st3,fr3,w3⟩;rcases turn i n H3 w3 with⟨stop,qn⟩|⟨go,step⟩
  ·refine thn (T.done (X.cp (Nl++Nf) scope cl (s2.heap.objs.size+1) {s2 with heap:=s2.heap.push {cls:=.type "list", dict:=none,data:=.seq ([]:List Value).toArray}} (upd H2 s2.heap.objs.size (.lst [])) fp) rfl rfl rfl hc i [] s3 _ H3 _ I3 (stat fr3) st3 stop) fun r s5 ⟨hr,I5⟩=>?_
   subst hr;obtain⟨m5,hn5,_⟩:=I5.loc;refine⟨m5,hn5,fun h' hs'=>⟨.ref s2.heap.objs.size,H3,x47 I2 f2 I5 hs',rfl,qn⟩⟩
  ·refine thn (T.item (X.cp (Nl++Nf) scope cl (s2.heap.objs.size+1) {s2 with heap:=s2.heap.push {cls:=.type "list", dict:=none,data:=.seq ([]:List Value).toArray}} (upd H2 s2.heap.objs.size (.lst [])) fp) rfl rfl rfl hc i [] s3 _ H3 _ I3 (stat fr3) st3 go) fun r s5 ⟨u,hr,h5⟩=>?_
   subst hr;refine thn h5 fun _ s6 ⟨x,H6,I6,r6,y6,st6,fr6⟩=>?_
   have I6':=I6.pinned (stat fr6) (T.obj _ _ st6);refine thn (hg _ _ _ _ _ _ s6 _ H6 x u _ I6' r6 (step x H6 y6)) fun _ s7 ⟨σ7,H7,I7,kp,q7⟩=>?_
   refine thn (ht _ _ _ _ _ _ s7 σ7 H7 _ I7 q7) fun ok s8 ⟨H8,I8,q8⟩=>?_
   have again:∀{σ9:St}{H9:Hp}{s9:Shared},Inv (X.cp (Nl++Nf) scope cl (s2.heap.objs.size+1) {s2 with heap:=s2.heap.push {cls:=.type "list", dict:=none,data:=.seq ([]:List Value).toArray}} (upd H2 s2.heap.objs.size (.lst [])) fp) ([]++pinsAt fp s6.heap) σ9 H9 s9 ->
     Kp (List.replicate Nl.length none++pj js σ) σ9->(∃m',m'<n/\W (i+1) m' H9)->∃m,m<n/\∃i H',Inv (X.cp (Nl++Nf) scope cl (s2.heap.objs.size+1) {s2 with heap:=s2.heap.push {cls:=.type "list", dict:=none,data:=.seq ([]:List Value).toArray}} (upd H2 s2.heap.objs.size (.lst [])) fp) [] (List.replicate Nl.length none++pj js σ) H' s9/\tn i s9.heap/\(∀b∈fp,H' b=none)/\W i m H':=fun {σ9 H9 s9} I9 hw ⟨m',hm,w9⟩=>by
    refine⟨m',hm,i+1,H9,I9.unpinned.weak (by rw[I9.len,<- IS.len]) hw,T.keep _ _ _ st6 fun b hb o q=>(I9.pin (b,o) (w0j _ (w0j _ (q2t hb q)))).1,fun b hb=>?_,w9⟩
    obtain⟨o,q,d⟩:=T.obj _ _ st6 b hb;exact(I9.pin (b,o) (w0j _ (w0j _ (q2t hb q)))).2.1
   cases ok with
   |false=>exact again I8 kp (by simpa using q8)
   |true=>
    have q8':=by simpa only[if_true]using q8
    refine thn (he _ _ _ _ _ _ s8 σ7 H8 _ I8 q8') fun y s9 ⟨yv,H9,I9,r9,ys,hD,hz,q9⟩=>?_
    refine thn (q6b _ s9 σ7 H9 (.ref s2.heap.objs.size) [yv] (.ref s2.heap.objs.size) [y] (fun v H'=>v=.non/\H'=upd H9 s2.heap.objs.size (.lst (ys++[yv]))) I9 rfl (.cons r9 .nil) ⟨_,ys,yv,rfl,rfl,hD,hz,rfl,rfl⟩) fun _ s10 ⟨_,H10,I10,_,_,e10⟩=>?_
    subst e10;exact again I10 kp q9
 exact codeAny_compStart_list (loop _ rfl) (T.self X.A 0 _ _ _ stS (loop _ rfl))
end
theorem q40{env:Env}:∀{names:List (Str×NameKind)}{x:Str},names.lookup x=some .free ->
  (names.map fun(n,k)=>if(k==NameKind.free&&env.scope.kind==.function&&env.kindOf n==some .cell)then(n,NameKind.cell)else(n,k)).lookup x=some .cell \/
  (names.map fun(n,k)=>if(k==NameKind.free&&env.scope.kind==.function&&env.kindOf n==some .cell)then(n,NameKind.cell)else(n,k)).lookup x=some .free
 |[],x,h=>by cases h
 |(n,k)::r,x,h=>by
  have ih:=@q40 env r x;rw[w0r];dsimp only
  by_cases hx:(x==n)=true
  ·simp only[w0u,hx]at h;cases h
   by_cases hq:(NameKind.free==NameKind.free&&env.scope.kind==.function&&env.kindOf n==some .cell)=true
   ·rw[if_pos hq];left;simp[w0u,hx]
   ·rw[if_neg hq];right;simp[w0u,hx]
  ·have hb:(x==n)=false:=w1l.mpr hx;simp only[w0u,hb]at h;have z:=ih h
   by_cases hq:(k==NameKind.free&&env.scope.kind==.function&&env.kindOf n==some .cell)=true
   ·rw[if_pos hq];simpa only[w0u,hb]using z
   ·rw[if_neg hq];simpa only[w0u,hb]using z
noncomputable def compOk(sc scope:Scope)(N Nf:List Str)(js:List Nat):Bool:=
 scope.kind==.function&&scope.names.all (fun y=>y.2 != .cell)&&scope.names.all (fun y=>y.2 != .local||scope.names.lookup y.1==some .local) &&
 scope.names.all (fun y=>y.2 != .free||sc.names.lookup y.1==some .cell||sc.names.lookup y.1==some .free)&&js.length==Nf.length &&
 (List.range js.length).all (fun i=>match js[i]?,Nf[i]? with|some j,some y=>N[j]?==some y|_,_=>true) &&
 Nf.all (fun y=>scope.names.lookup y==some .free&&(sc.names.lookup y==some .cell||sc.names.lookup y==some .free))
theorem x02{elt target iter:Expr}{scope sc:Scope}{wi:TI}{g:TG}{tc:TT}{Nl Nf:List Str}(hc:X.calm=true)(hi:PI X target iter wi)
  (ok:compOk sc scope N Nf js=true)
  (hg:∀cl C s₀ H₀ ex,PG (X.cp (Nl++Nf) scope cl C s₀ H₀ ex) target g)(ht:∀cl C s₀ H₀ ex,PTs (X.cp (Nl++Nf) scope cl C s₀ H₀ ex) ifs tc)(he:∀cl C s₀ H₀ ex,PE (X.cp (Nl++Nf) scope cl C s₀ H₀ ex) elt te)
  (hsc:X.env.scope=sc:=by rfl)(hN:X.N=N:=by rfl)(hs:∀x,foldedSetIterable iter X.env x=pure x:=by intro _;rfl):
  PE X (.ListComp elt [⟨target,iter,ifs,0⟩] scope pos) (tComp wi Nl.length js g tc te):=by
 unfold compOk at ok;simp only[w1d,w0t,beq_iff_eq,bne_iff_ne,w2x,w2b]at ok;obtain⟨⟨⟨⟨⟨⟨k1,k2⟩,k3⟩,k4⟩,k5⟩,k6⟩,k7⟩:=ok;have kind:∀x,X.env.kindOf x=sc.names.lookup x:=fun x=>by rw[<- hsc];rfl
 refine y1f hc hi k1 k2 (fun x hx hl=>(k3 x hx).resolve_left fun z=>z hl) (fun x hx hf=>?_) (fun i j y e1 e2=>?_) k5 (fun y hy=>?_) (fun y hy=>?_) hg ht he hs
 ·rw[kind];rcases k4 x hx with(z|z)|z
  ·exact absurd hf z
  ·exact .inl z
  ·exact .inr z
 ·have hlt:i<js.length:=(w0a.mp e2).1;have z:=k6 i hlt;rw[e1,e2]at z;rw[hN]
  simpa using z
 ·obtain⟨z1,z2⟩:=k7 y hy;refine⟨PySem.mem_of_lookup z1,?_,?_⟩
  ·rw[hsc];rcases z2 with z|z
   ·exact .inr (.inl z)
   ·exact .inr (.inr z)
  ·rw[kind];rcases z2 with z|z<;>(rw[z];decide)
 ·exact q40 (k7 y hy).1
abbrev TF:=Str->St->Hp->(Str->Hp->Prop)->Prop
def PF(X:Cx)(es:List Expr)(t:TF):Prop:=∀(acc:Str)(pins:List (Addr×Obj))(s:Shared)(σ:St)(H:Hp)(Q:Str->Hp->Prop),Inv X pins σ H s->t acc σ H Q ->
 Joins (model X.prog X.w) X.A X.xe (evalEach es X.env) acc (fun out s'=>out.length<=sizeLine/\∃H',Inv X pins σ H' s'/\Q out H') s
theorem x71(hc:X.calm=true):CallR X (.builtin "all") (fun xs H Q=>∃p ys,xs=[.ref p]/\SqL X.K H p ys/\(∀y∈ys,∃b,y=.bl b)/\Q (.bl (ys.all fun y=>decide (y=.bl true))) H):=by
 intro pins s σ H xs us Q I r h;obtain⟨p,ys,rfl,hq,hb,q⟩:=h;obtain⟨u,rfl,rx⟩:=vals1 r;cases rx;obtain⟨its,r',pl,hz⟩:=I.list hq;have hl:=pl.isList;have hlt:p<s.heap.objs.size:=by obtain⟨_,e,_⟩:=hl;exact Heap.lt_size e
 have hh:X.A.in1.handled=none:=I.ok.hd hc;refine call_all_walk (wpAny_pyIter_list hl ⟨s.heap.objs.size,[s.heap.objs.size,p],[s.heap.objs.size],_,_,_,fun i=>decide (ys[i]?=some (.bl true)),rfl,Walks.list hh s.heap.objs.size p (w0o hlt) its.toArray,⟨⟨_,Heap.get?_push_size _ rfl,rfl,rfl⟩,hl.push _⟩,?_,fun h' tk kp=>?_⟩)
 ·intro i v s1 Q1 E1 hv hQ;have hv':its[i]?=some v:=by simpa using hv
  have hi:i<ys.length:=by rw[r'.length];exact(w0a.mp hv').1
  obtain⟨u,hu,ru⟩:=r'.get (w0d hi);rw[hv']at hu;cases hu;obtain⟨b,eb⟩:=hb ys[i] (w1r hi);rw[eb]at ru;cases ru;refine wpAny_truthy_bool ?_
  have e:decide (ys[i]?=some (V.bl true))=b:=by
   rw[w0d hi,eb];cases b<;>simp
  rw[<- e];exact hQ
 ·have e:(List.range its.toArray.size).all (fun i=>decide (ys[i]?=some (V.bl true)))=ys.all fun y=>decide (y=.bl true):=by
   rw[w2m,w0t,w0t];constructor
   ·intro hA y hy;obtain⟨i,hi,rfl⟩:=List.getElem_of_mem hy;have z:=hA i (by rw[w2b,w0c,<- r'.length];exact hi);rw[w0d hi]at z
    simpa using z
   ·intro hA i hi;rw[w2b,w0c,<- r'.length]at hi;have z:=hA ys[i] (w1r hi);rw[w0d hi]
    simpa using z
  refine⟨.bl _,H,I.kept (t':=tk) fun b o hbo=>kp b o (fun z=>?_) (Heap.get?_push_of_some _ hbo),rfl,e ▸ q⟩
  rw[w0k]at z;exact absurd (Heap.lt_size hbo) (by rw[z];exact w1s _)
namespace RevT
variable{c f:Addr}{A:Around}{X:Cx}{e:Expr}{h:Heap}{H H':Hp}{es:List Expr}{ps:List Str}{k:Nat}{p pos:Pos}{P:Program}{K:PySem.W.Frag}{s:Shared}{EE:St->XK}{x:Str}{w:World}
theorem nolen:typeLookup (.type "list_reverseiterator") "__len__"=pure none:=by rw[typeLookup_type,builtinLookup_eq_fast];kernel_rfl
theorem hint:typeLookup (.type "list_reverseiterator") "__length_hint__"=pure (some (.builtin "list_reverseiterator.__length_hint__")):=by rw[typeLookup_type,builtinLookup_eq_fast];kernel_rfl
open AutoSeq1 (wpAny_loadPart')
end RevT
open PySem PySem.Spec PyProof.Rows
structure ExcCls(K:PySem.W.Frag)(D:Addr):Prop where
 ga:findIn K (.ref D) "__getattribute__"=some (some (.builtin "BaseException.__getattribute__"))
 gt:findIn K (.ref D) "__getattr__"=some none
 cl:findIn K (.ref D) "__class__"=some (some (.builtin "object.__class__"))
 gs:specialIn K (.builtin "object.__class__") "__get__"=some (some (.builtin "getset_descriptor.__get__"))
 tk:takesIn K (.builtin "object.__class__")=some true
 mo:PySem.W.mroIn K D (.type "object")=some true
 mb:PySem.W.mroIn K D (.type "BaseException")=some true
 cd:(PySem.W.clsIn K D).isSome=true
noncomputable def excClsIn(K:PySem.W.Frag)(D:Addr):Bool:=
 findIn K (.ref D) "__getattribute__"==some (some (.builtin "BaseException.__getattribute__"))&&findIn K (.ref D) "__getattr__"==some none &&
 findIn K (.ref D) "__class__"==some (some (.builtin "object.__class__"))&&specialIn K (.builtin "object.__class__") "__get__"==some (some (.builtin "getset_descriptor.__get__")) &&
 takesIn K (.builtin "object.__class__")==some true&&PySem.W.mroIn K D (.type "object")==some true&&PySem.W.mroIn K D (.type "BaseException")==some true&&(PySem.W.clsIn K D).isSome
theorem ExcCls.of{D:Addr}(h:excClsIn K D=true):ExcCls K D:=by
 unfold excClsIn at h;simp only[w1d,beq_iff_eq]at h;obtain⟨⟨⟨⟨⟨⟨⟨h1,h2⟩,h3⟩,h4⟩,h5⟩,h6⟩,h7⟩,h8⟩:=h;exact⟨h1,h2,h3,h4,h5,h6,h7,h8⟩
def ExcAt(e D:Addr)(h:Heap):Prop:=∃o vs,h.get? e=some o/\o.cls=.ref D/\o.data=.fields vs
section
variable{prog:Program}{E:Value->Shared->Prop}{e D:Addr}
open PySem.W Builtin Builtin.ObjectAttr Builtin.Getset_descriptor
theorem q73{M:Model}(p:ExcAt e D h):Looks M h (typeOf (.ref e)) (.ref D):=by
 obtain⟨o,vs,h1,h2,h3⟩:=p;exact h2 ▸ (Looks.ld h1).andThen .now
theorem x72{M:Model}(X:K.In h)(C:ExcCls K D):Looks M h (find (.ref e) (.ref D) "__class__") (.bind (.builtin "getset_descriptor.__get__") (.builtin "object.__class__")):=by
 have L1:=looks_findIn (M:=M) X C.cl;have L2:Looks M h (getOf (some (.builtin "object.__class__"))) (some (.builtin "getset_descriptor.__get__")):=looks_specialIn X C.gs;have L3:=looks_takesIn (M:=M) X C.tk;refine L1.andThen (L2.andThen ?_);exact(show Looks M h (dataDescriptor? (some (.builtin "object.__class__")) (some (.builtin "getset_descriptor.__get__"))) (some (.builtin "getset_descriptor.__get__", .builtin "object.__class__"))from L3.andThen .now).andThen (Looks.tag .now)
theorem y1g{tp:Value}{R:Result->Shared->Prop}(X:K.In s.heap)(p:ExcAt e D s.heap)(hm:mroIn K D (.type "object")=some true)
  (h:R (.ok (.ret (.ref D))) s):codeAny (model prog w) A (.call (.builtin "getset_descriptor.__get__") ⟨[.builtin "object.__class__", .ref e,tp],[]⟩) R s:=by
 obtain⟨hh,g,dr,t,os⟩:=s;have L0:=q73 (M:=model prog w) p;have L1:=looks_mroIn (M:=model prog w) X hm;refine codeAny_call_builtin KF.slot_gs.plain KF.entry_gs (KF.slot_gs.check _ _ _ _ _ _ _ _ KF.type_class (KF.args_gs _ _ _) ?_);unfold Builtin.«getset_descriptor.__get__» descrGet;rw[dga_obj];refine wpAny_bind (wpAny_pure ?_);unfold descrGetter descrCheckInstance descrNameAndClass isInstance;simp only[KF.owner_class]
 repeat lk
 refine⟨Code.quiet_builtin _ (by decide +kernel),codeAny_builtin KF.entry_class ?_⟩;unfold Builtin.«object.__class__» shownTypeOf
 repeat lk
 exact h
theorem x48{M:Model}{nameV:Value}{Q:Unit->Shared->Prop}{g:Array GenState}{d:Drawn}{t:Nat}{os:OsState}(X:K.In h)(p:ExcAt e D h)(hm:mroIn K D (.type "BaseException")=some true)(hq:Q () ⟨h,g,d,t,os⟩):
  wpAny M A (checkBuiltinCall "BaseException.__getattribute__" ⟨[.ref e,nameV],[]⟩) Q E ⟨h,g,d,t,os⟩:=by
 have hk:builtinKind "BaseException.__getattribute__"=some .slot:=by decide +kernel
 have hsplit:splitId "BaseException.__getattribute__"=some ("BaseException", "__getattribute__"):=by decide +kernel
 have L0:=q73 (M:=M) p;have L1:=looks_mroIn (M:=M) X hm;have LI:Looks M h (isInstance (.ref e) (.type "BaseException")) true:=L0.andThen L1;have ha:=PySem.F.args_bexc_ga (.ref e) nameV;simp only[checkBuiltinCall,hk,hsplit];refine wpAny_bind (LI.at ?_);rw[if_neg (by decide)];unfold argsOk at ha;split
 ·rename_i sig hs;rw[hs]at ha;exact wpAny_of_eq ha hq
 ·exact wpAny_pure hq
theorem x49{Q:Option Value->Shared->Prop}(X:K.In s.heap)(p:ExcAt e D s.heap)(C:ExcCls K D)(h:Q (some (.ref D)) {s with toks:=s.toks+1}):wpAny (model prog w) A (getAttr? (.ref e) "__class__") Q E s:=by
 obtain⟨hh,g,d,t,os⟩:=s;have L0:=q73 (M:=model prog w) p;have L1:=looks_findIn (M:=model prog w) X C.ga;have L2:=looks_findIn (M:=model prog w) X C.gt;have L3:=x72 (M:=model prog w) (e:=e) X C;unfold getAttr? getAttrBy? getAttrBy;refine wpAny_bind (wpAny_mkText (wpAny_bind (wpAny_attempt (wpAny_holding (wpAny_bind (L0.at (wpAny_bind (L1.at ?_))))))));have hx2:(Value.builtin "BaseException.__getattribute__"==Value.builtin "object.__getattribute__")=false:=by decide +kernel
 have hx1:(onTheHeap (Value.ref D)&&Value.builtin "BaseException.__getattribute__"==Value.builtin "object.__getattribute__")=false:=by rw[hx2];rfl
 dsimp only;rw[if_neg (by rw[hx1];decide)];unfold getAttrByItsOwn hookBefore;rw[if_pos (by rfl)];refine wpAny_bind (L2.at ?_);refine wpAny_bind (wpAny_attempt (wpAny_holding ?_));unfold callGetattribute;rw[if_neg (by decide)];unfold boundAndCalled;have f3:=PySem.F.excAttr_ValueError.ga.bind (.ref e);refine wpAny_bind (wpAny_of_eq f3 ?_);refine wpAny_call (codeAny_call_builtin PySem.F.excAttr_ValueError.ga.plain F.entry_bexc_ga (x48 (K:=K) (D:=D) X p C.mb ?_));unfold Builtin.«object.__getattribute__»;refine wpAny_bind (wpAny_of_eq (a:=(Value.ref e,[Value.str (Str.ofString "__class__") t])) (by rfl) ?_);dsimp only;refine wpAny_bind (wpAny_of_eq (a:=Str.ofString "__class__") (by rfl) ?_);refine wpAny_bind (L0.at (wpAny_bind (L3.at ?_)));dsimp only;unfold bindTo;refine wpAny_bind (wpAny_holding (wpAny_call (y1g (K:=K) (D:=D) X p C.mo ?_)));dsimp only;refine wpAny_pure ?_;dsimp only;refine wpAny_of_eq (a:=Value.ref D) (by rfl) ?_;exact wpAny_pure h
theorem x73(C:ExcCls K D):KitX K (.ref e) (.ref D) (ExcAt e D) where
 ty:=fun _ _ _ p=>q73 p
 it:=fun M h X p=>by
  have hcD:=C.cd;unfold clsIn at hcD;split at hcD
  ·rename_i c' d' cd' sl' ho;intro A' Q' E' s' k q;unfold isType loadHead;exact wpAny_bind (wpAny_loadPart (k _ _ (X _ _ ho)) (wpAny_pure q))
  ·cases hcD
 ne:=fun h tp dd its n sl X htp=>by
  refine w1l.mpr fun q=>?_
  have e1:D=tp:=Value.ref.inj (beq_iff_eq.mp q);subst e1;have hcD:=C.cd;unfold clsIn at hcD;split at hcD
  ·rename_i c' d' cd' sl' ho;have z:=(X _ _ ho).symm.trans htp;cases z
  ·cases hcD
 ca:=fun X p k=>x49 X p C k
end
def ClsV:V->Value->Prop
 |.ty n,c=>c=.type n
 |.ref a,c=>c=.ref a
 |_,_=>False
structure Cal(P:Program)(w:World)(K:PySem.W.Frag)(mg:Str->Option Value)(base:Heap)(k:Nat)(x:Str)(ps:List Str)(sp:Sp):Prop where
 ex:∃f fd,FnOk P w K mg base (CX1 P w) k f fd ps sp/\mg x=some (.ref f)/\keepIn K (.ref f)=true/\Binds K fd ps []
structure CalH(P:Program)(w:World)(K:PySem.W.Frag)(mg:Str->Option Value)(base:Heap)(k:Nat)(x:Str)(ps:List Str)(sp:Sp):Prop where
 ex:∃f fd,FnOkH P w K mg base k f fd ps sp/\mg x=some (.ref f)/\keepIn K (.ref f)=true/\Binds K fd ps []
structure At(K:PySem.W.Frag)(mg:Str->Option Value)(x:Str)(st:Stmt)(ps:List Str):Prop where
 ex:∃f fd,Fun K x x st f fd/\mg x=some (.ref f)/\Binds K fd ps []
section
variable{mg:Str->Option Value}{base:Heap}
theorem At.cal{st:Stmt}{N:List Str}{sp:Sp}(F:At K mg x st ps)(S:FnScope N ps (defScope st))(len:∀vs H Q E,sp vs H Q E->vs.length=ps.length)
  (hbody:∀(f:Addr)(cdv:Value)(A:Around)(outer:List Env)(s:Shared)(H:Hp)(vs:List V)(Q:VK)(E:XK),Room k (A.deeper (envOfC x (defScope st) s.heap.objs.size f cdv))->sp vs H Q E ->
   ∃t,PSs (cxOf (CX1 P w) P w K mg base N x (defScope st) f cdv A outer s H E) (defBody st) t/\t {nx:=fun _ H'=>Q .non H',rt:=Q} (start N vs) H):Cal P w K mg base (k+1) x ps sp:=by
 obtain⟨f,fd,F,m,b⟩:=F.ex;exact⟨f,fd,F.okX S len (hbody f),m,F.kp,b⟩
theorem At.calH{st:Stmt}{N:List Str}{sp:Sp}(F:At K mg x st ps)(S:FnScope N ps (defScope st))(len:∀vs H Q E,sp vs H Q E->vs.length=ps.length)
  (hbody:∀(f:Addr)(cdv:Value)(A:Around)(outer:List Env)(s:Shared)(H:Hp)(vs:List V)(Q:VK),RoomH k (A.deeper (envOfC x (defScope st) s.heap.objs.size f cdv))->sp vs H Q E0 ->
   ∃t,PSs (cxH P w K mg base N x (defScope st) f cdv A outer s H) (defBody st) t/\t {nx:=fun _ H'=>Q .non H',rt:=Q} (start N vs) H):CalH P w K mg base (k+1) x ps sp:=by
 obtain⟨f,fd,F,m,b⟩:=F.ex;exact⟨f,fd,F.okH S len (hbody f),m,F.kp,b⟩
end
section
variable{sp:Sp}{t:TA}
theorem y48(C:Cal X.prog X.w X.K X.mg X.base k x ps sp)(hr:Room k X.A)(hx:PassX (CX1 X.prog X.w) X EE)(ha:PA X (e::es) t)(hg:Gl X x:=by rfl)
  (hdb:(x==("__debug__":Str))=false:=by decide)(he:starEach (e::es) X.env=(false,eval e X.env)::starEach es X.env:=by rfl)(hpl:(backTo pos (starEach es X.env)).any (·.1)=false:=by rfl):
  PE X (.Call (.Name x p) (e::es) [] pos) (tCallX sp [] EE t):=by
 obtain⟨f,fd,F,m,kp,b⟩:=C.ex;exact x7y F hr hg m kp b .nil hx ha hdb he hpl
theorem y1h(C:CalH X.prog X.w X.K X.mg X.base k x ps sp)(hr:RoomH k X.A)(ha:PA X (e::es) t)(hg:Gl X x:=by rfl)
  (hdb:(x==("__debug__":Str))=false:=by decide)(he:starEach (e::es) X.env=(false,eval e X.env)::starEach es X.env:=by rfl)(hpl:(backTo pos (starEach es X.env)).any (·.1)=false:=by rfl):
  PE X (.Call (.Name x p) (e::es) [] pos) (tCall sp [] E0 t):=by
 obtain⟨f,fd,F,m,kp,b⟩:=C.ex;exact x70 F hr hg m kp b ha hdb he hpl
end
section
variable{te:TE}{t:TA}{pos':Pos}
theorem q74(i:Nat)(hN:X.N.Nodup)(he:PE X e te)(hi:X.N[i]?=some x:=by rfl)(hx:Loc X.env.scope x:=by walk_at "3")(hs:swapsWith e (some (.Name x pos')) pos.line X.env=pure false:=by rfl)(hf:X.fn x=true\/X.env.scope.names.lookup x=some .local:=by walk_at "2"):
  PS X (.Assign [.Name x pos'] e pos) (tAsg te (gName i)):=y4u hN hi hx he hs hf
theorem q3r(i:Nat)(hN:X.N.Nodup)(hi:X.N[i]?=some x:=by rfl)(hx:Loc X.env.scope x:=by walk_at "3")(hf:X.fn x=true\/X.env.scope.names.lookup x=some .local:=by walk_at "2"):PG X (.Name x pos) (gName i):=y03 hN hi hx hf
theorem y49{o:Expr}{to:TE}{apos:Pos}(ho:PE X o to)(ha:PA X (e::es) t)(hbase:attributeBase o "append" X.env (eval o X.env)=eval o X.env:=by rfl)
  (hfew:((backTo pos (starEach (e::es) X.env)).all (fun x=>!x.1)&&(backToKw pos (keywordEach [] X.env)).all (fun x=>x.1.isSome)&&decide ((e::es).length+([]:List Keyword).length+(if([]:List Keyword).isEmpty then 0 else 1)<30))=true:=by rfl)
  (hline:(apos.endLine==pos.line)=true:=by rfl)(hs:starEach (e::es) X.env=(false,eval e X.env)::starEach es X.env:=by rfl)(hplain:(backTo pos (starEach es X.env)).any (·.1)=false:=by rfl):
  PE X (.Call (.Attribute o "append" apos) (e::es) [] pos) (tBM X.K "list" rAppend to t):=y0k PySem.F.plainAttrs_list PySem.F.slot_list_append PySem.F.type_list_append q6b ho ha hbase hfew hline hs hplain
end
theorem q2i{p:Addr}(h:H p=none)(o:HO):Same H (upd H p o):=fun b u q=>by rw[q0c (q0k q h)];exact q
theorem Same.tup{a:Addr}{xs:List V}(e:Same H H')(h:SqT K H a xs):SqT K H' a xs:=by
 rcases h with(h|⟨o,h⟩)|h
 ·exact .inl (.inl (e _ _ h))
 ·exact .inl (.inr ⟨o,e _ _ h⟩)
 ·exact .inr h
noncomputable abbrev rawO(o:Obj):HO:=.frz o (.own 0)
noncomputable abbrev fnO(o:Obj)(q:Str)(c:Addr):HO:=.frz o (.tbl #[.bool false,.str q 0,.ref c])
noncomputable abbrev celO(o:Obj):HO:=.frz o (.ext fun _=>True)
noncomputable abbrev Cs:=List (Addr×Obj)
variable{cs:Cs}
noncomputable def rmC(H:Hp)(cs:Cs):Hp:=fun b=>match cs.lookup b with
 |some _=>none
 |none=>H b
noncomputable def addC(H:Hp)(cs:Cs):Hp:=fun b=>match cs.lookup b with
 |some o=>some (celO o)
 |none=>H b
section
variable{b:Addr}{o:Obj}{u:HO}
theorem q6f(h:cs.lookup b=some o):rmC H cs b=none:=by unfold rmC;rw[h]
theorem q1n(h:cs.lookup b=none):rmC H cs b=H b:=by unfold rmC;rw[h]
theorem q2n(h:cs.lookup b=some o):addC H cs b=some (celO o):=by unfold addC;rw[h]
theorem q0s(h:cs.lookup b=none):addC H cs b=H b:=by unfold addC;rw[h]
theorem q41(h:H b=none):rmC H cs b=none:=by unfold rmC;split<;>first|rfl|exact h
def CelsIn(H:Hp)(cs:Cs):Prop:=∀b o,cs.lookup b=some o->H b=some (celO o)
theorem CelsIn.out(c:CelsIn H cs)(h:H b=none):cs.lookup b=none:=by
 cases q:cs.lookup b with
 |none=>rfl
 |some o=>rw[c b o q]at h;cases h
theorem CelsIn.out'(c:CelsIn H cs)(h:H b=some u)(n:∀o,u≠celO o):cs.lookup b=none:=by
 cases q:cs.lookup b with
 |none=>rfl
 |some o=>rw[c b o q]at h;cases h;exact absurd rfl (n o)
theorem CelsIn.rm_some(c:CelsIn H cs)(h:H b=some u)(n:∀o,u≠celO o):rmC H cs b=some u:=by rw[q1n (c.out' h n)];exact h
theorem x3w(h:rmC H cs b=some u):H b=some u/\cs.lookup b=none:=by
 unfold rmC at h;split at h
 ·cases h
 ·rename_i q;exact⟨h,q⟩
theorem q67(t:TupLike u):∀o,u≠celO o:=fun o z=>by subst z;exact t
end
section
variable{h':Heap}{fs ex:List Addr}
theorem HOk.rm(x:HOk P w H h)(c:CelsIn H cs):HOk P w (rmC H cs) h:=fun a u e=>by
 obtain⟨e1,_⟩:=x3w e;exact(x a u e1).stay (fun b v _ q=>q) (fun b q=>c.rm_some q fun o z=>nomatch z) fun b v t q=>c.rm_some q (q67 t)
theorem HOk.add(x:HOk P w H h)(hc:∀b o,cs.lookup b=some o->H b=none/\h.get? b=some o):HOk P w (addC H cs) h:=fun a u e=>by
 cases q:cs.lookup a with
 |some o=>
  rw[q2n q]at e;cases e;exact⟨(hc a o q).2,trivial,⟨o,(hc a o q).2⟩,fun _ _ _ _=>trivial⟩
 |none=>
  rw[q0s q]at e
  have out:∀b v,H b=some v->addC H cs b=some v:=fun b v z=>by
   cases q2:cs.lookup b with
   |some o=>rw[(hc b o q2).1]at z;cases z
   |none=>rw[q0s q2];exact z
  exact(x a u e).stay (fun b v _ q=>q) (fun b q=>out b _ q) fun b v t q=>out b v q
theorem y1i{o:Obj}{q:Str}(x:HOk P w H h)(e:H f=some (fnO o q c)):h.get? f=some o/\h.CodeRec (.ref c) q:=by
 obtain⟨h1,h2⟩:=(show h.get? f=some o/\ObjOk P w H h f (.tbl #[.bool false,.str q 0,.ref c])from x f _ e);refine⟨h1,?_⟩;rcases h2 with⟨_,_,p0,_⟩|⟨q',c',oc,ob,vs,t,_,p1,p2,h3,h4,h5,_⟩
 ·cases p0
 ·cases p1;cases p2;exact⟨c,oc,vs,t,rfl,(show h.get? c=some oc/\_ from x c _ h3).1,h4,h5⟩
theorem Un.cells(u:Un fs ex (rmC H cs) H' h h')(c:CelsIn H cs):Un fs ex H (addC H' cs) h h' where
 keep:=fun b o q n hb hx=>u.keep b o q (q41 n) hb hx
 slot:=fun b o q n hb hx=>u.slot b o q (q41 n) hb hx
 free:=fun b o q n hx=>by rw[q0s (c.out n)];exact u.free b o q (q41 n) hx
 there:=u.there
 tups:=fun b xs q=>by
  have z:=c.out' q fun o z=>nomatch z
  rw[q0s z];exact u.tups b xs (by rw[q1n z];exact q)
 frzs:=fun b o v q=>by
  cases z:cs.lookup b with
  |some o'=>
   rw[q2n z];rw[c b o' z]at q;exact q
  |none=>rw[q0s z];exact u.frzs b o v (by rw[q1n z];exact q)
 tbls:=fun b ps q=>by
  have z:=c.out' q fun o z=>nomatch z
  rw[q0s z];exact u.tbls b ps (by rw[q1n z];exact q)
theorem Un.nocells(u:Un fs ex (addC H cs) H' h h')(hok:HOk P w H' h')(hc:∀b o,cs.lookup b=some o->H b=none/\h.get? b=some o):Un fs ex H (rmC H' cs) h h':=by
 have inn:∀b o,cs.lookup b=some o->H' b=some (celO o)/\h'.get? b=some o:=fun b o z=>by
  have q:=u.frzs b o _ (q2n z);exact⟨q,(show h'.get? b=some o/\_ from hok b _ q).1⟩
 refine⟨fun b o q n hb hx=>?_,fun b o q n hb hx=>?_,fun b o q n hx=>?_,u.there,fun b xs q=>?_,fun b o v q=>?_,fun b ps q=>?_⟩
 ·cases z:cs.lookup b with
  |some o'=>
   have:=(hc b o' z).2;rw[q]at this;cases this;exact(inn b _ z).2
  |none=>exact u.keep b o q (by rw[q0s z];exact n) hb hx
 ·cases z:cs.lookup b with
  |some o'=>
   have:=(hc b o' z).2;rw[q]at this;cases this;exact⟨o.slots,(inn b _ z).2⟩
  |none=>exact u.slot b o q (by rw[q0s z];exact n) hb hx
 ·cases z:cs.lookup b with
  |some o'=>exact q6f z
  |none=>rw[q1n z];exact u.free b o q (by rw[q0s z];exact n) hx
 ·have z:cs.lookup b=none:=by
   cases z:cs.lookup b with
   |some o'=>rw[(hc b o' z).1]at q;cases q
   |none=>rfl
  rw[q1n z];exact u.tups b xs (by rw[q0s z];exact q)
 ·have z:cs.lookup b=none:=by
   cases z:cs.lookup b with
   |some o'=>rw[(hc b o' z).1]at q;cases q
   |none=>rfl
  rw[q1n z];exact u.frzs b o v (by rw[q0s z];exact q)
 ·have z:cs.lookup b=none:=by
   cases z:cs.lookup b with
   |some o'=>rw[(hc b o' z).1]at q;cases q
   |none=>rfl
  rw[q1n z];exact u.tbls b ps (by rw[q0s z];exact q)
end
noncomputable abbrev lamEnv(qual:Str)(scope:Scope)(f:Addr)(cd:Value)(cl:List (Str×Addr))(s:Shared):Env:=PySem.W.envX qual scope s.heap.objs.size f cd cl
noncomputable def cxLam(P:Program)(w:World)(K:PySem.W.Frag)(mg:Str->Option Value)(base:Heap)(N:List Str)(qual:Str)(scope:Scope)(f:Addr)(cd:Value)(cl:List (Str×Addr))(A:Around)(outer:List Env)(s:Shared)(H:Hp):Cx where
 prog:=P
 w:=w
 K:=K
 mg:=mg
 base:=base
 A:=A.deeper (lamEnv qual scope f cd cl s)
 N:=N
 s₀:=s
 H₀:=H
 env:=lamEnv qual scope f cd cl s
 outer:=outer
 stack:=lamEnv qual scope f cd cl s::outer
 ex:=[]
 calm:=true
 fn:=fun _=>false
 pn:=[]
 xe:=fun _ _=>False
structure LamScope(ps Nf:List Str)(sc:Scope):Prop where
 kind:sc.kind=.function
 co:sc.isCoroutine=false
 gen:sc.isGenerator=false
 nd:ps.Nodup
 nocell:∀y∈sc.names,y.2≠.cell
 par:∀x∈ps,sc.names.lookup x=some .local
 fr:∀y∈Nf,sc.names.lookup y=some .free
structure LamCells(cl:List (Str×Addr))(Nf:List Str)(sc:Scope)(zs:List V)(h:Heap)(cs:Cs):Prop where
 inj:∀x y c,cl.lookup x=some c->cl.lookup y=some c->x=y
 has:∀x,(x,NameKind.free)∈sc.names->∃c,cl.lookup x=some c
 all:∀x c,cl.lookup x=some c->∃o,cs.lookup c=some o
 cel:∀c o,cs.lookup c=some o->h.get? c=some o/\∃v,o.data=.cell v
 val:∀(i:Nat) y z,Nf[i]?=some y->zs[i]?=some z->∃c o u,cl.lookup y=some c/\cs.lookup c=some o/\o.data=.cell (some u)/\RelV z u
section
variable{mg:Str->Option Value}{base:Heap}{Nf:List Str}{qual:Str}{scope:Scope}{cd:Value}{cl:List (Str×Addr)}{outer:List Env}{us:List Value}{vs zs:List V}
theorem x74{v:Value}:∀{ps:List Str}{us:List Value}{i:Nat},ps.Nodup->ps[i]?=some x->us[i]?=some v->(ps.zip us).reverse.lookup x=some v:=by
 intro ps us i nd h1 h2;have hm:(x,v)∈(ps.zip us).reverse:=List.mem_reverse.mpr (w0i (i:=i) (by rw[w2h];exact⟨h1,h2⟩))
 have hn:((ps.zip us).reverse.map (·.1)).Nodup:=by
  rw[w3l];show List.Pairwise (·≠·) _;rw[List.pairwise_reverse];refine List.Pairwise.imp (fun h=>Ne.symm h) (show((ps.zip us).map (·.1)).Nodup from ?_)
  exact nd.sublist (by
   clear hm h1 h2
   induction ps generalizing us with
   |nil=>simp
   |cons p ps ih=>cases us with
    |nil=>simp
    |cons u us=>simpa using ih (us:=us) (w1f.mp nd).2)
 generalize (ps.zip us).reverse=l at hm hn
 induction l with
 |nil=>cases hm
 |cons p l ih=>
  obtain⟨y,z⟩:=p;rw[w0u];rcases w0p.mp hm with e|hm2
  ·cases e;simp
  ·have hne:(x==y)=false:=by
    rw[beq_eq_false_iff_ne];rintro rfl;exact(w1f.mp hn).1 (w0q.mpr ⟨(x,v),hm2,rfl⟩)
   rw[hne];exact ih hm2 (w1f.mp hn).2
theorem y1j{h₁:Heap}{tk:Nat}(S:LamScope ps Nf scope)(C:LamCells cl Nf scope zs s.heap cs)(hd:A.handled=none)(e0:Env0 P w K mg base A outer s H)(hn:∀c o,cs.lookup c=some o->H c=none)
  (hl:vs.length=ps.length)(hz:zs.length=Nf.length)(r:Vals vs us)
  (ns:h₁.Ns s.heap.objs.size (fun x=>(ps.zip us).reverse.lookup x))(hs:Heap.SameBut s.heap.objs.size (s.heap.push {cls:=.type "frame", data:=.dict #[]}) h₁):
  Inv (cxLam P w K mg base (ps++Nf) qual scope f cd cl A outer s H) [] (vs.map some++zs.map some) H {s with heap:=h₁,toks:=tk}:=by
 have hk:∀b o,s.heap.get? b=some o->h₁.get? b=some o:=fun b o e=>hs.extBut b o (w0o (Heap.lt_size e)) (Heap.get?_push_of_some _ e)
 have noA:∀b:Addr,b∉([]:List Addr):=fun b z=>nomatch z
 have nofree:∀x c,cl.lookup x=some c->H c=none/\∃o,s.heap.get? c=some o/\∃v,o.data=.cell v:=fun x c e=>by
  obtain⟨o,q⟩:=C.all x c e;exact⟨hn c o q,o,C.cel c o q⟩
 refine⟨⟨e0.mod,S.kind,rfl,rfl,w0h _,C.inj,fun y hy=>?_,(fun x c z=>nomatch z),fun _=>hd,Around.frames_deeper e0.frames,.inr ⟨rfl,rfl⟩,fun b z=>absurd z (noA b),e0.bs,e0.bsz,fun b _ _=>noA b,fun b z=>absurd z (noA b),e0.funs,e0.frf,e0.tab⟩,
  rfl,e0.bare,Un.kept hk,⟨_,ns,fun i y v h1 h2 h3=>?_⟩,fun y c h=>?_,e0.hok.fresh (w0h _),fun y c h=>(nofree y c h).1,fun p hp=>absurd (show p∈([]:List (Addr×Obj))from hp) (by simp),e0.hok.kept hk,?_⟩
 ·have hy:scope.names.lookup y=some .cell\/scope.names.lookup y=some .free:=hy;rcases hy with hy|hy
  ·exact absurd rfl (S.nocell _ (PySem.mem_of_lookup hy))
  ·exact C.has y (PySem.mem_of_lookup hy)
 ·have h1:(ps++Nf)[i]?=some y:=h1
  by_cases hi:i<ps.length
  ·rw[w0s (by simpa [hl]using hi),w0n]at h2;rw[w0s hi]at h1
   have ha:vs[i]?=some v:=by
    cases e:vs[i]? with
    |none=>rw[e]at h2;cases h2
    |some a=>rw[e]at h2;cases h2;rfl
   obtain⟨u,hu,rv⟩:=r.get ha;exact⟨u,rv,.inl ⟨S.par y (w0i h1),x74 S.nd h1 hu⟩⟩
  ·have hi':ps.length<=i:=w3s.mp hi;rw[w1k (by simpa [hl]using hi'),w0n,w0b,hl]at h2;rw[w1k hi']at h1
   have ha:zs[i-ps.length]?=some v:=by
    cases e:zs[i-ps.length]? with
    |none=>rw[e]at h2;cases h2
    |some a=>rw[e]at h2;cases h2;rfl
   obtain⟨c,o,u,e1,e2,e3,e4⟩:=C.val _ _ _ h1 ha;exact⟨u,e4,.inr ⟨.inr (S.fr y (w0i h1)),c,e1,o,hk _ _ (C.cel c o e2).1,e3⟩⟩
 ·obtain⟨_,o,q,v,d⟩:=nofree y c h;exact⟨v,o,hk _ _ q,d⟩
 ·show _=(ps++Nf).length;simp[hl,hz]
theorem lam_run{CX:CXT}{name:Str}{params:Arguments}{body:Expr}{pm ctv:Value}{c':Addr}{t:TE}{Q:VK}{E:XK}
  (hr:Room (k+1) A)(e0:Env0 P w K mg base A outer s H)(hf:H f=some (fnO (kla_obj name qual params body scope cl pm c' ctv) qual c'))
  (S:LamScope ps Nf scope)(CI:CelsIn H cs)(C:LamCells cl Nf scope zs s.heap cs)(hbind:bindArgs (PySem.W.kla_fn name qual params body scope cl pm (.ref c') ctv) ⟨us,[]⟩=pure (ps.zip us))
  (hl:vs.length=ps.length)(hz:zs.length=Nf.length)(r:Vals vs us)
  (hb:PE (cxLam P w K mg base (ps++Nf) qual scope f (.ref c') cl A outer s (rmC H cs)) body t)(hq:t (vs.map some++zs.map some) (rmC H cs) fun v H'=>(∀b o,cs.lookup b=some o->H' b=none)->Q v (addC H' cs)):
  codeAny (model P w) A (.call (.ref f) ⟨us,[]⟩) (CR CX outer P w H s Q E) s:=by
 have lim:s.heap.NoLimit:=e0.mod.nolimit.keeps fun b o e=>(e0.bs b o e).1
 obtain⟨hfo,hcd⟩:=y1i e0.hok hf
 have e1:Env0 P w K mg base A outer s (rmC H cs):=⟨e0.frames,e0.mod,fun b o q=>⟨(e0.bs b o q).1,q41 (e0.bs b o q).2⟩,e0.bsz,e0.funs,fun b hb=>q41 (e0.frf b hb),e0.hok.rm CI,e0.bare,fun a q P m=>by
  obtain⟨ps,e,p⟩:=e0.tab a q P m;exact⟨ps,CI.rm_some e (fun o z=>nomatch z),p⟩⟩
 refine PySem.W.kla_callFunE hr.depth hfo rfl S.co S.gen rfl hcd ?_;rw[hbind];refine wpAny_pure (wpAny_newFunctionEnv S.nocell (fun y hy=>S.par y.1 (w1m hy).1) (fun h₁ hns hsb=>⟨lim.fresh _ hsb,?_⟩) S.kind)
 show codeAny _ _ (.expr body (lamEnv qual scope f (.ref c') cl s)) _ _;have I:=y1j (tk:=s.toks+(ps.zip us).length) (qual:=qual) (f:=f) (cd:=.ref c') S C hr.hd e1 (fun c o q=>q6f q) hl hz r hns hsb
 refine PySem.W.kla_codeExpr (wpAny_mono (hb [] _ _ _ _ I hq) (fun u s' hs'=>?_) fun e s' z=>False.elim z)
 obtain⟨v,H',J,rv,q⟩:=hs';have un:Un (frs outer) [] (rmC H cs) H' s.heap s'.heap:=J.base;refine⟨v,addC H' cs,J.os,J.bare,un.cells CI,J.hok.add fun b o z=>?_,rv,q fun b o z=>un.free b o (C.cel b o z).1 (q6f z) (by simp)⟩
 have nf:b∉frs outer:=fun hb=>by
  have:=e0.frf b hb;rw[CI b o z]at this;cases this
 have g:=(C.cel b o z).1;exact⟨un.free b o g (q6f z) (by simp),un.keep b o g (q6f z) nf (by simp)⟩
end
def FnV(P:Program)(w:World)(K:PySem.W.Frag)(mg:Str->Option Value)(base:Heap)(CX:CXT)(k:Nat)(sp:V->List V->Hp->VK->XK->Prop):Prop:=∀(x:V)(vs:List V)(H:Hp)(Q:VK)(E:XK),sp x vs H Q E ->
 ∃f oc od fd sl u,x=.ref f/\H f=some (.frz ⟨oc,od,.func fd,sl⟩ u)/\∀(A:Around)(outer:List Env)(s:Shared)(us:List Value),Room k A->Env0 P w K mg base A outer s H->Vals vs us ->
  codeAny (model P w) A (.call (.ref f) ⟨us,[]⟩) (CR CX outer P w H s Q E) s
def IsFn(H:Hp)(x:V):Prop:=∃f oc od fd sl u,x=.ref f/\H f=some (.frz ⟨oc,od,.func fd,sl⟩ u)
def tCallV(sp:V->List V->Hp->VK->XK->Prop)(EE:St->XK)(tv:TE)(t:TA):TE:=fun σ H Q=>tv σ H fun x H1=>IsFn H1 x/\t σ H1 fun vs H2=>sp x vs H2 Q (EE σ)
section
variable{CX:CXT}{sp:V->List V->Hp->VK->XK->Prop}{tv:TE}{t:TA}
theorem x75(F:FnV X.prog X.w X.K X.mg X.base CX k sp)(hr:Room k X.A)(hv:PE X (.Name x p) tv)(hx:PassX CX X EE)(ha:PA X (e::es) t)
  (he:starEach (e::es) X.env=(false,eval e X.env)::starEach es X.env:=by rfl)(hpl:(backTo pos (starEach es X.env)).any (·.1)=false:=by rfl):
  PE X (.Call (.Name x p) (e::es) [] pos) (tCallV sp EE tv t):=by
 intro pins s σ H Q I h;refine wpAny_Call_Name_kw (thn (hv pins s σ H _ I h) fun u s1 ⟨y,H1,I1,ry,⟨f,oc,od,fd,sl,uu,ey,ef⟩,q⟩=>?_)
 subst ey;obtain rfl:u=Value.ref f:=ry;refine PySem.W.callWith_F ⟨oc,od,fd,sl,(show s1.heap.get? f=some _/\_ from I1.hok f _ ef).1⟩ (thn (ha pos pins s1 σ H1 _ I1 q) fun us s2 ⟨vs,H2,I2,r,q2⟩=>?_) he hpl
 obtain⟨f',oc',od',fd',sl',u',ex',ef',run⟩:=F _ _ _ _ _ q2;cases ex';refine⟨⟨oc',od',fd',sl',(show s2.heap.get? f=some _/\_ from I2.hok f _ ef').1⟩,wpAny_call (codeAny_mono (run X.A X.stack s2 us hr I2.env0 r) fun r s' hq=>?_)⟩
 cases r with
 |error e=>exact hx pins σ H2 s2 e s' I2 hq
 |ok fl=>
  cases fl with
  |ret u=>exact I2.after hq
  |next=>exact False.elim hq
  |brk=>exact False.elim hq
  |cont=>exact False.elim hq
end
theorem x3x{pos':Pos}{a b:Int}{c cv:Value}(l:List Value)(h:TriplesOk l)(z:codeAmong pos' (l++[rawInt a,rawInt b,c])=some cv):codeAmong pos' l=some cv\/cv=c:=by
 fun_induction TriplesOk l with
 |case1=>
  simp only[w2y,codeAmong,rawInt]at z;split at z
  ·cases z;exact .inr rfl
  ·cases z
 |case2 x t y u v rest ih=>
  simp only[List.cons_append,codeAmong]at z |-
  split at z
  ·rename_i hc;rw[if_pos hc];exact .inl z
  ·rename_i hc;rw[if_neg hc];exact ih h z
 |case3=>exact h.elim
def BMain(h:Heap)(mg:Str->Option Value):Prop:=∃bm ob,mg "__builtins__"=some (.ref bm)/\bm≠builtinsNs/\h.get? bm=some ob/\ob.cls=.type "module" /\ ob.dict=some builtinsNs/\ob.data=.plain
def LamAt(X:Cx)(params:Arguments)(body:Expr)(scope:Scope)(clos:List (Str×Addr))(f:Addr)(H H':Hp):Prop:=closureFor scope X.env=pure clos/\∃(H1:Hp)(pm ctv:Value)(c':Addr),(H1=H\/∃c oc,H c=none/\H1=upd H c (rawO oc))/\H1 f=none /\
 H'=upd H1 f (fnO (kla_obj "<lambda>" (X.env.qual++"<lambda>") params body scope clos pm c' ctv) (X.env.qual++"<lambda>") c')
def tLam(X:Cx)(params:Arguments)(body:Expr)(scope:Scope):TE:=fun _ H Q=>∀f clos H',LamAt X params body scope clos f H H'->Q (.ref f) H'
structure Maker(X:Cx):Prop where
 ex:∃c P a,X.env.code=.ref c/\codeHdIn X.K c P=true/\(a,markO P (X.env.qual++"<lambda>"))∈X.K
 bm:BMain X.base X.mg
section
variable{params:Arguments}{body:Expr}{scope:Scope}{lpos:Pos}
theorem y5a(M:Maker X)(hdef:defaultsOf params X.env=([],[]))(hfree:∀x∈scope.names,x.2=.free->X.env.kindOf x.1=some .cell\/X.env.kindOf x.1=some .free):
  PE X (.Lambda params body scope lpos) (tLam X params body scope):=by
 intro pins s σ H Q I h;obtain⟨clos,hclos,_,_⟩:=q4r (scope:=scope) (env:=X.env) fun x hx hf=>I.ok.has x.1 (hfree x hx hf)
 obtain⟨c,P,a,hcode,hch,hmk⟩:=M.ex;have hhd:=PySem.W.codeHd_of_K I.mod.kin hch;obtain⟨ps,hP,p0,p1⟩:=I.ok.tab a _ P hmk;obtain⟨more,eP⟩:=I.base.tbls P ps hP
 have q0:(ps++more)[0]?=some (.bool true):=by
  rw[w1j (by obtain⟨z,_⟩:=w1q.mp p0;exact z)];exact p0
 have q1:(ps++more)[1]?=some (.str (X.env.qual++"<lambda>") 0):=by
  rw[w1j (by obtain⟨z,_⟩:=w1q.mp p1;exact z)];exact p1
 have oP:ObjOk X.prog X.w H s.heap P (.tbl (ps++more)):=I.hok P _ eP;rcases oP with⟨q,qs,r0,r1,g1,tr,cd⟩|⟨_,_,_,_,_,_,r0,_⟩
 case inr=>rw[q0]at r0;cases r0
 rw[q1]at r1;cases r1;have nP:∀b,H b=none->b≠P:=fun b n z=>by rw[z,eP]at n;cases n
 have hgP:mainGlobals≠P:=by
  obtain⟨o,es,ep,e,_⟩:=I.mod.glob;exact nP _ (I.bs _ o e).2
 have hB:s.heap.BuiltinsAt X.mg P:=by
  obtain⟨bm,ob,b1,b2,b3,b4,b5,b6⟩:=M.bm;refine⟨bm,ob,b1,b2,fun z=>?_,nP _ (I.bs bm ob b3).2,(I.bs bm ob b3).1,b4,b5,b6⟩
  obtain⟨o,es,ep,e,d,_⟩:=I.mod.glob;rw[z,e]at b3;cases b3;rw[d]at b6;cases b6
 have hns:=I.mod.glob.keeps I.bk;refine PySem.W.kla_eval hdef ?_;cases hc:codeAmong lpos qs.toList with
 |some cv=>
  obtain⟨c',oc,vs,t,rfl,k1,k2,k3⟩:=cd lpos cv hc;refine PySem.W.kla_makeFunctionHit (mg:=X.mg) hclos I.ok.glob hns hcode (hhd.keeps I.bk) g1 tr hc hB fun ctv h' tk hk hsz=>?_
  have fr:H h'.objs.size=none:=I.hok.fresh hsz;refine⟨.ref h'.objs.size,_,I.laid (t':=tk) (fun b u e=>Heap.get?_push_of_some _ (hk b u e)) hsz ?_,rfl,h _ clos _ ⟨hclos,H,(X.mg "__name__").getD .none,ctv,c',.inl rfl,fr,rfl⟩⟩
  exact⟨Heap.get?_push_size _ rfl,.inr ⟨_,c',oc,_,vs,t,rfl,rfl,rfl,by rw[q0c (q0k k1 fr)];exact k1,k2,k3,Heap.get?_push_size _ rfl⟩⟩
 |none=>
  refine PySem.W.kla_makeFunction (mg:=X.mg) hclos I.ok.glob hns hcode (hhd.keeps I.bk) g1 tr hc hgP hB fun c' ctv h' tk hx hge hlt hrec htb=>?_
  obtain⟨c2,oc,vs,t,ec,hoc,hd,hv⟩:=hrec;cases ec;have fc:H c'=none:=I.hok.fresh hge;have hne:∀b u,H b=some u->b≠c':=fun b u z=>q0k z fc
  have kp:∀b o,H b=none->s.heap.get? b=some o->h'.get? b=some o:=fun b o n e=>hx b o (nP b n) e
  have hok1:HOk X.prog X.w (upd H c' (rawO oc)) h':=fun a u e=>by
   by_cases ha:a=c'
   ·subst ha;rw[q0f]at e;cases e;exact⟨hoc,oc,hoc⟩
   ·rw[q0c ha]at e
    by_cases haP:a=P
    ·subst haP;rw[eP]at e;cases e;refine .inl ⟨_,_,q0,q1,htb,?_,fun pos cv z=>?_⟩
     ·rw[w3w];exact TriplesOk_snoc _ _ _ _ tr
     ·rw[w3w]at z;rcases x3x _ tr z with z|z
      ·obtain⟨d,od,vd,td,k0,k1,k2,k3⟩:=cd pos cv z;exact⟨d,od,vd,td,k0,by rw[q0c (hne d _ k1)];exact k1,k2,k3⟩
      ·exact⟨c',oc,vs,t,z,q0f,hd,hv⟩
    ·refine(I.hok a u e).stay (fun b v hb q=>hx b v ?_ q) (fun b q=>by rw[q0c (hne b _ q)];exact q) fun b v _ q=>by rw[q0c (hne b _ q)];exact q
     rcases hb with rfl|hb
     ·exact haP
     ·rintro rfl;rw[eP]at hb;cases hb
  have un:Un X.fs [] H (upd H c' (rawO oc)) s.heap h':=by
   refine⟨fun b o q n _ _=>kp b o n q,fun b o q n _ _=>⟨o.slots,kp b o n q⟩,fun b o q n _=>?_,fun b o q _=>?_,fun b xs q=>by rw[q0c (hne b _ q)];exact q,fun b o u q=>by rw[q0c (hne b _ q)];exact q,fun b qs q=>⟨#[],by rw[q0c (hne b _ q),q];simp⟩⟩
   ·rw[q0c (w0o (w0m (Heap.lt_size q) hge))];exact n
   ·by_cases hb:b=P
    ·subst hb;exact⟨_,htb⟩
    ·exact⟨o,hx b o hb q⟩
  have I1:Inv X pins σ (upd H c' (rawO oc)) {s with heap:=h',toks:=tk}:=I.un un hok1;have f1:upd H c' (rawO oc) h'.objs.size=none:=I1.hok.fresh (w0h _);refine⟨.ref h'.objs.size,_,I1.laid (t':=tk) (fun b u e=>Heap.get?_push_of_some _ e) (w0h _) ?_,rfl,h _ clos _ ⟨hclos,_,(X.mg "__name__").getD .none,ctv,c',.inr ⟨c',oc,fc,rfl⟩,f1,rfl⟩⟩
  exact⟨Heap.get?_push_size _ rfl,.inr ⟨_,c',oc,_,vs,t,rfl,rfl,rfl,by rw[q0c (q0k q0f f1)];exact q0f,hd,hv,Heap.get?_push_size _ rfl⟩⟩
end
theorem q68{α:Type}{k:Addr}{v:α}:∀{l:List (Addr×α)},(k,v)∈l->∃v',l.lookup k=some v'
 |[],h=>nomatch h
 |(a,b)::l,h=>by
  rw[w0u]
  by_cases e:(k==a)=true
  ·rw[e];exact⟨b,rfl⟩
  ·rw[w1l.mpr e];rcases w0p.mp h with z|z
   ·cases z;simp at e
   ·exact q68 z
noncomputable def celsAt(clos:List (Str×Addr))(h:Heap):Cs:=(clos.map (·.1)).filterMap fun x=>(clos.lookup x).bind fun c=>(h.get? c).map fun o=>(c,o)
theorem q69{clos:List (Str×Addr)}{o:Obj}(e:(celsAt clos h).lookup c=some o):∃x,clos.lookup x=some c/\h.get? c=some o:=by
 obtain⟨x,_,hx⟩:=w2c.mp (PySem.W.mem_of_lookupK e);obtain⟨c',e1,e2⟩:=w1e.mp hx;obtain⟨o',e3,e4⟩:=w0g.mp e2;cases e4;exact⟨x,e1,e3⟩
theorem q75{clos:List (Str×Addr)}{o:Obj}(e:clos.lookup x=some c)(g:h.get? c=some o):(celsAt clos h).lookup c=some o:=by
 have hm:(c,o)∈celsAt clos h:=w2c.mpr ⟨x,w0q.mpr ⟨(x,c),PySem.mem_of_lookup e,rfl⟩,by rw[e];show(h.get? c).map _=_;rw[g];rfl⟩;obtain⟨o',e'⟩:=q68 hm;obtain⟨_,_,g'⟩:=q69 e';rw[g]at g';cases g';exact e'
structure CellsOf(clos:List (Str×Addr))(Nf:List Str)(scope:Scope)(js:List Nat)(σ:St)(H:Hp)(cs:Cs):Prop where
 inj:∀x y c,clos.lookup x=some c->clos.lookup y=some c->x=y
 has:∀x,(x,NameKind.free)∈scope.names->∃c,clos.lookup x=some c
 all:∀x c,clos.lookup x=some c->∃o,cs.lookup c=some o
 cel:∀c o,cs.lookup c=some o->H c=none/\∃v,o.data=.cell v
 val:∀(i:Nat) y j z,Nf[i]?=some y->js[i]?=some j->σ[j]?=some (some z)->∃c o u,clos.lookup y=some c/\cs.lookup c=some o/\o.data=.cell (some u)/\RelV z u
theorem x2c{outer:List Env}{s':Shared}{E:XK}{e:Value}(hc:∀b o,cs.lookup b=some o->H b=none/\s.heap.get? b=some o)
  (x:CX1 P w outer (addC H cs) s (fun c o H'=>E c o (rmC H' cs)) e s'):CX1 P w outer H s E e s':=by
 obtain⟨e,cls,H',B,rfl,hos,hg,un,hok,fly,hE⟩:=x;have CI:CelsIn H' cs:=fun b o z=>un.frzs b o _ (q2n z)
 refine⟨e,cls,rmC H' cs,B,rfl,hos,hg,un.nocells hok hc,hok.rm CI,⟨fly.fl,fun b o q n nb=>?_,fun b u o q z=>fly.trk b u o (x3w q).1 z,fly.all,fly.new⟩,hE⟩
 cases z:cs.lookup b with
 |some o'=>
  have:=(hc b o' z).2;rw[q]at this;cases this;exact fly.trk b _ o (CI b o z) ((show s'.heap.get? b=some o/\_ from hok b _ (CI b o z)).1)
 |none=>exact fly.old b o q (by rw[q0s z];exact n) nb
theorem pure_inj{α:Type}{a b:α}(h:(pure a:Sem α)=pure b):a=b:=by
 first
  |exact PySem.Sem.pure_inj h
  |(injection h)
  |(cases h;rfl)
section
variable{fd:FuncData}{sp:Sp}
theorem y1k{pins:List (Addr×Obj)}{σ:St}{Q:VK}{us:List Value}{vs:List V}{cs:Cs}(F:FnOk X.prog X.w X.K X.mg X.base (CX1 X.prog X.w) k f fd ps sp)(hr:Room k X.A)(hb:Binds X.K fd ps [])(hx:PassX (CX1 X.prog X.w) X EE)
  (I:Inv X pins σ H s)(hc:∀b o,cs.lookup b=some o->H b=none/\s.heap.get? b=some o)(hv:∀b o,cs.lookup b=some o->b∉frs X.stack)(hn:∀b o,cs.lookup b=some o->X.base.get? b=none)(r:Vals vs us)
  (h:sp vs (addC H cs) (fun v H'=>Q v (rmC H' cs)) fun c o H'=>EE σ c o (rmC H' cs)):wpAny (model X.prog X.w) X.A (call (.ref f) us) (EP X pins σ Q) X.xe s:=by
 have hl:us.length=ps.length:=by rw[<- r.length];exact F.len _ _ _ _ h
 have e0:=I.env0
 have out:∀b,H b=none->(∀o,cs.lookup b≠some o)->addC H cs b=none:=fun b n z=>by
  cases q:cs.lookup b with
  |some o=>exact absurd q (z o)
  |none=>rw[q0s q];exact n
 have e1:Env0 X.prog X.w X.K X.mg X.base X.A X.stack s (addC H cs):=by
  refine⟨e0.frames,e0.mod,fun b o q=>⟨(e0.bs b o q).1,out b (e0.bs b o q).2 fun o' z=>?_⟩,e0.bsz,e0.funs,fun b hb=>out b (e0.frf b hb) fun o z=>?_,e0.hok.add hc,e0.bare,fun a q P m=>?_⟩
  ·rw[hn b o' z]at q;cases q
  ·exact hv b o z hb
  ·obtain⟨ps,e,p⟩:=e0.tab a q P m;refine⟨ps,?_,p⟩;cases z:cs.lookup P with
   |some o=>rw[(hc P o z).1]at e;cases e
   |none=>rw[q0s z];exact e
 have hbb:=hb s us I.kIn (by rw[w1i];exact hl);rw[w1i]at hbb;refine wpAny_call (codeAny_mono (F.run X.A X.stack s (addC H cs) ⟨us,[]⟩ us vs _ _ hr e1 hbb r h) fun r s' hq=>?_)
 cases r with
 |error e=>exact hx pins σ H s e s' I (x2c hc hq)
 |ok fl=>
  cases fl with
  |ret u=>
   obtain⟨v,H',os,bare,un,hok,rv,q⟩:=hq;have CI:CelsIn H' cs:=fun b o z=>un.frzs b o _ (q2n z)
   exact I.after ⟨v,rmC H' cs,os,bare,un.nocells hok hc,hok.rm CI,rv,q⟩
  |next=>exact False.elim hq
  |brk=>exact False.elim hq
  |cont=>exact False.elim hq
def LamQ(sp:Sp)(X:Cx)(scope:Scope)(Nf:List Str)(js:List Nat)(E:XK)(σ:St)(Q:VK)(vs:List V)(H2:Hp):Prop:=∃clos,closureFor scope X.env=pure clos/\∀cs,CellsOf clos Nf scope js σ H2 cs ->
 sp vs (addC H2 cs) (fun v H'=>Q v (rmC H' cs)) fun c o H'=>E c o (rmC H' cs)
def tLamCall(sp:Sp)(X:Cx)(params:Arguments)(body:Expr)(scope:Scope)(Nf:List Str)(js:List Nat)(EE:St->XK)(te:TE):TE:=fun σ H Q=>te σ H fun v1 H1=>∀f clos H2,LamAt X params body scope clos f H1 H2->LamQ sp X scope Nf js (EE σ) σ Q [v1,.ref f] H2
theorem x3y{params:Arguments}{body:Expr}{scope:Scope}{lpos:Pos}{Nf:List Str}{js:List Nat}{te:TE}(F:FnOk X.prog X.w X.K X.mg X.base (CX1 X.prog X.w) k f fd ps sp)(hr:Room k X.A)(hg:Gl X x)(hm:X.mg x=some (.ref f))(hk:keepIn X.K (.ref f)=true)
  (hb:Binds X.K fd ps [])(hx:PassX (CX1 X.prog X.w) X EE)(M:Maker X)(hfn:∀y,X.fn y=true)(he:PE X e te)(hdef:defaultsOf params X.env=([],[]))
  (hfree:∀x∈scope.names,x.2=.free->X.env.kindOf x.1=some .cell\/X.env.kindOf x.1=some .free)
  (hNf:∀(i j:Nat) y,Nf[i]?=some y->js[i]?=some j->X.N[j]?=some y/\(y,NameKind.free)∈scope.names/\Vis X.env.scope y/\X.env.kindOf y≠some .local)
  (hdb:(x==("__debug__":Str))=false:=by decide)(hst:starEach [e,.Lambda params body scope lpos] X.env=(false,eval e X.env)::starEach [.Lambda params body scope lpos] X.env:=by rfl)
  (hst2:starEach [.Lambda params body scope lpos] X.env=(false,eval (.Lambda params body scope lpos) X.env)::starEach [] X.env:=by rfl)(hpl:(backTo pos (starEach [.Lambda params body scope lpos] X.env)).any (·.1)=false:=by rfl):
  PE X (.Call (.Name x p) [e,.Lambda params body scope lpos] [] pos) (tLamCall sp X params body scope Nf js EE te):=by
 intro pins s σ H Q I h;have ha:PA X [e,.Lambda params body scope lpos] (tCons te (tCons (tLam X params body scope) tNil)):=q3p he (q3p (y5a M hdef hfree) q6a hst2) hst;refine wpAny_Call_Name_kw (q34 I hg hm ?_ hdb);refine callWith_K (h₀:=X.base) I.ok.mod.kin hk (thn (ha pos pins s σ H (LamQ sp X scope Nf js (EE σ) σ Q) I h) fun us s1 ⟨vs,H2,I2,r,clos,hclos,q⟩=>⟨I2.kIn,?_⟩) hst hpl
 obtain⟨clos',hclos',hcl,hcf⟩:=q4r (scope:=scope) (env:=X.env) fun x hx hf=>I.ok.has x.1 (hfree x hx hf)
 obtain rfl:clos'=clos:=pure_inj (hclos'.symm.trans hclos)
 have look:∀b o,(celsAt clos' s1.heap).lookup b=some o->∃x,X.env.cells.lookup x=some b/\s1.heap.get? b=some o:=fun b o z=>by
  obtain⟨x,h1,h2⟩:=q69 z;exact⟨x,hcl x b h1,h2⟩
 have hnone:∀b o,(celsAt clos' s1.heap).lookup b=some o->H2 b=none/\s1.heap.get? b=some o:=fun b o z=>by
  obtain⟨x,h1,h2⟩:=look b o z;exact⟨I2.freeC x b h1,h2⟩
 have hab:∀b o,(celsAt clos' s1.heap).lookup b=some o->X.s₀.heap.objs.size<=b:=fun b o z=>by
  obtain⟨x,h1,h2⟩:=look b o z;exact I2.ok.cab x b (hfn x) h1
 refine y1k (cs:=celsAt clos' s1.heap) F hr hb hx I2 hnone (fun b o z hb=>?_) (fun b o z=>Heap.get?_none_of_le (w0w I2.ok.bsz (hab b o z))) r (q _ ⟨fun x y c e1 e2=>I2.ok.inj x y c (hcl x c e1) (hcl y c e2),hcf,fun x c e=>?_,fun c o e=>⟨(hnone c o e).1,?_⟩,fun i y j z e1 e2 e3=>?_⟩)
 ·rcases w0p.mp (I2.stkSub b hb)with e|hb2
  ·obtain⟨x,h1,_⟩:=look b o z;exact I2.cne x b h1 e
  ·obtain⟨_,o',q',_⟩:=I2.ok.funs.mem hb2
   exact absurd (Heap.lt_size q') (w3s.mpr (hab b o z))
 ·obtain⟨v,o,g,_⟩:=I2.cell x c (hcl x c e);exact⟨o,q75 e g⟩
 ·obtain⟨x,h1,h2⟩:=look c o e;obtain⟨v,o',g,d⟩:=I2.cell x c h1;rw[h2]at g;cases g;exact⟨v,d⟩
 ·obtain⟨n1,n2,n3,n4⟩:=hNf i j y e1 e2;obtain⟨m,hm,hl⟩:=I2.loc;obtain⟨u,ru,l⟩:=hl j y z n1 e3 n3;rcases l with⟨k1,_⟩|⟨k1,c,ec,o,g,d⟩
  ·exact absurd k1 n4
  ·obtain⟨c',ec'⟩:=hcf y n2;have e4:=hcl y c' ec';rw[ec]at e4;cases e4;exact⟨c,o,u,ec',q75 ec' g,d,ru⟩
end
end L2
set_option maxHeartbeats 1000000
namespace D
open PySem L2
variable{a:Addr}{X:Cx}{G G' G1 H H' H1:Hp}{es:List Expr}{ps:List Str}{vs xs:List V}{r:List V->Hp->VK->Prop}{i k:Nat}{b:Option Nat}{p pos pos':Pos}{K:PySem.W.Frag}{σ:St}{EE:St->XK}{st:Stmt}{x:Str}{α:Type}{v:V}
noncomputable abbrev Sv:=Int ⊕ Bool
inductive Dd where
 |k (kvs:List (Key×Sv))
structure Lm where
 qual:Str
 params:Arguments
 body:Expr
 scope:Scope
 nf:List Str
set_option genInjectivity true in
inductive W where
 |non|bl (b:Bool)|int (i:Int)|str (x:Str)|tup (xs:List W)|lst (xs:List W)|exc (c:Value)|dic (kvs:Dd)|dw (fz:Bool) (sh:Sh) (ks:List Kx) (ws:List W)|fn (i:Nat) (l:Lm) (ws:List W)
variable{ws:List W}{w:W}{f:W->W->Option W}
inductive SK where
 |old (w:W)|new (w:W)|acc (ws:List W)|thro (us ws vs:List W)|tn (us:List W) (wss:List (List W))|pt (us ws:List W) (w:W)
inductive S where
 |no|fr (w:W)|own (io:Option Nat) (ws:List W)|dic (kvs:Dd)|thr (us ws vs:List W)|nest (wss:List (List W))|dw (sh:Sh) (ks:List Kx) (ws:List W)|x (k:SK)
variable{e e1:List S}{E:Value->List S->Prop}
noncomputable def SK.plain:SK->Option W
 |.old w=>some w
 |.new w=>some w
 |_=>none
noncomputable def SK.look:SK->Option W
 |.old w=>some w
 |.new w=>some w
 |.acc ws=>some (.lst ws)
 |_=>none
noncomputable def sV:Sv->V
 |.inl i=>.int i
 |.inr b=>.bl b
noncomputable def kvV{κ:Type}(kvs:List (κ×Sv)):List (κ×V):=kvs.map fun p=>(p.1,sV p.2)
noncomputable def dO:Dd->HO
 |.k kvs=>.dK (kvV kvs)
noncomputable def isDic:HO->Bool
 |.dK _=>true
 |_=>false
theorem q4e{d:Dd}{u:HO}(h:isDic u=false):dO d≠u:=fun z=>by
 subst z;cases d<;>cases h
def KeysG(G:Hp):List Kx->List Addr->Prop
 |[],[]=>True
 |k::ks,b::bs=>KRep G k (.ref b)/\KeysG G ks bs
 |[],_::_=>False
 |_::_,[]=>False
theorem KeysG.mono(e:Same G G'):∀{ks:List Kx}{bs:List Addr},KeysG G ks bs->KeysG G' ks bs
 |[],[],_=>trivial
 |k::ks,b::bs,h=>⟨KRep.keeps (fun _ _ _ z=>e _ _ z) k h.1,KeysG.mono e h.2⟩
 |[],_::_,h=>h.elim
 |_::_,[],h=>h.elim
def DAt(fz:Bool)(G:Hp)(a:Addr)(sh:Sh)(kvs:List (Kx×V))(kas:List Addr):Prop:=if fz=true then ∃o,G a=some (.frz o (.dT sh kvs kas))else G a=some (.dT sh kvs kas)
theorem DAt.mono{fz:Bool}{sh:Sh}{kvs:List (Kx×V)}{kas:List Addr}(e:Same G G')(h:DAt fz G a sh kvs kas):DAt fz G' a sh kvs kas:=by
 cases fz with
 |true=>obtain⟨o,h⟩:=h;exact⟨o,e _ _ h⟩
 |false=>exact e _ _ h
structure FnCells(G:Hp)(cl:List (Str×Addr))(l:Lm)(zs:List V)(cs:Cs):Prop where
 inj:∀x y c,cl.lookup x=some c->cl.lookup y=some c->x=y
 has:∀x,(x,NameKind.free)∈l.scope.names->∃c,cl.lookup x=some c
 all:∀x c,cl.lookup x=some c->∃o,cs.lookup c=some o
 cel:∀c o,cs.lookup c=some o->G c=some (celO o)/\∃v,o.data=.cell v
 val:∀(i:Nat) y z,l.nf[i]?=some y->zs[i]?=some z->∃c o u,cl.lookup y=some c/\cs.lookup c=some o/\o.data=.cell (some u)/\RelV z u
 len:zs.length=l.nf.length
theorem FnCells.mono{cl:List (Str×Addr)}{l:Lm}{zs:List V}{cs:Cs}(e:Same G G')(h:FnCells G cl l zs cs):FnCells G' cl l zs cs:=⟨h.inj,h.has,h.all,fun c o q=>⟨e _ _ (h.cel c o q).1,(h.cel c o q).2⟩,h.val,h.len⟩
def FnAtG(G:Hp)(l:Lm)(cl:List (Str×Addr))(f:Addr):Prop:=∃pm c' ctv,G f=some (fnO (kla_obj "<lambda>" l.qual l.params l.body l.scope cl pm c' ctv) l.qual c')
inductive RefTo(v:V)(P Q:Addr->List V->Prop):Prop where
 |mk (a:Addr) (xs:List V) (h:v=.ref a) (p:P a xs) (q:Q a xs):RefTo v P Q
inductive ConsOf(xs:List V)(P:V->Prop)(Q:List V->Prop):Prop where
 |mk (x:V) (r:List V) (h:xs=x::r) (p:P x) (q:Q r):ConsOf xs P Q
mutual
def Rep(K:PySem.W.Frag)(G:Hp):W->V->Prop
 |.non,v=>v=.non
 |.bl b,v=>v=.bl b
 |.int i,v=>v=.int i
 |.str x,v=>v=.str x
 |.tup ws,v=>RefTo v (SqT K G) fun _ xs=>Reps K G ws xs
 |.lst ws,v=>RefTo v (SqL K G) fun _ xs=>Reps K G ws xs
 |.exc c,v=>∃e,v=.ref e/\G e=some (excO e c)
 |.dic kvs,v=>∃e,v=.ref e/\G e=some (dO kvs)
 |.dw fz sh ks ws,v=>∃a kvs kas,v=.ref a/\DAt fz G a sh kvs kas/\kvs.map (·.1)=ks/\KeysG G ks kas/\Reps K G ws (kvs.map (·.2))
 |.fn _ l ws,v=>∃f cl zs cs,v=.ref f/\FnAtG G l cl f/\FnCells G cl l zs cs/\Reps K G ws zs
def Reps(K:PySem.W.Frag)(G:Hp):List W->List V->Prop
 |[],xs=>xs=[]
 |w::ws,xs=>ConsOf xs (Rep K G w) (Reps K G ws)
end
mutual
theorem Rep.mono{K:PySem.W.Frag}{G G':Hp}(e:Same G G'):∀(w:W){v:V},Rep K G w v->Rep K G' w v
 |.non,v,h=>h
 |.bl b,v,h=>h
 |.int i,v,h=>h
 |.str x,v,h=>h
 |.tup ws,v,h=>by
  obtain⟨a,xs,rfl,q,r⟩:=h;exact⟨a,xs,rfl,e.tup q,Reps.mono e ws r⟩
 |.lst ws,v,h=>by
  obtain⟨a,xs,rfl,q,r⟩:=h;exact⟨a,xs,rfl,e.seq q,Reps.mono e ws r⟩
 |.exc c,v,h=>by
  obtain⟨a,rfl,q⟩:=h;exact⟨a,rfl,e _ _ q⟩
 |.dic kvs,v,h=>by
  obtain⟨a,rfl,q⟩:=h;exact⟨a,rfl,e _ _ q⟩
 |.dw fz sh ks ws,v,h=>by
  obtain⟨a,kvs,kas,rfl,h1,h2,h3,h4⟩:=h;exact⟨a,kvs,kas,rfl,h1.mono e,h2,h3.mono e,Reps.mono e ws h4⟩
 |.fn i l ws,v,h=>by
  obtain⟨f,cl,zs,cs,rfl,⟨pm,c',ctv,h1⟩,h2,h3⟩:=h;exact⟨f,cl,zs,cs,rfl,⟨pm,c',ctv,e _ _ h1⟩,h2.mono e,Reps.mono e ws h3⟩
theorem Reps.mono{K:PySem.W.Frag}{G G':Hp}(e:Same G G'):∀(ws:List W){xs:List V},Reps K G ws xs->Reps K G' ws xs
 |[],xs,h=>h
 |w::ws,xs,h=>by
  obtain⟨x,r,rfl,h1,h2⟩:=h;exact⟨x,r,rfl,Rep.mono e w h1,Reps.mono e ws h2⟩
end
theorem Reps.length:∀{ws:List W}{xs:List V},Reps K G ws xs->xs.length=ws.length
 |[],xs,h=>by cases h;rfl
 |w::ws,xs,h=>by
  obtain⟨x,r,rfl,_,h2⟩:=h;simp[Reps.length h2]
theorem Reps.get:∀{ws:List W}{xs:List V}{i:Nat}{w:W},Reps K G ws xs->ws[i]?=some w->∃x,xs[i]?=some x/\Rep K G w x
 |[],xs,i,w,h,e=>by simp at e
 |w'::ws,xs,0,w,h,e=>by
  obtain⟨x,r,rfl,h1,h2⟩:=h;simp at e;subst e;exact⟨x,rfl,h1⟩
 |w'::ws,xs,i+1,w,h,e=>by
  obtain⟨x,r,rfl,h1,h2⟩:=h;obtain⟨y,e1,e2⟩:=Reps.get (i:=i) h2 (by simpa using e);exact⟨y,by simpa using e1,e2⟩
theorem Reps.getV:∀{ws:List W}{xs:List V}{i:Nat}{x:V},Reps K G ws xs->xs[i]?=some x->∃w,ws[i]?=some w/\Rep K G w x:=fun {ws xs i x} h e=>by
 have hl:=h.length;have hi:i<xs.length:=(w0a.mp e).1;have e2:ws[i]?=some ws[i]:=w0d (by omega);obtain⟨y,e3,r⟩:=h.get e2;rw[e]at e3;cases e3;exact⟨_,e2,r⟩
theorem Reps.append:∀{ws ws':List W}{xs xs':List V},Reps K G ws xs->Reps K G ws' xs'->Reps K G (ws++ws') (xs++xs')
 |[],ws',xs,xs',h,h'=>by cases h;exact h'
 |w::ws,ws',xs,xs',h,h'=>by
  obtain⟨x,r,rfl,h1,h2⟩:=h;exact⟨x,r++xs',rfl,h1,Reps.append h2 h'⟩
theorem Reps.one{x:V}(h:Rep K G w x):Reps K G [w] [x]:=⟨x,[],rfl,h,rfl⟩
theorem Reps.take:∀(n:Nat){ws:List W}{xs:List V},Reps K G ws xs->Reps K G (ws.take n) (xs.take n)
 |0,_,_,_=>rfl
 |n+1,[],_,h=>by cases h;rfl
 |n+1,w::ws,_,h=>by
  obtain⟨x,r,rfl,h1,h2⟩:=h;exact⟨x,r.take n,rfl,h1,Reps.take n h2⟩
theorem Reps.drop:∀(n:Nat){ws:List W}{xs:List V},Reps K G ws xs->Reps K G (ws.drop n) (xs.drop n)
 |0,_,_,h=>h
 |n+1,[],_,h=>by cases h;rfl
 |n+1,w::ws,_,h=>by
  obtain⟨x,r,rfl,h1,h2⟩:=h;exact Reps.drop n h2
theorem Reps.reverse:∀{ws:List W}{xs:List V},Reps K G ws xs->Reps K G ws.reverse xs.reverse
 |[],_,h=>by cases h;rfl
 |w::ws,_,h=>by
  obtain⟨x,r,rfl,h1,h2⟩:=h;rw[w1y,w1y];exact(Reps.reverse h2).append (.one h1)
theorem Reps.set:∀(i:Nat){ws:List W}{xs:List V}{w:W}{x:V},Reps K G ws xs->Rep K G w x->Reps K G (ws.set i w) (xs.set i x)
 |_,[],_,_,_,h,_=>by cases h;rfl
 |0,w'::ws,_,w,x,h,q=>by
  obtain⟨y,r,rfl,h1,h2⟩:=h;exact⟨x,r,rfl,q,h2⟩
 |i+1,w'::ws,_,w,x,h,q=>by
  obtain⟨y,r,rfl,h1,h2⟩:=h;exact⟨y,r.set i x,rfl,h1,Reps.set i h2 q⟩
structure Zt where
 H:Hp
 G:Hp
 io:List Addr
variable{Z Z':Zt}
def FzAt(Z:Zt)(G H:Hp)(l:Addr)(o:Obj)(ys:List V):Prop:=H l=some (.frz o (.lst ys))/\G l=none/\Z.H l=none
def NestIn(K:PySem.W.Frag)(Z:Zt)(G H:Hp):List Addr->List (List W)->Prop
 |[],[]=>True
 |l::ls,ws::wss=>(∃o ys,FzAt Z G H l o ys/\Reps K G ws ys)/\NestIn K Z G H ls wss
 |[],_::_=>False
 |_::_,[]=>False
inductive NestOk(K:PySem.W.Frag)(Z:Zt)(G H:Hp)(wss:List (List W))(v:Option V):Prop where
 |mk (a:Addr) (ls:List Addr) (h1:v=some (.ref a)) (h2:G a=some (.lst (ls.map V.ref))) (h3:ls.Nodup) (h4:NestIn K Z G H ls wss):NestOk K Z G H wss v
theorem NestIn.move(sg:Same G G')(hf:∀l o ys,H l=some (.frz o (.lst ys))->G l=none->Z.H l=none->H' l=some (.frz o (.lst ys))/\G' l=none/\Z'.H l=none):∀{ls:List Addr}{wss:List (List W)},NestIn K Z G H ls wss->NestIn K Z' G' H' ls wss
 |[],[],_=>trivial
 |l::ls,ws::wss,⟨⟨o,ys,⟨h1,h2,h3⟩,h4⟩,h⟩=>⟨⟨o,ys,hf l o ys h1 h2 h3,Reps.mono sg ws h4⟩,h.move sg hf⟩
 |[],_::_,h=>h.elim
 |_::_,[],h=>h.elim
theorem NestOk.move{wss:List (List W)}{v:Option V}(q:NestOk K Z G H wss v)(sg:Same G G')(hf:∀l o ys,H l=some (.frz o (.lst ys))->G l=none->Z.H l=none->H' l=some (.frz o (.lst ys))/\G' l=none/\Z'.H l=none):NestOk K Z' G' H' wss v:=by
 obtain⟨a,ls,h1,h2,h3,h4⟩:=q;exact⟨a,ls,h1,sg _ _ h2,h3,h4.move sg hf⟩
inductive DwOk(K:PySem.W.Frag)(Z:Zt)(G H:Hp)(sh:Sh)(ks:List Kx)(ws:List W)(v:Option V):Prop where
 |mk (a:Addr) (kvs:List (Kx×V)) (kas:List Addr) (h1:v=some (.ref a)) (h2:H a=some (.dT sh kvs kas)) (h3:G a=none) (h4:Z.H a=none) (h5:kvs.map (·.1)=ks) (h6:KeysG G ks kas) (h7:Reps K G ws (kvs.map (·.2))):DwOk K Z G H sh ks ws v
theorem DwOk.move{sh:Sh}{ks:List Kx}{v:Option V}(q:DwOk K Z G H sh ks ws v)(sg:Same G G')(hf:∀a kvs kas,H a=some (.dT sh kvs kas)->G a=none->Z.H a=none->H' a=some (.dT sh kvs kas)/\G' a=none/\Z'.H a=none):DwOk K Z' G' H' sh ks ws v:=by
 obtain⟨a,kvs,kas,h1,h2,h3,h4,h5,h6,h7⟩:=q;obtain⟨k1,k2,k3⟩:=hf a kvs kas h2 h3 h4;exact⟨a,kvs,kas,h1,k1,k2,k3,h5,h6.mono sg,Reps.mono sg ws h7⟩
mutual
def RepN(K:PySem.W.Frag)(Z:Zt)(G:Hp):W->V->Prop
 |.non,v=>v=.non
 |.bl b,v=>v=.bl b
 |.int i,v=>v=.int i
 |.str x,v=>v=.str x
 |.tup ws,v=>RefTo v (SqT K G) fun _ xs=>RepNs K Z G ws xs
 |.lst ws,v=>RefTo v (fun a xs=>G a=some (.lst xs)) fun a xs=>Z.H a=none/\RepNs K Z G ws xs
 |.exc _,_=>False
 |.dic _,_=>False
 |.dw _ _ _ _,_=>False
 |.fn _ _ _,_=>False
def RepNs(K:PySem.W.Frag)(Z:Zt)(G:Hp):List W->List V->Prop
 |[],xs=>xs=[]
 |w::ws,xs=>ConsOf xs (RepN K Z G w) (RepNs K Z G ws)
end
mutual
theorem RepN.rep{K:PySem.W.Frag}{Z:Zt}{G:Hp}:∀(w:W){v:V},RepN K Z G w v->Rep K G w v
 |.non,_,h=>h
 |.bl _,_,h=>h
 |.int _,_,h=>h
 |.str _,_,h=>h
 |.tup ws,_,⟨a,xs,e,q,r⟩=>⟨a,xs,e,q,RepNs.reps ws r⟩
 |.lst ws,_,⟨a,xs,e,q,_,r⟩=>⟨a,xs,e,.inl (.inl q),RepNs.reps ws r⟩
 |.exc _,_,h=>h.elim
 |.dic _,_,h=>h.elim
 |.dw _ _ _ _,_,h=>h.elim
 |.fn _ _ _,_,h=>h.elim
theorem RepNs.reps{K:PySem.W.Frag}{Z:Zt}{G:Hp}:∀(ws:List W){vs:List V},RepNs K Z G ws vs->Reps K G ws vs
 |[],_,h=>h
 |w::ws,_,⟨x,r,e,p,q⟩=>⟨x,r,e,RepN.rep w p,RepNs.reps ws q⟩
end
mutual
theorem RepN.move{K:PySem.W.Frag}{Z Z':Zt}{G G':Hp}(sg:Same G G')(hz:∀a xs,G a=some (.lst xs)->Z.H a=none->Z'.H a=none):∀(w:W){v:V},RepN K Z G w v->RepN K Z' G' w v
 |.non,_,h=>h
 |.bl _,_,h=>h
 |.int _,_,h=>h
 |.str _,_,h=>h
 |.tup ws,_,⟨a,xs,e,q,r⟩=>⟨a,xs,e,sg.tup q,RepNs.move sg hz ws r⟩
 |.lst ws,_,⟨a,xs,e,q,n,r⟩=>⟨a,xs,e,sg _ _ q,hz _ _ q n,RepNs.move sg hz ws r⟩
 |.exc _,_,h=>h.elim
 |.dic _,_,h=>h.elim
 |.dw _ _ _ _,_,h=>h.elim
 |.fn _ _ _,_,h=>h.elim
theorem RepNs.move{K:PySem.W.Frag}{Z Z':Zt}{G G':Hp}(sg:Same G G')(hz:∀a xs,G a=some (.lst xs)->Z.H a=none->Z'.H a=none):∀(ws:List W){vs:List V},RepNs K Z G ws vs->RepNs K Z' G' ws vs
 |[],_,h=>h
 |w::ws,_,⟨x,r,e,p,q⟩=>⟨x,r,e,RepN.move sg hz w p,RepNs.move sg hz ws q⟩
end
inductive AccOk(K:PySem.W.Frag)(Z:Zt)(G H:Hp)(ws:List W)(v:Option V):Prop where
 |mk (a:Addr) (o:Obj) (xs:List V) (h1:v=some (.ref a)) (h2:FzAt Z G H a o xs) (h3:RepNs K Z G ws xs):AccOk K Z G H ws v
inductive ThroOk(K:PySem.W.Frag)(Z:Zt)(G H:Hp)(us ws vs:List W)(v:Option V):Prop where
 |mk (t l:Addr) (o:Obj) (xs ys zs:List V) (h1:v=some (.ref t)) (h2:Z.G t=some (.tup (xs++.ref l::zs))) (h3:G t=some (.tup (xs++.ref l::zs))) (h4:FzAt Z G H l o ys) (h5:Reps K Z.G us xs/\Reps K Z.G ws ys/\Reps K Z.G vs zs) (h6:Reps K G us xs/\Reps K G ws ys/\Reps K G vs zs):ThroOk K Z G H us ws vs v
inductive TnOk(K:PySem.W.Frag)(Z:Zt)(G H:Hp)(us:List W)(wss:List (List W))(v:Option V):Prop where
 |mk (t l:Addr) (o:Obj) (ls:List Addr) (xs:List V) (h1:v=some (.ref t)) (h2:G t=some (.tup (xs++[.ref l]))) (h3:FzAt Z G H l o (ls.map V.ref)) (h4:ls.Nodup/\l∉ls) (h5:Reps K G us xs) (h6:NestIn K Z G H ls wss):TnOk K Z G H us wss v
inductive PtOk(K:PySem.W.Frag)(Z:Zt)(G H:Hp)(us ws:List W)(w:W)(v:Option V):Prop where
 |mk (p t l:Addr) (o:Obj) (xs ys:List V) (x:V) (h1:v=some (.ref p)) (h2:G p=some (.tup [.ref t,x])) (h3:G t=some (.tup (xs++[.ref l]))) (h4:FzAt Z G H l o ys) (h5:Reps K G us xs) (h6:Reps K G ws ys) (h7:Rep K G w x):PtOk K Z G H us ws w v
def XOk(K:PySem.W.Frag)(Z:Zt)(G H:Hp):SK->Option V->Prop
 |.old w,v=>∃u,v=some u/\Rep K Z.G w u/\Rep K G w u
 |.new w,v=>∃u,v=some u/\RepN K Z G w u
 |.acc ws,v=>AccOk K Z G H ws v
 |.thro us ws vs,v=>ThroOk K Z G H us ws vs v
 |.tn us wss,v=>TnOk K Z G H us wss v
 |.pt us ws w,v=>PtOk K Z G H us ws w v
theorem XOk.move{k:SK}{v:Option V}(q:XOk K Z G H k v)(sg:Same G G')(hf:∀l o ys,H l=some (.frz o (.lst ys))->G l=none->Z.H l=none->H' l=some (.frz o (.lst ys))/\G' l=none/\Z.H l=none):XOk K Z G' H' k v:=by
 cases k with
 |old w=>obtain⟨u,h1,h2,h3⟩:=q;exact⟨u,h1,h2,Rep.mono sg w h3⟩
 |new w=>obtain⟨u,h1,h2⟩:=q;exact⟨u,h1,RepN.move sg (fun _ _ _ z=>z) w h2⟩
 |acc ws=>obtain⟨a,o,xs,h1,⟨h2,h3,h4⟩,h5⟩:=q;exact⟨a,o,xs,h1,hf _ _ _ h2 h3 h4,RepNs.move sg (fun _ _ _ z=>z) ws h5⟩
 |tn us wss=>obtain⟨t,l,o,ls,xs,h1,h2,⟨h3,h4,h5⟩,h6,h7,h8⟩:=q;exact⟨t,l,o,ls,xs,h1,sg _ _ h2,hf _ _ _ h3 h4 h5,h6,Reps.mono sg us h7,h8.move sg hf⟩
 |pt us ws w=>obtain⟨p,t,l,o,xs,ys,x,h1,h2,h3,⟨h4,h5,h6⟩,h7,h8,h9⟩:=q;exact⟨p,t,l,o,xs,ys,x,h1,sg _ _ h2,sg _ _ h3,hf _ _ _ h4 h5 h6,Reps.mono sg us h7,Reps.mono sg ws h8,Rep.mono sg w h9⟩
 |thro us ws vs=>obtain⟨t,l,o,xs,ys,zs,h1,h2,h3,⟨h4,h5,h6⟩,h7,h8,h9,h10⟩:=q;exact⟨t,l,o,xs,ys,zs,h1,h2,sg _ _ h3,hf _ _ _ h4 h5 h6,h7,Reps.mono sg us h8,Reps.mono sg ws h9,Reps.mono sg vs h10⟩
def IoOk(Z:Zt):Option Nat->Addr->Prop
 |none,a=>Z.H a=none
 |some j,a=>Z.io[j]?=some a
theorem IoOk.io(h:IoOk Z b a):a∈Z.io\/Z.H a=none:=by
 cases b with
 |none=>exact .inr h
 |some j=>exact .inl (w0i h)
inductive OwnOk(K:PySem.W.Frag)(Z:Zt)(G H:Hp)(b:Option Nat)(ws:List W)(v:Option V):Prop where
 |mk (a:Addr) (xs:List V) (h1:v=some (.ref a)) (h2:H a=some (.lst xs)) (h3:G a=none) (h4:IoOk Z b a) (h5:Reps K G ws xs):OwnOk K Z G H b ws v
inductive DicOk(Z:Zt)(G H:Hp)(kvs:Dd)(v:Option V):Prop where
 |mk (a:Addr) (h1:v=some (.ref a)) (h2:H a=some (dO kvs)) (h3:G a=none) (h4:Z.H a=none):DicOk Z G H kvs v
inductive ThrOk(K:PySem.W.Frag)(Z:Zt)(G H:Hp)(us ws vs:List W)(v:Option V):Prop where
 |mk (t l:Addr) (o:Obj) (xs ys zs:List V) (h1:v=some (.ref t)) (h2:G t=some (.tup (xs++.ref l::zs))) (h3:H l=some (.frz o (.lst ys))) (h4:G l=none) (h5:Z.H l=none) (h6:Reps K G us xs/\Reps K G ws ys/\Reps K G vs zs):ThrOk K Z G H us ws vs v
def SlotOk(K:PySem.W.Frag)(Z:Zt)(G H:Hp):S->Option V->Prop
 |.no,_=>True
 |.fr w,v=>∃u,v=some u/\Rep K G w u
 |.own b ws,v=>OwnOk K Z G H b ws v
 |.dic kvs,v=>DicOk Z G H kvs v
 |.thr us ws vs,v=>ThrOk K Z G H us ws vs v
 |.nest wss,v=>NestOk K Z G H wss v
 |.dw sh ks ws,v=>DwOk K Z G H sh ks ws v
 |.x k,v=>XOk K Z G H k v
structure Rel(K:PySem.W.Frag)(Z:Zt)(G:Hp)(σ:St)(H:Hp)(e:List S):Prop where
 sub:Same G H
 slot:∀(i:Nat)(s:S),e[i]?=some s->SlotOk K Z G H s (σ[i]?.getD none)
 len:e.length=σ.length
 dis:∀(i j:Nat)(b b':Option Nat)(ws ws':List W)(a:Addr),e[i]?=some (.own b ws)->e[j]?=some (.own b' ws')->σ[i]?=some (some (.ref a))->σ[j]?=some (some (.ref a))->i=j
 ent:∀a o,Z.H a=some o->a∉Z.io->H a=some o
 ion:∀a∈Z.io,H a≠none
 gen:∀a,Z.H a≠none->G a=Z.G a
inductive AtG(K:PySem.W.Frag)(Z:Zt)(σ:St)(H:Hp)(P:Hp->List S->Prop):Prop where
 |mk (G:Hp) (e:List S) (r:Rel K Z G σ H e) (h:P G e):AtG K Z σ H P
structure Grow(G H G' H':Hp):Prop where
 hh:Same H H'
 gg:Same G G'
 sub:Same G' H'
 new:∀a,H a≠none->G' a=G a
theorem Grow.refl(s:Same G H):Grow G H G H:=⟨.refl _,.refl _,s,fun _ _=>rfl⟩
theorem x5a(e:Same H H')(h:H a≠none):H' a≠none:=by
 cases q:H a with
 |none=>exact absurd q h
 |some o=>rw[e a o q];simp
theorem Grow.laid(s:Same G H){D:Addr}(h:H D=none)(o:HO):Grow G H (upd G D o) (upd H D o) where
 hh:=q2i h o
 gg:=q2i (s.free h) o
 sub:=fun b u e=>by
  by_cases hb:b=D
  ·subst hb;rw[q0f]at e |-;exact e
  ·rw[q0c hb]at e |-;exact s b u e
 new:=fun a ha=>by rw[q0c (fun z=>ha (by rw[z];exact h))]
theorem Grow.hid(s:Same G H){D:Addr}(h:H D=none)(o:HO):Grow G H G (upd H D o) where
 hh:=q2i h o
 gg:=.refl _
 sub:=fun b u e=>by
  have:=s b u e;rw[q0c (q0k this h)];exact this
 new:=fun a ha=>rfl
theorem Rel.grow(r:Rel K Z G σ H e)(g:Grow G H G' H'):Rel K Z G' σ H' e where
 sub:=g.sub
 slot:=fun i s h=>by
  have q:=r.slot i s h;cases s with
  |no=>trivial
  |fr w=>
   obtain⟨u,h1,h2⟩:=q;exact⟨u,h1,Rep.mono g.gg w h2⟩
  |own b ws=>
   obtain⟨a,xs,h1,h2,h3,h4,h5⟩:=q;exact⟨a,xs,h1,g.hh _ _ h2,by rw[g.new a (by rw[h2];simp)];exact h3,h4,Reps.mono g.gg ws h5⟩
  |dic kvs=>
   obtain⟨a,h1,h2,h3,h4⟩:=q;exact⟨a,h1,g.hh _ _ h2,by rw[g.new a (by rw[h2];simp)];exact h3,h4⟩
  |thr us ws vs=>
   obtain⟨t,l,o,xs,ys,zs,h1,h2,h3,h4,h5,h6,h7,h8⟩:=q;exact⟨t,l,o,xs,ys,zs,h1,g.gg _ _ h2,g.hh _ _ h3,by rw[g.new l (by rw[h3];simp)];exact h4,h5,Reps.mono g.gg us h6,Reps.mono g.gg ws h7,Reps.mono g.gg vs h8⟩
  |nest wss=>exact NestOk.move q g.gg fun l o ys h1 h2 h3=>⟨g.hh _ _ h1,by rw[g.new l (by rw[h1];simp)];exact h2,h3⟩
  |x k=>exact XOk.move q g.gg fun l o ys h1 h2 h3=>⟨g.hh _ _ h1,by rw[g.new l (by rw[h1];simp)];exact h2,h3⟩
  |dw sh ks ws=>exact DwOk.move q g.gg fun l o ys h1 h2 h3=>⟨g.hh _ _ h1,by rw[g.new l (by rw[h1];simp)];exact h2,h3⟩
 len:=r.len
 dis:=r.dis
 ent:=fun a o h n=>g.hh _ _ (r.ent a o h n)
 ion:=fun a h=>x5a g.hh (r.ion a h)
 gen:=fun a h=>by
  have:H a≠none:=by
   cases q:Z.H a with
   |none=>exact absurd q h
   |some o=>
    by_cases hi:a∈Z.io
    ·exact r.ion a hi
    ·rw[r.ent a o q hi];simp
  rw[g.new a this];exact r.gen a h
theorem Rel.own(r:Rel K Z G σ H e)(h:e[i]?=some (.own b ws)):∃a xs,σ[i]?=some (some (.ref a))/\H a=some (.lst xs)/\G a=none/\(IoOk Z b a)/\Reps K G ws xs:=by
 obtain⟨a,xs,h1,h2,h3,h4,h5⟩:=r.slot i _ h;refine⟨a,xs,?_,h2,h3,h4,h5⟩;cases q:σ[i]? with
 |none=>rw[q]at h1;cases h1
 |some z=>rw[q]at h1;rw[show z=some (V.ref a)from h1]
theorem Rel.fr(r:Rel K Z G σ H e)(h:e[i]?=some (.fr w)):∃v,σ[i]?=some (some v)/\Rep K G w v:=by
 obtain⟨v,h1,h2⟩:=r.slot i _ h;refine⟨v,?_,h2⟩;cases q:σ[i]? with
 |none=>rw[q]at h1;cases h1
 |some z=>rw[q]at h1;rw[show z=some v from h1]
theorem Rel.at(r:Rel K Z G σ H e){s:S}(h:e[i]?=some s)(hs:SlotOk K Z G H s (σ[i]?.getD none)->σ[i]?.getD none=some v):σ[i]?=some (some v):=by
 have h1:=hs (r.slot i _ h);cases q:σ[i]? with
 |none=>rw[q]at h1;cases h1
 |some z=>rw[q]at h1;rw[show z=some v from h1]
theorem Rel.plain(r:Rel K Z G σ H e){k:SK}(h:e[i]?=some (.x k))(hk:k.plain=some w):∃v,σ[i]?=some (some v)/\Rep K G w v:=by
 have q:=r.slot i _ h;cases k with
 |old w'=>cases hk;obtain⟨v,h1,_,h2⟩:=q;exact⟨v,r.at h fun _=>h1,h2⟩
 |new w'=>cases hk;obtain⟨v,h1,h2⟩:=q;exact⟨v,r.at h fun _=>h1,RepN.rep _ h2⟩
 |_=>cases hk
theorem Rel.mut(r:Rel K Z G σ H e){ws':List W}{xs':List V}(h:e[i]?=some (.own b ws))(ha:σ[i]?=some (some (.ref a)))(q:Reps K G ws' xs'):Rel K Z G σ (upd H a (.lst xs')) (e.set i (.own b ws')):=by
 obtain⟨a',xs,h1,h2,h3,h4,h5⟩:=r.own h;rw[ha]at h1;cases h1;have hi:i<e.length:=(w0a.mp h).1;refine⟨fun c o z=>?_,fun j s z=>?_,by simpa using r.len,fun j k b1 b2 w1 w2 c z1 z2 z3 z4=>?_,fun c o z n=>?_,fun c z=>?_,r.gen⟩
 ·rw[q0c (q0k z h3)];exact r.sub c o z
 ·by_cases hj:j=i
  ·subst hj;rw[w0f hi]at z;cases z;exact⟨a,xs',by rw[ha];rfl,q0f,h3,h4,q⟩
  ·rw[w0e (fun z=>hj z.symm)]at z
   have y:=r.slot j s z;cases s with
   |no=>trivial
   |fr w=>exact y
   |own b2 w2=>
    obtain⟨c,ys,y1,y2,y3,y4,y5⟩:=y;refine⟨c,ys,y1,?_,y3,y4,y5⟩;rw[q0c];exact y2;rintro rfl;obtain⟨c',_,z1,_⟩:=r.own z;rw[z1]at y1;cases y1;exact hj (r.dis j i _ _ _ _ _ z h z1 ha)
   |dic kvs=>
    obtain⟨c,y1,y2,y3,y4⟩:=y;refine⟨c,y1,?_,y3,y4⟩;rw[q0c (q0q y2 h2 (q4e rfl))];exact y2
   |thr us w2 vs=>
    obtain⟨t,l,o,xs2,ys,zs,y1,y2,y3,y4,y5,y6⟩:=y;refine⟨t,l,o,xs2,ys,zs,y1,y2,?_,y4,y5,y6⟩;rw[q0c (q0q y3 h2 (fun z=>nomatch z))];exact y3
   |nest wss=>exact NestOk.move y (.refl _) fun l o ys k1 k2 k3=>⟨by rw[q0c (q0q k1 h2 (fun z=>nomatch z))];exact k1,k2,k3⟩
   |x k=>exact XOk.move y (.refl _) fun l o ys k1 k2 k3=>⟨by rw[q0c (q0q k1 h2 (fun z=>nomatch z))];exact k1,k2,k3⟩
   |dw sh ks ws=>exact DwOk.move y (.refl _) fun l o ys k1 k2 k3=>⟨by rw[q0c (q0q k1 h2 (fun z=>nomatch z))];exact k1,k2,k3⟩
 ·have old:∀(k:Nat)(bb:Option Nat)(ww:List W),(e.set i (S.own b ws'))[k]?=some (.own bb ww)->∃b' w',e[k]?=some (.own b' w'):=fun k bb ww z=>by
   by_cases hk:k=i
   ·subst hk;exact⟨_,_,h⟩
   ·rw[w0e (fun z=>hk z.symm)]at z;exact⟨_,_,z⟩
  obtain⟨_,_,q1⟩:=old _ _ _ z1;obtain⟨_,_,q2⟩:=old _ _ _ z2;exact r.dis _ _ _ _ _ _ _ q1 q2 z3 z4
 ·by_cases hc:c=a
  ·subst hc;exfalso;rcases h4.io with h4|h4
   ·exact n h4
   ·rw[h4]at z;cases z
  ·rw[q0c hc];exact r.ent c o z n
 ·by_cases hc:c=a
  ·subst hc;rw[q0f];simp
  ·rw[q0c hc];exact r.ion c z
theorem Rel.freeze(r:Rel K Z G σ H e)(h:e[i]?=some (.own none ws)):∃v G',σ[i]?=some (some v)/\Same G G'/\Rep K G' (.lst ws) v/\Rel K Z G' σ H (e.set i (.fr (.lst ws))):=by
 obtain⟨a,xs,h1,h2,h3,h4,h5⟩:=r.own h;have h4:Z.H a=none:=h4;have sg:Same G (upd G a (.lst xs)):=q2i h3 _;have hi:i<e.length:=(w0a.mp h).1;have rp:Rep K (upd G a (.lst xs)) (.lst ws) (.ref a):=⟨a,xs,rfl,SqL.of q0f,Reps.mono sg ws h5⟩;refine⟨.ref a,upd G a (.lst xs),h1,sg,rp,⟨fun c o z=>?_,fun j s z=>?_,by simpa using r.len,fun j k b1 b2 w1 w2 c z1 z2 z3 z4=>?_,r.ent,r.ion,fun c z=>?_⟩⟩
 ·by_cases hc:c=a
  ·subst hc;rw[q0f]at z;cases z;exact h2
  ·rw[q0c hc]at z;exact r.sub c o z
 ·by_cases hj:j=i
  ·subst hj;rw[w0f hi]at z;cases z;exact⟨.ref a,by rw[h1];rfl,rp⟩
  ·rw[w0e (fun z=>hj z.symm)]at z
   have y:=r.slot j s z;cases s with
   |no=>trivial
   |fr w=>
    obtain⟨u,y1,y2⟩:=y;exact⟨u,y1,Rep.mono sg w y2⟩
   |own b2 w2=>
    obtain⟨c,ys,y1,y2,y3,y4,y5⟩:=y;refine⟨c,ys,y1,y2,?_,y4,Reps.mono sg w2 y5⟩;rw[q0c];exact y3;rintro rfl;obtain⟨c',_,z1,_⟩:=r.own z;rw[z1]at y1;cases y1;exact hj (r.dis j i _ _ _ _ _ z h z1 h1)
   |dic kvs=>
    obtain⟨c,y1,y2,y3,y4⟩:=y;refine⟨c,y1,y2,?_,y4⟩;rw[q0c (q0q y2 h2 (q4e rfl))];exact y3
   |thr us w2 vs=>
    obtain⟨t,l,o,xs2,ys,zs,y1,y2,y3,y4,y5,y6,y7,y8⟩:=y;refine⟨t,l,o,xs2,ys,zs,y1,sg _ _ y2,y3,?_,y5,Reps.mono sg us y6,Reps.mono sg w2 y7,Reps.mono sg vs y8⟩;rw[q0c (q0q y3 h2 (fun z=>nomatch z))];exact y4
   |nest wss=>exact NestOk.move y sg fun l o ys k1 k2 k3=>⟨k1,by rw[q0c (q0q k1 h2 (fun z=>nomatch z))];exact k2,k3⟩
   |x k=>exact XOk.move y sg fun l o ys k1 k2 k3=>⟨k1,by rw[q0c (q0q k1 h2 (fun z=>nomatch z))];exact k2,k3⟩
   |dw sh ks ws=>exact DwOk.move y sg fun l o ys k1 k2 k3=>⟨k1,by rw[q0c (q0q k1 h2 (fun z=>nomatch z))];exact k2,k3⟩
 ·have old:∀(k:Nat)(bb:Option Nat)(ww:List W),(e.set i (S.fr (W.lst ws)))[k]?=some (.own bb ww)->e[k]?=some (.own bb ww):=fun k bb ww z=>by
   by_cases hk:k=i
   ·subst hk;rw[w0f hi]at z;cases z
   ·rw[w0e (fun z=>hk z.symm)]at z;exact z
  exact r.dis _ _ _ _ _ _ _ (old _ _ _ z1) (old _ _ _ z2) z3 z4
 ·by_cases hc:c=a
  ·subst hc;exact absurd h4 z
  ·rw[q0c hc];exact r.gen c z
def Free(σ:St)(e:List S)(a:Addr):Prop:=∀(j:Nat)(b:Option Nat)(ws:List W),e[j]?=some (.own b ws)->σ[j]?≠some (some (.ref a))
theorem Rel.set(r:Rel K Z G σ H e){i:Nat}{v:V}(q:Rep K G w v):Rel K Z G (σ.set i (some v)) H (e.set i (.fr w)):=by
 refine⟨r.sub,fun j s z=>?_,by simpa using r.len,fun j k b1 b2 w1 w2 c z1 z2 z3 z4=>?_,r.ent,r.ion,r.gen⟩
 ·by_cases hj:j=i
  ·subst hj
   have hi:j<e.length:=by
    have:=(w0a.mp z).1;simpa using this
   rw[w0f hi]at z;cases z;rw[w0f (by rw[<- r.len];exact hi)];exact⟨v,rfl,q⟩
  ·rw[w0e (fun z=>hj z.symm)]at z |-
   exact r.slot j s z
 ·have old:∀(k:Nat)(bb:Option Nat)(ww:List W),(e.set i (S.fr w))[k]?=some (.own bb ww)->k≠i/\e[k]?=some (.own bb ww):=fun k bb ww z=>by
   by_cases hk:k=i
   ·subst hk
    have hi:k<e.length:=by
     have:=(w0a.mp z).1;simpa using this
    rw[w0f hi]at z;cases z
   ·rw[w0e (fun z=>hk z.symm)]at z;exact⟨hk,z⟩
  obtain⟨n1,q1⟩:=old _ _ _ z1;obtain⟨n2,q2⟩:=old _ _ _ z2;rw[w0e (fun z=>n1 z.symm)]at z3
  rw[w0e (fun z=>n2 z.symm)]at z4
  exact r.dis _ _ _ _ _ _ _ q1 q2 z3 z4
theorem Rel.setOwn(r:Rel K Z G σ H e)(h2:H a=some (.lst xs))(h3:G a=none)(h4:Z.H a=none)(hf:Free σ e a)(q:Reps K G ws xs):Rel K Z G (σ.set i (some (.ref a))) H (e.set i (.own none ws)):=by
 refine⟨r.sub,fun j s z=>?_,by simpa using r.len,fun j k b1 b2 w1 w2 c z1 z2 z3 z4=>?_,r.ent,r.ion,r.gen⟩
 ·by_cases hj:j=i
  ·subst hj
   have hi:j<e.length:=by
    have:=(w0a.mp z).1;simpa using this
   rw[w0f hi]at z;cases z;rw[w0f (by rw[<- r.len];exact hi)];exact⟨a,xs,rfl,h2,h3,h4,q⟩
  ·rw[w0e (fun z=>hj z.symm)]at z |-
   exact r.slot j s z
 ·have both:∀(k:Nat)(bb:Option Nat)(ww:List W),(e.set i (S.own none ws))[k]?=some (.own bb ww)->(σ.set i (some (.ref a)))[k]?=some (some (.ref c))->(k=i/\c=a)\/(k≠i/\e[k]?=some (.own bb ww)/\σ[k]?=some (some (.ref c))/\c≠a):=fun k bb ww z y=>by
   by_cases hk:k=i
   ·subst hk
    have hi:k<e.length:=by
     have:=(w0a.mp z).1;simpa using this
    rw[w0f (by rw[<- r.len];exact hi)]at y;cases y;exact .inl ⟨rfl,rfl⟩
   ·rw[w0e (fun z=>hk z.symm)]at z y
    exact .inr ⟨hk,z,y,fun e=>hf k bb ww z (by rw[y,e])⟩
  rcases both _ _ _ z1 z3 with⟨e1,c1⟩|⟨n1,q1,p1,c1⟩<;>rcases both _ _ _ z2 z4 with⟨e2,c2⟩|⟨n2,q2,p2,c2⟩
  ·rw[e1,e2]
  ·exact absurd c1 c2
  ·exact absurd c2 c1
  ·exact r.dis _ _ _ _ _ _ _ q1 q2 p1 p2
theorem Rel.forget(r:Rel K Z G σ H e){e':List S}(hl:e'.length=e.length)(h:∀(i:Nat)(s:S),e'[i]?=some s->s=.no\/e[i]?=some s):Rel K Z G σ H e':=by
 refine⟨r.sub,fun j s z=>?_,by rw[hl];exact r.len,fun j k b1 b2 w1 w2 c z1 z2 z3 z4=>?_,r.ent,r.ion,r.gen⟩
 ·rcases h j s z with rfl|q
  ·trivial
  ·exact r.slot j s q
 ·rcases h _ _ z1 with q1|q1
  ·cases q1
  ·rcases h _ _ z2 with q2|q2
   ·cases q2
   ·exact r.dis _ _ _ _ _ _ _ q1 q2 z3 z4
inductive R(α:Type) where
 |ok (a:α) (e:List S)|ex (c:Value) (e:List S)|no
noncomputable abbrev Den(α:Type):=List S->R α
variable{dA:Den (List W)}
noncomputable def R.bind{β:Type}:R α->(α->List S->R β)->R β
 |.ok a e,k=>k a e
 |.ex c e,_=>.ex c e
 |.no,_=>.no
def R.holds(r:R α)(P:α->List S->Prop)(E:Value->List S->Prop):Prop:=match r with
 |.ok a e=>P a e
 |.ex c e=>E c e
 |.no=>False
theorem R.holds_bind{β:Type}{r:R α}{k:α->List S->R β}{P:β->List S->Prop}:(r.bind k).holds P E↔r.holds (fun a e=>(k a e).holds P E) E:=by
 cases r<;>rfl
theorem R.holds.imp{r:R α}{P P':α->List S->Prop}{E':Value->List S->Prop}(h:r.holds P E)(p:∀a e,P a e->P' a e)(x:∀c e,E c e->E' c e):r.holds P' E':=by
 cases r with
 |ok a e=>exact p a e h
 |ex c e=>exact x c e h
 |no=>exact h
noncomputable def ofOpt(o:Option α)(e:List S):R α:=match o with
 |some a=>.ok a e
 |none=>.no
theorem ofOpt_holds{o:Option α}{P:α->List S->Prop}:(ofOpt o e).holds P E↔∃a,o=some a/\P a e:=by
 cases o with
 |none=>exact⟨fun h=>h.elim,fun⟨_,h,_⟩=>nomatch h⟩
 |some a=>exact⟨fun h=>⟨a,rfl,h⟩,fun⟨_,h,q⟩=>by cases h;exact q⟩
inductive SR where
 |nx (e:List S)|rt (s:S) (e:List S)|bk (e:List S)|ct (e:List S)|ex (c:Value) (e:List S)|no
section
variable(K:PySem.W.Frag)(Z:Zt)(EE:St->XK)
abbrev XH(σ:St)(G:Hp):Value->List S->Prop:=fun c e'=>∀G' H',Rel K Z G' σ H' e'->Same G G'->EE σ c none H'
def liftE(d:Den W):TE:=fun σ H Q=>AtG K Z σ H fun G e=>(d e).holds (fun w e'=>∀G' v H',Rel K Z G' σ H' e'->Same G G'->Rep K G' w v->Q v H') (XH K Z EE σ G)
def liftA(d:Den (List W)):TA:=fun σ H Q=>AtG K Z σ H fun G e=>(d e).holds (fun ws e'=>∀G' vs H',Rel K Z G' σ H' e'->Same G G'->Reps K G' ws vs->Q vs H') (XH K Z EE σ G)
def liftT(d:Den Bool):TT:=fun σ H Q=>AtG K Z σ H fun G e=>(d e).holds (fun b e'=>∀G' H',Rel K Z G' σ H' e'->Same G G'->Q b H') (XH K Z EE σ G)
def liftF(d:Den (List W)):TE:=fun σ H Q=>AtG K Z σ H fun G e=>(d e).holds (fun ws e'=>∀G' a xs H',Rel K Z G' σ H' e'->Same G G'->H' a=some (.lst xs)->G' a=none->Z.H a=none->Free σ e' a->Reps K G' ws xs->Q (.ref a) H') (XH K Z EE σ G)
def PostS(D:Ends)(G:Hp):SR->Prop
 |.nx e'=>∀G' σ' H',Rel K Z G' σ' H' e'->Same G G'->D.nx σ' H'
 |.bk e'=>∀G' σ' H',Rel K Z G' σ' H' e'->Same G G'->D.bk σ' H'
 |.ct e'=>∀G' σ' H',Rel K Z G' σ' H' e'->Same G G'->D.ct σ' H'
 |.rt s e'=>∀G' σ' v H',Rel K Z G' σ' H' e'->Same G G'->SlotOk K Z G' H' s (some v)->D.rt v H'
 |.ex c e'=>∀G' σ' H',Rel K Z G' σ' H' e'->Same G G'->EE σ' c none H'
 |.no=>False
def liftS(d:List S->SR):TS:=fun D σ H=>AtG K Z σ H fun G e=>PostS K Z EE D G (d e)
end
section
variable(Z:Zt)(X:Cx)(EE:St->XK)
def DE(e:Expr)(d:Den W):Prop:=PE X e (liftE X.K Z EE d)
def DF(e:Expr)(d:Den (List W)):Prop:=PE X e (liftF X.K Z EE d)
def DT(e:Expr)(d:Den Bool):Prop:=PT X e (liftT X.K Z EE d)
def DW(e:Expr)(d:Den Bool):Prop:=PW X e (liftT X.K Z EE d)
def DA(es:List Expr)(d:Den (List W)):Prop:=PA X es (liftA X.K Z EE d)
def DS(st:Stmt)(d:List S->SR):Prop:=PS X st (liftS X.K Z EE d)
def DSs(sts:List Stmt)(d:List S->SR):Prop:=PSs X sts (liftS X.K Z EE d)
end
theorem PE.mono{e:Expr}{t t':TE}(h:PE X e t)(i:∀σ H Q,t' σ H Q->t σ H Q):PE X e t':=fun pins s σ H Q I q=>h pins s σ H Q I (i σ H Q q)
theorem PT.mono{e:Expr}{t t':TT}(h:PT X e t)(i:∀σ H Q,t' σ H Q->t σ H Q):PT X e t':=fun pins s σ H Q I q=>h pins s σ H Q I (i σ H Q q)
theorem PW.mono{e:Expr}{t t':TT}(h:PW X e t)(i:∀σ H Q,t' σ H Q->t σ H Q):PW X e t':=fun wh pins s σ H Q I q=>h wh pins s σ H Q I (i σ H Q q)
theorem PA.mono{t t':TA}(h:PA X es t)(i:∀σ H Q,t' σ H Q->t σ H Q):PA X es t':=fun p pins s σ H Q I q=>h p pins s σ H Q I (i σ H Q q)
theorem PS.mono{t t':TS}(h:PS X st t)(i:∀D σ H,t' D σ H->t D σ H):PS X st t':=fun pins s σ H D I q=>h pins s σ H D I (i D σ H q)
theorem PSs.mono{st:List Stmt}{t t':TS}(h:PSs X st t)(i:∀D σ H,t' D σ H->t D σ H):PSs X st t':=fun pins s σ H D I q=>h pins s σ H D I (i D σ H q)
section
variable(K:PySem.W.Frag)
def Op2(r:R2)(f:W->W->Option W):Prop:=∀(G H:Hp)(x y:V)(wx wy w:W)(Q:VK),Same G H->Rep K G wx x->Rep K G wy y->f wx wy=some w->(∀G' v H',Grow G H G' H'->Rep K G' w v->Q v H')->r x y H Q
def Op1(r:V->Hp->VK->Prop)(f:W->Option W):Prop:=∀(G H:Hp)(x:V)(wx w:W)(Q:VK),Same G H->Rep K G wx x->f wx=some w->(∀G' v H',Grow G H G' H'->Rep K G' w v->Q v H')->r x H Q
def OpN(r:List V->Hp->VK->Prop)(f:List W->Option W):Prop:=∀(G H:Hp)(xs:List V)(ws:List W)(w:W)(Q:VK),Same G H->Reps K G ws xs->f ws=some w->(∀G' v H',Grow G H G' H'->Rep K G' w v->Q v H')->r xs H Q
end
noncomputable def dC(w:W):Den W:=fun e=>.ok w e
noncomputable def dVar(i:Nat):Den W:=fun e=>match e[i]? with
 |some (.fr w)=>.ok w e
 |some (.own none ws)=>.ok (.lst ws) (e.set i (.fr (.lst ws)))
 |some (.x k)=>match k.plain with
  |some w=>.ok w e
  |none=>.no
 |_=>.no
noncomputable def dOp(f:W->W->Option W)(da db:Den W):Den W:=fun e=>(da e).bind fun x e1=>(db e1).bind fun y e2=>ofOpt (f x y) e2
noncomputable def dUn(f:W->Option W)(da:Den W):Den W:=fun e=>(da e).bind fun x e1=>ofOpt (f x) e1
noncomputable def dTest(da:Den W):Den Bool:=fun e=>(da e).bind fun x e1=>match x with
 |.bl k=>.ok k e1
 |_=>.no
noncomputable def truW:W->Option Bool
 |.non=>some false
 |.bl b=>some b
 |.int i=>some (i != 0)
 |.str x=>if x.length<=16777216 then some ((x.length:Int) != 0)else none
 |.tup xs=>some (!xs.isEmpty)
 |.lst xs=>some (!xs.isEmpty)
 |.exc _=>none
 |.dic _=>none
 |.dw _ _ _ _=>none
 |.fn _ _ _=>none
noncomputable def dTru(da:Den W):Den Bool:=fun e=>(da e).bind fun x e1=>ofOpt (truW x) e1
noncomputable def dAnd(a b:Den Bool):Den Bool:=fun e=>(a e).bind fun x e1=>if x=true then b e1 else .ok false e1
noncomputable def dOr(a b:Den Bool):Den Bool:=fun e=>(a e).bind fun x e1=>if x=true then .ok true e1 else b e1
noncomputable def dNot(a:Den Bool):Den Bool:=fun e=>(a e).bind fun x e1=>.ok (!x) e1
noncomputable def dAndV(a b:Den W):Den W:=fun e=>(a e).bind fun x e1=>match x with
 |.bl true=>b e1
 |.bl false=>.ok (.bl false) e1
 |_=>.no
noncomputable def dOrV(a b:Den W):Den W:=fun e=>(a e).bind fun x e1=>match x with
 |.bl true=>.ok (.bl true) e1
 |.bl false=>b e1
 |_=>.no
noncomputable def dNil:Den (List W):=fun e=>.ok [] e
noncomputable def dCons(a:Den W)(r:Den (List W)):Den (List W):=fun e=>(a e).bind fun x e1=>(r e1).bind fun xs e2=>.ok (x::xs) e2
noncomputable def dTup(a:Den (List W)):Den W:=fun e=>(a e).bind fun xs e1=>if xs.length<=16777216 then .ok (.tup xs) e1 else .no
noncomputable def dLst(a:Den (List W)):Den (List W):=fun e=>(a e).bind fun xs e1=>if xs.length<=16777216 then .ok xs e1 else .no
noncomputable def dFz(a:Den (List W)):Den W:=fun e=>(a e).bind fun xs e1=>.ok (.lst xs) e1
noncomputable def dFn(f:List W->Option W)(a:Den (List W)):Den W:=fun e=>(a e).bind fun xs e1=>ofOpt (f xs) e1
section
variable{a b c e:Expr}{da db:Den W}{dc ta tb:Den Bool}
theorem XH.trans(s:Same G G1){c:Value}{e:List S}(h:XH K Z EE σ G c e):XH K Z EE σ G1 c e:=fun G' H' r q=>h G' H' r (s.trans q)
theorem q0b{i:Int}{j pos}:DE Z X EE (.Constant (.int i) j pos) (dC (.int i)):=PE.mono q7z fun σ H Q ⟨G,e,r,h⟩=>h G (.int i) H r (.refl _) rfl
theorem q4s{i:Bool}{j pos}:DE Z X EE (.Constant (.bool i) j pos) (dC (.bl i)):=PE.mono y76 fun σ H Q ⟨G,e,r,h⟩=>h G (.bl i) H r (.refl _) rfl
theorem y5b{j pos}:DE Z X EE (.Constant .none j pos) (dC .non):=PE.mono x4u fun σ H Q ⟨G,e,r,h⟩=>h G .non H r (.refl _) rfl
theorem q06{i:Str}{j pos}:DE Z X EE (.Constant (.str i) j pos) (dC (.str i)):=PE.mono y4l fun σ H Q ⟨G,e,r,h⟩=>h G (.str i) H r (.refl _) rfl
theorem x03:∀σ H Q,liftE K Z EE (dVar i) σ H Q->tVar i σ H Q:=by
 rintro σ H Q ⟨G,e,r,h⟩;unfold dVar at h;split at h
 ·rename_i w hw;obtain⟨v,h1,h2⟩:=r.fr hw;exact⟨v,h1,h G v H r (.refl _) h2⟩
 ·rename_i ws hw;obtain⟨v,G',h1,h2,h3,h4⟩:=r.freeze hw;exact⟨v,h1,h G' v H h4 h2 h3⟩
 ·rename_i k hw;cases q:k.plain with
  |some w=>
   rw[q]at h;obtain⟨v,h1,h2⟩:=r.plain hw q;exact⟨v,h1,h G v H r (.refl _) h2⟩
  |none=>rw[q]at h;exact h.elim
 ·exact h.elim
theorem dv(i:Nat)(hN:X.N[i]?=some x:=by rfl)(hv:Vis X.env.scope x:=by walk_at "1")(hd:(x==("__debug__":Str))=false:=by decide)
  (hcd:(x==("__classdict__":Str))=false:=by decide):DE Z X EE (.Name x pos) (dVar i):=PE.mono (pv i hN hv hd hcd) x03
theorem q4w{r:R2}(hf:Op2 K r f):∀σ H Q,liftE K Z EE (dOp f da db) σ H Q->tOp r (liftE K Z EE da) (liftE K Z EE db) σ H Q:=by
 rintro σ H Q ⟨G,e,rel,h⟩;simp only[dOp,R.holds_bind,ofOpt_holds]at h;refine⟨G,e,rel,h.imp (fun x e1 h G1 v1 H1 r1 s1 p1=>?_) fun _ _ h=>h⟩
 refine⟨G1,e1,r1,h.imp (fun y e2 h G2 v2 H2 r2 s2 p2=>?_) fun _ _ h=>XH.trans s1 h⟩
 obtain⟨w,hw,h⟩:=h;exact hf G2 H2 v1 v2 x y w Q r2.sub (Rep.mono s2 x p1) p2 hw fun G' v H' g p=>h G' v H' (r2.grow g) ((s1.trans s2).trans g.gg) p
theorem q5v{op:Operator}{r:R2}(ho:OpR X (binaryOp op) r)(hf:Op2 X.K r f)(ha:DE Z X EE a da)(hb:DE Z X EE b db):DE Z X EE (.BinOp a op b pos) (dOp f da db):=PE.mono (y8a ho ha hb) (q4w hf)
theorem x04{op:CmpOp}{r:R2}(ho:OpR X (compareOp op) r)(hf:Op2 X.K r f)(ha:DE Z X EE a da)(hb:DE Z X EE b db)(hm:behindInMarks op b=false):DE Z X EE (.Compare a [op] [b] pos) (dOp f da db):=PE.mono (y06 ho ha hb hm) (q4w hf)
theorem q9q{Q:Bool->Hp->Prop}(h:liftT K Z EE (dTest da) σ H Q):liftE K Z EE da σ H (fun x H'=>∃k,x=.bl k/\Q k H'):=by
 obtain⟨G,e,rel,h⟩:=h;simp only[dTest,R.holds_bind]at h;refine⟨G,e,rel,h.imp (fun x e1 h G1 v1 H1 r1 s1 p1=>?_) fun _ _ h=>h⟩
 cases x with
 |bl k=>
  cases(show v1=V.bl k from p1);exact⟨k,rfl,h G1 H1 r1 s1⟩
 |_=>exact h.elim
theorem q6g{op:CmpOp}{r:R2}(ho:OpR X (compareOp op) r)(hf:Op2 X.K r f)(ha:DE Z X EE a da)(hb:DE Z X EE b db)(hm:behindInMarks op b=false):DT Z X EE (.Compare a [op] [b] pos) (dTest (dOp f da db)):=
 PT.mono (y07 ho ha hb hm) fun σ H Q h=>q4w hf σ H _ (q9q h)
theorem y1l{r:V->Hp->VK->Prop}{f:W->Option W}(hf:Op1 K r f):∀σ H Q,liftE K Z EE (dUn f da) σ H Q->tUn r (liftE K Z EE da) σ H Q:=by
 rintro σ H Q ⟨G,e,rel,h⟩;simp only[dUn,R.holds_bind,ofOpt_holds]at h;refine⟨G,e,rel,h.imp (fun x e1 h G1 v1 H1 r1 s1 p1=>?_) fun _ _ h=>h⟩
 obtain⟨w,hw,h⟩:=h;exact hf G1 H1 v1 x w Q r1.sub p1 hw fun G' v H' g p=>h G' v H' (r1.grow g) (s1.trans g.gg) p
theorem y8e{op:UnaryOp}{r:V->Hp->VK->Prop}{f:W->Option W}(ho:UnR X (unaryOp op) r)(hf:Op1 X.K r f)(ha:DE Z X EE a da):DE Z X EE (.UnaryOp op a pos) (dUn f da):=PE.mono (y8b ho ha) (y1l hf)
theorem y5c(s:Same G H){k:Bool}(h:Rep K G w v)(e:truW w=some k):TruV K v H k:=by
 cases w with
 |non=>cases(show v=.non from h);cases e;rfl
 |bl b=>cases(show v=.bl b from h);cases e;rfl
 |int i=>cases(show v=.int i from h);cases e;rfl
 |str x=>
  cases(show v=.str x from h);simp only[truW]at e;split at e
  ·cases e;exact⟨by rw[sizeLine_eq];assumption,rfl⟩
  ·cases e
 |tup ws=>
  obtain⟨p,xs,rfl,q,r⟩:=h;cases e;refine .inr (.inl ⟨xs,s.tup q,?_⟩);have:=r.length;cases ws<;>cases xs<;>simp_all
 |lst ws=>
  obtain⟨p,xs,rfl,q,r⟩:=h;cases e;refine .inl ⟨xs,s.seq q,?_⟩;have:=r.length;cases ws<;>cases xs<;>simp_all
 |exc _=>cases e
 |dic _=>cases e
 |dw _ _ _ _=>cases e
 |fn _ _ _=>cases e
theorem q3s(ha:DE Z X EE a da)(he:∀whole,isTrue a X.env whole=(do let v <- whole;standAt a.pos;holding [v] (truthy v)):=by intro _;rfl):DT Z X EE a (dTru da):=by
 refine PT.mono (x7s ha he) ?_;rintro σ H Q ⟨G,e,rel,h⟩;simp only[dTru,R.holds_bind,ofOpt_holds]at h;refine⟨G,e,rel,h.imp (fun x e1 h G1 v1 H1 r1 s1 p1=>?_) fun _ _ h=>h⟩
 obtain⟨k,hk,h⟩:=h;exact⟨k,y5c r1.sub p1 hk,h G1 H1 r1 s1⟩
theorem x76:∀σ H Q,liftT K Z EE (dAnd ta tb) σ H Q->tAnd (liftT K Z EE ta) (liftT K Z EE tb) σ H Q:=by
 rintro σ H Q ⟨G,e,rel,h⟩;simp only[dAnd,R.holds_bind]at h;refine⟨G,e,rel,h.imp (fun x e1 h G1 H1 r1 s1=>?_) fun _ _ h=>h⟩
 cases x with
 |true=>exact⟨G1,e1,r1,R.holds.imp (show(tb e1).holds _ _ from h) (fun y e2 h G2 H2 r2 s2=>h G2 H2 r2 (s1.trans s2)) fun _ _ h=>XH.trans s1 h⟩
 |false=>exact(show ∀G' H',_->_->Q false H' from h) G1 H1 r1 s1
theorem y1m:∀σ H Q,liftT K Z EE (dOr ta tb) σ H Q->tOr (liftT K Z EE ta) (liftT K Z EE tb) σ H Q:=by
 rintro σ H Q ⟨G,e,rel,h⟩;simp only[dOr,R.holds_bind]at h;refine⟨G,e,rel,h.imp (fun x e1 h G1 H1 r1 s1=>?_) fun _ _ h=>h⟩
 cases x with
 |false=>exact⟨G1,e1,r1,R.holds.imp (show(tb e1).holds _ _ from h) (fun y e2 h G2 H2 r2 s2=>h G2 H2 r2 (s1.trans s2)) fun _ _ h=>XH.trans s1 h⟩
 |true=>exact(show ∀G' H',_->_->Q true H' from h) G1 H1 r1 s1
theorem q8v(ha:DT Z X EE a ta):DW Z X EE (.BoolOp .And [a] pos) ta:=y00 ha
theorem q6h(ha:DT Z X EE a ta):DW Z X EE (.BoolOp .Or [a] pos) ta:=y4n ha
theorem x05{rest:List Expr}(ha:DT Z X EE a ta)(hb:DW Z X EE (.BoolOp .And (b::rest) pos) tb):DW Z X EE (.BoolOp .And (a::b::rest) pos) (dAnd ta tb):=PW.mono (y4o ha hb) x76
theorem q5w{rest:List Expr}(ha:DT Z X EE a ta)(hb:DW Z X EE (.BoolOp .Or (b::rest) pos) tb):DW Z X EE (.BoolOp .Or (a::b::rest) pos) (dOr ta tb):=PW.mono (y77 ha hb) y1m
theorem dt_w(h:DW Z X EE a ta):DT Z X EE a ta:=PW.pt h
theorem x06(ha:DT Z X EE a ta):DT Z X EE (.UnaryOp .Not a pos) (dNot ta):=by
 refine PT.mono (y4p ha) ?_;rintro σ H Q ⟨G,e,rel,h⟩;simp only[dNot,R.holds_bind]at h;exact⟨G,e,rel,h.imp (fun x e1 h G1 H1 r1 s1=>h G1 H1 r1 s1) fun _ _ h=>h⟩
theorem q5i{op}(h:DE Z X EE a da):DE Z X EE (.BoolOp op [a] pos) da:=y4q h
theorem q5j{rest:List Expr}(ha:DE Z X EE a da)(hb:DE Z X EE (.BoolOp .And (b::rest) pos) db):DE Z X EE (.BoolOp .And (a::b::rest) pos) (dAndV da db):=by
 refine PE.mono (y4r ha hb) ?_;rintro σ H Q ⟨G,e,rel,h⟩;simp only[dAndV,R.holds_bind]at h;refine⟨G,e,rel,h.imp (fun x e1 h G1 v1 H1 r1 s1 p1=>?_) fun _ _ h=>h⟩
 cases x with
 |bl k=>
  cases(show v1=V.bl k from p1);cases k with
  |true=>exact⟨true,rfl,⟨G1,e1,r1,R.holds.imp (show(db e1).holds _ _ from h) (fun y e2 h G2 v2 H2 r2 s2 p2=>h G2 v2 H2 r2 (s1.trans s2) p2) fun _ _ h=>XH.trans s1 h⟩⟩
  |false=>exact⟨false,rfl,(show ∀G' v H',_->_->v=V.bl false->Q v H' from h) G1 _ H1 r1 s1 rfl⟩
 |_=>exact h.elim
theorem q6w{rest:List Expr}(ha:DE Z X EE a da)(hb:DE Z X EE (.BoolOp .Or (b::rest) pos) db):DE Z X EE (.BoolOp .Or (a::b::rest) pos) (dOrV da db):=by
 refine PE.mono (y78 ha hb) ?_;rintro σ H Q ⟨G,e,rel,h⟩;simp only[dOrV,R.holds_bind]at h;refine⟨G,e,rel,h.imp (fun x e1 h G1 v1 H1 r1 s1 p1=>?_) fun _ _ h=>h⟩
 cases x with
 |bl k=>
  cases(show v1=V.bl k from p1);cases k with
  |false=>exact⟨false,rfl,⟨G1,e1,r1,R.holds.imp (show(db e1).holds _ _ from h) (fun y e2 h G2 v2 H2 r2 s2 p2=>h G2 v2 H2 r2 (s1.trans s2) p2) fun _ _ h=>XH.trans s1 h⟩⟩
  |true=>exact⟨true,rfl,(show ∀G' v H',_->_->v=V.bl true->Q v H' from h) G1 _ H1 r1 s1 rfl⟩
 |_=>exact h.elim
theorem q0d:DA Z X EE [] dNil:=PA.mono q6a fun σ H Q ⟨G,e,r,h⟩=>h G [] H r (.refl _) rfl
theorem q0a(ha:DE Z X EE e da)(hr:DA Z X EE es dA)(hs:starEach (e::es) X.env=(false,eval e X.env)::starEach es X.env:=by rfl):DA Z X EE (e::es) (dCons da dA):=by
 refine PA.mono (q3p ha hr hs) ?_;rintro σ H Q ⟨G,e,rel,h⟩;simp only[dCons,R.holds_bind]at h;refine⟨G,e,rel,h.imp (fun x e1 h G1 v1 H1 r1 s1 p1=>?_) fun _ _ h=>h⟩
 refine⟨G1,e1,r1,h.imp (fun xs e2 h G2 vs H2 r2 s2 p2=>?_) fun _ _ h=>XH.trans s1 h⟩
 exact h G2 (v1::vs) H2 r2 (s1.trans s2) ⟨v1,vs,rfl,Rep.mono s2 x p1,p2⟩
theorem q1b{x1}(h:DA Z X EE es dA):DE Z X EE (.Tuple es x1 pos) (dTup dA):=by
 refine PE.mono (x42 h) ?_;rintro σ H Q ⟨G,e,rel,h⟩;simp only[dTup,R.holds_bind]at h;refine⟨G,e,rel,h.imp (fun ws e1 h G1 vs H1 r1 s1 p1=>?_) fun _ _ h=>h⟩
 split at h
 ·rename_i hl;refine⟨by rw[p1.length,sizeLine_eq];exact hl,fun p hp=>?_⟩
  have g:=Grow.laid r1.sub hp (.tup vs);exact(show ∀G' v H',_->_->Rep X.K G' (.tup ws) v->Q v H' from h) _ (.ref p) _ (r1.grow g) (s1.trans g.gg) ⟨p,vs,rfl,SqT.of q0f,Reps.mono g.gg ws p1⟩
 ·exact h.elim
theorem q35{e:List S}(r:Rel K Z G σ H e){p:Addr}(hp:H p=none):Free σ e p:=fun j b ws h q=>by
 obtain⟨a,xs,h1,h2,_⟩:=r.own h;rw[q]at h1;cases h1;rw[hp]at h2;cases h2
theorem q20{e:List S}(r:Rel K Z G σ H e){p:Addr}(hp:H p=none):Z.H p=none:=by
 cases q:Z.H p with
 |none=>rfl
 |some o=>
  by_cases hi:p∈Z.io
  ·exact absurd hp (r.ion p hi)
  ·rw[r.ent p o q hi]at hp;cases hp
theorem q5x{e:List S}{Q:VK}{G0:Hp}(r:Rel K Z G σ H e)(s:Same G0 G)(p1:Reps K G ws vs)
  (h:∀G' a xs H',Rel K Z G' σ H' e->Same G0 G'->H' a=some (.lst xs)->G' a=none->Z.H a=none->Free σ e a->Reps K G' ws xs->Q (.ref a) H'):∀p,H p=none->Q (.ref p) (upd H p (.lst vs)):=fun p hp=>by
 have g:=Grow.hid r.sub hp (.lst vs);exact h G p vs _ (r.grow g) s q0f (r.sub.free hp) (q20 r hp) (q35 r hp) p1
theorem q0u(h:DA Z X EE es dA):DF Z X EE (.List es pos) (dLst dA):=by
 refine PE.mono (y42 h) ?_;rintro σ H Q ⟨G,e,rel,h⟩;simp only[dLst,R.holds_bind]at h;refine⟨G,e,rel,h.imp (fun ws e1 h G1 vs H1 r1 s1 p1=>?_) fun _ _ h=>h⟩
 split at h
 ·rename_i hl;exact⟨by rw[p1.length,sizeLine_eq];exact hl,q5x r1 s1 p1 h⟩
 ·exact h.elim
theorem Rel.seen{e:List S}(r:Rel K Z G σ H e){a:Addr}(h:H a=some (.lst xs))(hg:G a=none)(hz:Z.H a=none)(hf:Free σ e a):Same G (upd G a (.lst xs))/\Rel K Z (upd G a (.lst xs)) σ H e:=by
 have sg:Same G (upd G a (.lst xs)):=q2i hg _;refine⟨sg,⟨fun c o z=>?_,fun j s z=>?_,r.len,r.dis,r.ent,r.ion,fun c z=>?_⟩⟩
 ·by_cases hc:c=a
  ·subst hc;rw[q0f]at z;cases z;exact h
  ·rw[q0c hc]at z;exact r.sub c o z
 ·have y:=r.slot j s z;cases s with
  |no=>trivial
  |fr w=>
   obtain⟨u,y1,y2⟩:=y;exact⟨u,y1,Rep.mono sg w y2⟩
  |own b2 w2=>
   obtain⟨c,ys,y1,y2,y3,y4,y5⟩:=y;refine⟨c,ys,y1,y2,?_,y4,Reps.mono sg w2 y5⟩;rw[q0c];exact y3;rintro rfl;obtain⟨c',_,z1,_⟩:=r.own z;rw[z1]at y1;cases y1;exact hf j b2 w2 z z1
  |dic kvs=>
   obtain⟨c,y1,y2,y3,y4⟩:=y;refine⟨c,y1,y2,?_,y4⟩;rw[q0c (q0q y2 h (q4e rfl))];exact y3
  |thr us w2 vs=>
   obtain⟨t,l,o,xs2,ys,zs,y1,y2,y3,y4,y5,y6,y7,y8⟩:=y;refine⟨t,l,o,xs2,ys,zs,y1,sg _ _ y2,y3,?_,y5,Reps.mono sg us y6,Reps.mono sg w2 y7,Reps.mono sg vs y8⟩;rw[q0c (q0q y3 h (fun z=>nomatch z))];exact y4
  |nest wss=>exact NestOk.move y sg fun l o ys k1 k2 k3=>⟨k1,by rw[q0c (q0q k1 h (fun z=>nomatch z))];exact k2,k3⟩
  |x k=>exact XOk.move y sg fun l o ys k1 k2 k3=>⟨k1,by rw[q0c (q0q k1 h (fun z=>nomatch z))];exact k2,k3⟩
  |dw sh ks ws=>exact DwOk.move y sg fun l o ys k1 k2 k3=>⟨k1,by rw[q0c (q0q k1 h (fun z=>nomatch z))];exact k2,k3⟩
 ·by_cases hc:c=a
  ·subst hc;exact absurd hz z
  ·rw[q0c hc];exact r.gen c z
theorem q1f(h:DF Z X EE e dA):DE Z X EE e (dFz dA):=by
 refine PE.mono h ?_;rintro σ H Q ⟨G,e,rel,h⟩;simp only[dFz,R.holds_bind]at h;refine⟨G,e,rel,h.imp (fun ws e1 h G1 a xs H1 r1 s1 q1 q2 q3 q4 p1=>?_) fun _ _ h=>h⟩
 obtain⟨sg,rg⟩:=r1.seen q1 q2 q3 q4;exact(show ∀G' v H',_->_->Rep X.K G' (.lst ws) v->Q v H' from h) _ (.ref a) _ rg (s1.trans sg) ⟨a,xs,rfl,SqL.of q0f,Reps.mono sg ws p1⟩
theorem x2w{f:List W->Option W}(hf:OpN K r f):∀σ H Q,liftE K Z EE (dFn f dA) σ H Q->tCB r (liftA K Z EE dA) σ H Q:=by
 rintro σ H Q ⟨G,e,rel,h⟩;simp only[dFn,R.holds_bind,ofOpt_holds]at h;refine⟨G,e,rel,h.imp (fun ws e1 h G1 vs H1 r1 s1 p1=>?_) fun _ _ h=>h⟩
 obtain⟨w,hw,h⟩:=h;exact hf G1 H1 vs ws w Q r1.sub p1 hw fun G' v H' g p=>h G' v H' (r1.grow g) (s1.trans g.gg) p
theorem q76{id:String}{f:List W->Option W}(hc:CallR X (.builtin id) r)(hf:OpN X.K r f)(hv:bootBuiltins x=some (.builtin id))(hm:X.mg x=none)(ha:DA Z X EE (e::es) dA)(hg:Gl X x:=by rfl)(hn:x≠"__name__":=by decide)(hdb:(x==("__debug__":Str))=false:=by decide)
  (he:starEach (e::es) X.env=(false,eval e X.env)::starEach es X.env:=by rfl)(hpl:(backTo pos (starEach es X.env)).any (·.1)=false:=by rfl):DE Z X EE (.Call (.Name x p) (e::es) [] pos) (dFn f dA):=
 PE.mono (q7e hc hg hm hv ha hn hdb he hpl) (x2w hf)
theorem x5b{T:String}{f:List W->Option W}(hc:CallR X (.type T) r)(hf:OpN X.K r f)(hv:bootBuiltins x=some (.type T))(hm:X.mg x=none)(ha:DA Z X EE (e::es) dA)(hg:Gl X x:=by rfl)(hn:x≠"__name__":=by decide)(hdb:(x==("__debug__":Str))=false:=by decide)
  (he:starEach (e::es) X.env=(false,eval e X.env)::starEach es X.env:=by rfl)(hpl:(backTo pos (starEach es X.env)).any (·.1)=false:=by rfl):DE Z X EE (.Call (.Name x p) (e::es) [] pos) (dFn f dA):=
 PE.mono (q9l hc hg hm hv ha hn hdb he hpl) (x2w hf)
end
noncomputable def dNx:List S->SR:=fun e=>.nx e
noncomputable def dSeq(a b:List S->SR):List S->SR:=fun e=>match a e with
 |.nx e'=>b e'
 |r=>r
noncomputable def R.stm(r:R α)(k:α->List S->SR):SR:=match r with
 |.ok a e=>k a e
 |.ex c e=>.ex c e
 |.no=>.no
noncomputable def dDrop(d:Den W):List S->SR:=fun e=>(d e).stm fun _ e'=>.nx e'
noncomputable def dRet(d:Den W):List S->SR:=fun e=>(d e).stm fun w e'=>.rt (.fr w) e'
noncomputable def dRetF(d:Den (List W)):List S->SR:=fun e=>(d e).stm fun ws e'=>.rt (.own none ws) e'
noncomputable def dIfS(c:Den Bool)(a b:List S->SR):List S->SR:=fun e=>(c e).stm fun x e1=>if x=true then a e1 else b e1
noncomputable def dSet(i:Nat)(d:Den W):List S->SR:=fun e=>(d e).stm fun w e'=>.nx (e'.set i (.fr w))
noncomputable def dSetO(i:Nat)(d:Den (List W)):List S->SR:=fun e=>(d e).stm fun ws e'=>.nx (e'.set i (.own none ws))
noncomputable def forD(i:Nat)(b:List S->SR):List W->List S->SR
 |[],e=>.nx e
 |w::ws,e=>match b (e.set i (.fr w))with
  |.nx e'=>forD i b ws e'
  |.ct e'=>forD i b ws e'
  |.bk e'=>.nx e'
  |.rt s e'=>.rt s e'
  |.ex c e'=>.ex c e'
  |.no=>.no
noncomputable def whileD(c:Den Bool)(b:List S->SR):Nat->List S->SR
 |0,_=>.no
 |n+1,e=>(c e).stm fun x e1=>if x=true then(match b e1 with
  |.nx e'=>whileD c b n e'
  |.ct e'=>whileD c b n e'
  |.bk e'=>.nx e'
  |.rt s e'=>.rt s e'
  |.ex c e'=>.ex c e'
  |.no=>.no)else .nx e1
noncomputable def seqW:W->Option (List W)
 |.tup ws=>some ws
 |.lst ws=>some ws
 |_=>none
noncomputable def dFor(i:Nat)(d:Den W)(b:List S->SR):List S->SR:=fun e=>(d e).stm fun w e1=>match seqW w with
 |some ws=>forD i b ws e1
 |none=>.no
noncomputable def rangeW(lo hi:Int):List W:=(List.range (hi-lo).toNat).map fun k=>.int (lo+(k:Nat))
noncomputable def okI(j:Int):Bool:=Nat.ble j.natAbs 4611686018427387903
theorem q6i{j:Int}(h:okI j=true):-(2^62)<=j/\j<2^62:=by
 have z:j.natAbs<=4611686018427387903:=Nat.le_of_ble_eq_true h;have e:(2:Int)^62=4611686018427387904:=by decide
 rw[e];omega
theorem q6j{j:Int}(h1:-1000000000<=j)(h2:j<=1000000000):okI j=true:=Nat.ble_eq_true_of_le (by omega)
noncomputable def rng1:List W->Option (List W)
 |[.int j]=>if okI j=true then some (rangeW 0 j)else none
 |_=>none
noncomputable def rng2:List W->Option (List W)
 |[.int i,.int j]=>if okI i=true/\okI j=true then some (rangeW i j)else none
 |_=>none
noncomputable def dForR(i:Nat)(g:List W->Option (List W))(d:Den (List W))(b:List S->SR):List S->SR:=fun e=>(d e).stm fun w e1=>match g w with
 |some ws=>forD i b ws e1
 |none=>.no
section
variable{a c e tg:Expr}{rest body:List Stmt}{d:Den W}{dc:Den Bool}{s1 s2:List S->SR}
theorem PostS.trans{D:Ends}(s:Same G G1):∀{r:SR},PostS K Z EE D G r->PostS K Z EE D G1 r
 |.nx e',h=>fun G' σ' H' r q=>h G' σ' H' r (s.trans q)
 |.bk e',h=>fun G' σ' H' r q=>h G' σ' H' r (s.trans q)
 |.ct e',h=>fun G' σ' H' r q=>h G' σ' H' r (s.trans q)
 |.rt w e',h=>fun G' σ' v H' r q=>h G' σ' v H' r (s.trans q)
 |.ex c e',h=>fun G' σ' H' r q=>h G' σ' H' r (s.trans q)
 |.no,h=>h
theorem q02{D:Ends}{r:R α}{k:α->List S->SR}(h:PostS K Z EE D G (r.stm k)):r.holds (fun a e'=>PostS K Z EE D G (k a e')) (XH K Z EE σ G):=by
 cases r with
 |ok a e=>exact h
 |ex c e=>exact fun G' H' r q=>h G' σ H' r q
 |no=>exact h
theorem q0r:DSs Z X EE [] dNx:=PSs.mono y01 fun D σ H ⟨G,e,r,h⟩=>h G σ H r (.refl _)
theorem x77:∀D σ H,liftS K Z EE (dSeq s1 s2) D σ H->tSeq (liftS K Z EE s1) (liftS K Z EE s2) D σ H:=by
 rintro D σ H ⟨G,e,rel,h⟩;refine⟨G,e,rel,?_⟩;unfold dSeq at h;cases q:s1 e with
 |nx e'=>rw[q]at h;exact fun G' σ' H' r s=>⟨G',e',r,PostS.trans s h⟩
 |bk e'=>rw[q]at h;exact h
 |ct e'=>rw[q]at h;exact h
 |rt w e'=>rw[q]at h;exact h
 |ex c e'=>rw[q]at h;exact h
 |no=>rw[q]at h;exact h
theorem q0e(h1:DS Z X EE st s1)(h2:DSs Z X EE rest s2):DSs Z X EE (st::rest) (dSeq s1 s2):=PSs.mono (x7o h1 h2) x77
theorem q0g(h1:DS Z X EE st s1):DSs Z X EE [st] s1:=y02 h1
theorem q27(he:DE Z X EE e d)(hs:swapsWith e none pos.line X.env=pure false:=by rfl):DS Z X EE (.Expr e pos) (dDrop d):=by
 refine PS.mono (q6u he hs) ?_;rintro D σ H ⟨G,e,rel,h⟩;exact⟨G,e,rel,(q02 h).imp (fun w e1 h G1 v1 H1 r1 s1 p1=>h G1 σ H1 r1 s1) fun _ _ h=>h⟩
theorem q03(he:DE Z X EE e d):DS Z X EE (.Return (some e) pos) (dRet d):=by
 refine PS.mono (x4v he) ?_;rintro D σ H ⟨G,e,rel,h⟩;exact⟨G,e,rel,(q02 h).imp (fun w e1 h G1 v1 H1 r1 s1 p1=>h G1 σ v1 H1 r1 s1 ⟨v1,rfl,p1⟩) fun _ _ h=>h⟩
theorem x2x(he:DF Z X EE e dA):DS Z X EE (.Return (some e) pos) (dRetF dA):=by
 refine PS.mono (x4v he) ?_;rintro D σ H ⟨G,e,rel,h⟩;exact⟨G,e,rel,(q02 h).imp (fun w e1 h G1 a xs H1 r1 s1 q1 q2 q3 q4 p1=>h G1 σ (.ref a) H1 r1 s1 ⟨a,xs,rfl,q1,q2,q3,p1⟩) fun _ _ h=>h⟩
theorem x78:∀D σ H,liftS K Z EE (dIfS dc s1 s2) D σ H->tIfS (liftT K Z EE dc) (liftS K Z EE s1) (liftS K Z EE s2) D σ H:=by
 rintro D σ H ⟨G,e,rel,h⟩;refine⟨G,e,rel,(q02 h).imp (fun x e1 h G1 H1 r1 q1=>?_) fun _ _ h=>h⟩
 cases x with
 |true=>exact⟨G1,e1,r1,PostS.trans q1 h⟩
 |false=>exact⟨G1,e1,r1,PostS.trans q1 h⟩
theorem q04{p q:List Stmt}(hc:DT Z X EE c dc)(ha:DSs Z X EE p s1)(hb:DSs Z X EE q s2):DS Z X EE (.If c p q pos) (dIfS dc s1 s2):=PS.mono (y79 hc ha hb) x78
theorem q0l(i:Nat)(hN:X.N.Nodup)(he:DE Z X EE e d)(hi:X.N[i]?=some x:=by rfl)(hx:Loc X.env.scope x:=by walk_at "3")(hs:swapsWith e (some (.Name x pos')) pos.line X.env=pure false:=by rfl)(hf:X.fn x=true\/X.env.scope.names.lookup x=some .local:=by walk_at "2"):
  DS Z X EE (.Assign [.Name x pos'] e pos) (dSet i d):=by
 refine PS.mono (q74 i hN he hi hx hs hf) ?_;rintro D σ H ⟨G,e,rel,h⟩;exact⟨G,e,rel,(q02 h).imp (fun w e1 h G1 v1 H1 r1 q1 p1=>h G1 _ H1 (r1.set p1) q1) fun _ _ h=>h⟩
theorem q4j(i:Nat)(hN:X.N.Nodup)(he:DF Z X EE e dA)(hi:X.N[i]?=some x:=by rfl)(hx:Loc X.env.scope x:=by walk_at "3")(hs:swapsWith e (some (.Name x pos')) pos.line X.env=pure false:=by rfl)(hf:X.fn x=true\/X.env.scope.names.lookup x=some .local:=by walk_at "2"):
  DS Z X EE (.Assign [.Name x pos'] e pos) (dSetO i dA):=by
 refine PS.mono (q74 i hN he hi hx hs hf) ?_;rintro D σ H ⟨G,e,rel,h⟩;exact⟨G,e,rel,(q02 h).imp (fun w e1 h G1 a xs H1 r1 s1 q1 q2 q3 q4 p1=>h G1 _ H1 (r1.setOwn q1 q2 q3 q4 p1) s1) fun _ _ h=>h⟩
theorem q7g(n:Nat)(hp:PassesOwn (model X.prog X.w) X.A X.env X.xe)(hc:DT Z X EE c dc)(hb:DSs Z X EE body s1):DS Z X EE (.While c body [] pos) (whileD dc s1 n):=by
 refine PS.mono (x7p hp hc hb) ?_;rintro D σ H ⟨G,e,rel,h⟩;refine⟨fun m σ' H'=>∃G' e',Rel X.K Z G' σ' H' e'/\Same G G'/\PostS X.K Z EE D G (whileD dc s1 m e'),⟨n,G,e,rel,.refl _,h⟩,?_⟩
 rintro m σ1 H1 ⟨G1,e1,r1,q1,h⟩;cases m with
 |zero=>exact h.elim
 |succ m=>
  refine⟨G1,e1,r1,(q02 (σ:=σ1) h).imp (fun x e2 h G2 H2 r2 q2=>?_) fun _ _ h=>XH.trans q1 h⟩
  cases x with
  |false=>exact h G2 σ1 H2 r2 (q1.trans q2)
  |true=>
   refine⟨fun σ' H'=>∃G' e',Rel X.K Z G' σ' H' e'/\Same G G'/\PostS X.K Z EE D G (whileD dc s1 m e'),fun σ' H' q=>⟨m,Nat.lt_succ_self _,q⟩,⟨G2,e2,r2,?_⟩⟩
   have sg:=q1.trans q2;have h:PostS X.K Z EE D G (match s1 e2 with|.nx e'=>whileD dc s1 m e'|.ct e'=>whileD dc s1 m e'|.bk e'=>.nx e'|.rt s e'=>.rt s e'|.ex c e'=>.ex c e'|.no=>.no):=h;cases q:s1 e2 with
   |nx e'=>rw[q]at h;exact fun G' σ' H' r s=>⟨G',e',r,sg.trans s,h⟩
   |ct e'=>rw[q]at h;exact fun G' σ' H' r s=>⟨G',e',r,sg.trans s,h⟩
   |bk e'=>rw[q]at h;exact fun G' σ' H' r s=>h G' σ' H' r (sg.trans s)
   |rt w e'=>rw[q]at h;exact fun G' σ' v H' r s=>h G' σ' v H' r (sg.trans s)
   |ex c e'=>rw[q]at h;exact fun G' σ' H' r s=>h G' σ' H' r (sg.trans s)
   |no=>rw[q]at h;exact h
theorem x79{D:Ends}{x:V}{N:St->Hp->Prop}(r1:Rel K Z G1 σ H e1)(q1:Same G G1)(p:Rep K G1 w x)(h:PostS K Z EE D G (forD i s1 (w::ws) e1))
  (hN:∀G' σ' H' e',Rel K Z G' σ' H' e'->Same G G'->PostS K Z EE D G (forD i s1 ws e')->N σ' H'):gName i x σ H fun σ2 H2=>liftS K Z EE s1 {D with nx:=N,ct:=N,bk:=D.nx} σ2 H2:=by
 refine⟨G1,e1.set i (.fr w),r1.set p,?_⟩;unfold forD at h;cases q:s1 (e1.set i (.fr w))with
 |nx e'=>rw[q]at h;exact fun G' σ' H' r s=>hN G' σ' H' e' r (q1.trans s) h
 |ct e'=>rw[q]at h;exact fun G' σ' H' r s=>hN G' σ' H' e' r (q1.trans s) h
 |bk e'=>rw[q]at h;exact fun G' σ' H' r s=>h G' σ' H' r (q1.trans s)
 |rt w e'=>rw[q]at h;exact fun G' σ' v H' r s=>h G' σ' v H' r (q1.trans s)
 |ex c e'=>rw[q]at h;exact fun G' σ' H' r s=>h G' σ' H' r (q1.trans s)
 |no=>rw[q]at h;exact h
def iSeq(K:PySem.W.Frag)(tl:TE):TI:=fun σ H R=>tl σ H fun x H1=>∃a,x=.ref a/\(((∃xs,SqL K H1 a xs)/\R (Itl K a) H1)\/((∃xs,SqT K H1 a xs)/\R (Itt K a) H1))
theorem q77{l:Expr}{tl:TE}(hl:PE X l tl):PI X tg l (iSeq X.K tl):=by
 intro pins s σ H R I h;refine thn (hl pins s σ H _ I h) fun v s1 ⟨x,H1,I1,r1,q1⟩=>?_
 obtain⟨a,e,q⟩:=q1;subst e;cases r1;rcases q with⟨⟨xs,hq⟩,q⟩|⟨⟨xs,hq⟩,q⟩
 ·obtain⟨its,rv,p,hz⟩:=I1.list hq;refine wpAny_pyIter_list p.isList ?_;refine⟨s1.heap.objs.size,[s1.heap.objs.size],_,_,H1,rfl,I1.kept (t':=s1.toks) fun b o e=>Heap.get?_push_of_some _ e,x4x a _,⟨_,Heap.get?_push_size _ rfl,rfl,rfl⟩,fun b hb=>?_,q⟩
  have e:b=s1.heap.objs.size:=by simpa using hb
  subst e;exact I1.fpOk (w0h _) (I1.hok.fresh (w0h _))
 ·obtain⟨its,rv,p,hz⟩:=I1.tuple hq;refine wpAny_pyIter_tuple (show s1.heap.IsTuple a its.toArray from p) ?_;refine⟨s1.heap.objs.size,[s1.heap.objs.size],_,_,H1,rfl,I1.kept (t':=s1.toks) fun b o e=>Heap.get?_push_of_some _ e,x3p a _,⟨_,Heap.get?_push_size _ rfl,rfl,rfl⟩,fun b hb=>?_,q⟩
  have e:b=s1.heap.objs.size:=by simpa using hb
  subst e;exact I1.fpOk (w0h _) (I1.hok.fresh (w0h _))
theorem q6k{ws:List α}{w:α}(h:ws[k]?=some w):ws.drop k=w::ws.drop (k+1):=by
 obtain⟨hk,rfl⟩:=w0a.mp h;exact w3d hk
theorem x2y{i:Nat}{D:Ends}(r1:Rel K Z G1 σ H1 e1)(rp:Reps K G1 ws xs)(h:PostS K Z EE D G1 (forD i s1 ws e1))(SQ:Hp->Prop)(hSQ:∀G' H',Same G1 G'->Same G' H'->SQ H'):
  ∃Pv:Nat->St->Hp->Prop,Pv 0 σ H1/\(∀j σ H,j<=xs.length->Pv j σ H->SQ H)/\(∀(j:Nat) x σ H,xs[j]?=some x->Pv j σ H->gName i x σ H fun σ2 H2=>liftS K Z EE s1 {D with nx:=Pv (j+1),ct:=Pv (j+1),bk:=D.nx} σ2 H2)/\∀σ H,Pv xs.length σ H->D.nx σ H:=by
 refine⟨fun j σ' H'=>∃G' e',Rel K Z G' σ' H' e'/\Same G1 G'/\PostS K Z EE D G1 (forD i s1 (ws.drop j) e'),⟨G1,e1,r1,.refl _,h⟩,?_,?_,?_⟩
 ·rintro j σ' H' _ ⟨G',e',r',s',_⟩;exact hSQ G' H' s' r'.sub
 ·rintro j x σ' H' hx ⟨G',e',r',s',h⟩;obtain⟨w,hw,pw⟩:=rp.getV hx;rw[q6k hw]at h;exact x79 r' s' (Rep.mono s' w pw) h fun G'' σ'' H'' e'' r'' s'' h''=>⟨G'',e'',r'',s'',h''⟩
 ·rintro σ' H' ⟨G',e',r',s',h⟩;rw[rp.length,w2j]at h;exact h G' σ' H' r' s'
theorem x5c(i:Nat)(hN:X.N.Nodup)(hp:PassesOwn (model X.prog X.w) X.A X.env X.xe)(hc:X.calm=true)(hl:DE Z X EE e d)(hb:DSs Z X EE body s1)
  (hi:X.N[i]?=some x:=by rfl)(hx:Loc X.env.scope x:=by walk_at "3")(hf:X.fn x=true\/X.env.scope.names.lookup x=some .local:=by walk_at "2")(hs:∀x,foldedSetIterable e X.env x=pure x:=by intro _;rfl):
  DS Z X EE (.For (.Name x pos') e body [] pos) (dFor i d s1):=by
 refine PS.mono (x0w hp hc (q77 hl) (q3r i hN hi hx hf) hb hs) ?_;rintro D σ H ⟨G,e,rel,h⟩;refine⟨G,e,rel,(q02 h).imp (fun w e1 h G1 v1 H1 r1 q1 p1=>?_) fun _ _ h=>h⟩
 have key:=fun ws xs (rp:Reps X.K G1 ws xs) (h:PostS X.K Z EE D G (forD i s1 ws e1))=>x2y (i:=i) (D:=D) r1 rp (PostS.trans q1 h)
 cases w with
 |tup ws=>
  obtain⟨a,xs,rfl,hq,rp⟩:=p1;refine⟨a,rfl,.inr ⟨⟨xs,r1.sub.tup hq⟩,?_⟩⟩;obtain⟨Pv,h0,h1,h2,h3⟩:=key ws xs rp h (fun H'=>SqT X.K H' a xs) (fun G' H' s s'=>Same.tup s' (Same.tup s hq))
  exact y04 Pv h0 h1 h2 h3
 |lst ws=>
  obtain⟨a,xs,rfl,hq,rp⟩:=p1;refine⟨a,rfl,.inl ⟨⟨xs,r1.sub.seq hq⟩,?_⟩⟩;obtain⟨Pv,h0,h1,h2,h3⟩:=key ws xs rp h (fun H'=>SqL X.K H' a xs) (fun G' H' s s'=>Same.seq s' (Same.seq s hq))
  exact x7r Pv h0 h1 h2 h3
 |_=>exact h.elim
theorem q78{lo hi:Int}:Reps K G (rangeW lo hi) ((List.range (hi-lo).toNat).map fun k=>V.int (lo+(k:Nat))):=by
 unfold rangeW;generalize List.range (hi-lo).toNat=l
 induction l with
 |nil=>rfl
 |cons k l ih=>exact⟨_,_,rfl,rfl,ih⟩
theorem y1n{i:Nat}{D:Ends}{lo hi:Int}(r1:Rel K Z G1 σ H1 e1)(h:PostS K Z EE D G1 (forD i s1 (rangeW lo hi) e1)):
  ∃W:Nat->Nat->St->Hp->Prop,(∃m,W 0 m σ H1)/\∀j m σ H,W j m σ H ->
   ((Itr lo (hi-lo).toNat).stop j H/\D.nx σ H)\/((Itr lo (hi-lo).toNat).go j H/\∃N:St->Hp->Prop,(∀σ' H',N σ' H'->∃m',m'<m/\W (j+1) m' σ' H')/\∀x H',(Itr lo (hi-lo).toNat).yld j H x H'->gName i x σ H' fun σ2 H2=>liftS K Z EE s1 {D with nx:=N,ct:=N,bk:=D.nx} σ2 H2):=by
 obtain⟨Pv,h0,h1,h2,h3⟩:=x2y (i:=i) (D:=D) r1 (q78 (lo:=lo) (hi:=hi)) h (fun _=>True) (fun _ _ _ _=>trivial)
 refine x4z Pv h0 (fun j σ' H' hj p=>h2 j _ σ' H' ?_ p) (fun σ' H' p=>h3 σ' H' (by simpa using p))
 simp[hj]
theorem q6x(i:Nat){p1 p2:Pos}(hN:X.N.Nodup)(hp:PassesOwn (model X.prog X.w) X.A X.env X.xe)(hc:X.calm=true)(hm:X.mg "range"=none)(ha:DA Z X EE [a] dA)(hb:DSs Z X EE body s1)
  (hi:X.N[i]?=some x:=by rfl)(hx:Loc X.env.scope x:=by walk_at "3")(hf:X.fn x=true\/X.env.scope.names.lookup x=some .local:=by walk_at "2")(hg:Gl X "range":=by rfl)(hs1:starEach [a] X.env=[(false,eval a X.env)]:=by rfl)(hs:∀x,foldedSetIterable (.Call (.Name "range" p1) [a] [] p2) X.env x=pure x:=by intro _;rfl):
  DS Z X EE (.For (.Name x p) (.Call (.Name "range" p1) [a] [] p2) body [] pos) (dForR i rng1 dA s1):=by
 refine PS.mono (x0w hp hc (q9f hg hm ha hs1) (q3r i hN hi hx hf) hb hs) ?_;rintro D σ H ⟨G,e,rel,h⟩;refine⟨G,e,rel,(q02 h).imp (fun ws e1 h G1 vs H1 r1 q1 p1=>?_) fun _ _ h=>h⟩
 unfold rng1 at h;split at h
 ·rename_i hh;split at hh
  ·rename_i j;split at hh
   ·rename_i hj;cases hh;obtain⟨y,r,rfl,e1,e2⟩:=p1;cases(show y=V.int j from e1);cases(show r=[]from e2);refine⟨j,rfl,(q6i hj).1,(q6i hj).2,?_⟩;have z:=y1n (i:=i) (D:=D) r1 (PostS.trans q1 h)
    rwa [Int.sub_zero]at z
   ·cases hh
  ·cases hh
 ·exact h.elim
end
open PyProof.Rows (envOfC)
inductive FR where
 |ok (s:S)|ex (c:Value)|no
variable{F:List W->FR}
noncomputable def spF(K:PySem.W.Frag)(F:List W->FR):Sp:=fun vs H Q E=>∃G ws,Same G H/\Reps K G ws vs/\match F ws with
 |.ok s=>∀G' H' v,Grow G H G' H'->SlotOk K ⟨H,G,[]⟩ G' H' s (some v)->Q v H'
 |.ex c=>∀H',Same H H'->E c none H'
 |.no=>False
noncomputable def SR.fn:SR->FR
 |.nx _=>.ok (.fr .non)
 |.rt s _=>.ok s
 |.ex c _=>.ex c
 |_=>.no
noncomputable def init(n:Nat)(ws:List W):List S:=ws.map .fr++List.replicate (n-ws.length) .no
theorem q36{N:List Str}(s:Same G H)(r:Reps K G ws vs):Rel K ⟨H,G,[]⟩ G (L2.start N vs) H (init N.length ws):=by
 have hl:=r.length
 have hfr:∀(i:Nat)(s:S),(init N.length ws)[i]?=some s->(s=.no)\/∃w,s=.fr w/\ws[i]?=some w:=fun i s h=>by
  unfold init at h;rw[List.getElem?_append]at h;split at h
  ·rw[w0n]at h;obtain⟨w,h1,rfl⟩:=w0g.mp h;exact .inr ⟨w,rfl,h1⟩
  ·rw[w1o]at h;split at h
   ·cases h;exact .inl rfl
   ·cases h
 refine⟨s,fun i t h=>?_,?_,fun i j b b' w1 w2 a h1 h2 _ _=>?_,fun a o h _=>h,(fun a h=>nomatch h),fun a _=>rfl⟩
 ·rcases hfr i t h with rfl|⟨w,rfl,h1⟩
  ·trivial
  ·obtain⟨v,h2,h3⟩:=r.get h1;refine⟨v,?_,h3⟩;have hi:i<vs.length:=(w0a.mp h2).1;unfold L2.start;rw[w0s (by simpa using hi),w0n,h2];rfl
 ·unfold init L2.start;simp[hl]
 ·rcases hfr i _ h1 with z|⟨w,z,_⟩<;>cases z
theorem Rel.toGrow(r:Rel K ⟨H,G,[]⟩ G' σ H' e)(s:Same G G'):Grow G H G' H':=
 ⟨fun a o h=>r.ent a o h (by simp),s,r.sub,fun a h=>r.gen a h⟩
section
variable{P:Program}{w:World}{mg:Str->Option Value}{base:Heap}
theorem q5k{Q:VK}{E:XK}(h:spF K F vs H Q E):∃G ws,F ws≠.no/\Reps K G ws vs:=by
 obtain⟨G,ws,_,r,h⟩:=h;refine⟨G,ws,fun z=>?_,r⟩
 rw[z]at h;exact h
theorem q5l{Q:VK}{E:XK}{r:SR}(he:r.fn=F ws)(h:match F ws with
  |.ok s=>∀G' H' v,Grow G H G' H'->SlotOk K ⟨H,G,[]⟩ G' H' s (some v)->Q v H'
  |.ex c=>∀H',Same H H'->E c none H'
  |.no=>False):PostS K ⟨H,G,[]⟩ (fun _=>E) {nx:=fun _ H'=>Q .non H',rt:=Q} G r:=by
 rw[<- he]at h;cases r with
 |nx e=>exact fun G' σ' H' r s=>h G' H' .non (r.toGrow s) ⟨.non,rfl,rfl⟩
 |rt s e=>exact fun G' σ' v H' r q p=>h G' H' v (r.toGrow q) p
 |ex c e=>exact fun G' σ' H' r s=>h H' (r.toGrow s).hh
 |bk e=>exact h.elim
 |ct e=>exact h.elim
 |no=>exact h.elim
theorem con{N:List Str}(A:At K mg x st ps)(sc:FnScope N ps (defScope st))(len:∀ws,F ws≠.no->ws.length=ps.length)
  (hb:∀ws,F ws≠.no->∀(f:Addr)(cdv:Value)(A:Around)(outer:List Env)(s:Shared)(H:Hp)(E:XK)(Z:Zt),Room k (A.deeper (envOfC x (defScope st) s.heap.objs.size f cdv)) ->
   ∃d,DSs Z (cxOf (CX1 P w) P w K mg base N x (defScope st) f cdv A outer s H E) (fun _=>E) (defBody st) d/\(d (init N.length ws)).fn=F ws):Cal P w K mg base (k+1) x ps (spF K F):=by
 refine A.cal sc (fun vs H Q E h=>?_) (fun f cdv A outer s H vs Q E hr h=>?_)
 ·obtain⟨G,ws,hn,r⟩:=q5k h;rw[r.length];exact len ws hn
 ·have hn0:=h;obtain⟨G,ws,sg,rp,h⟩:=h;have hn:F ws≠.no:=fun z=>by rw[z]at h;exact h
  obtain⟨d,hd,he⟩:=hb ws hn f cdv A outer s H E ⟨H,G,[]⟩ hr;exact⟨_,hd,G,init N.length ws,q36 sg rp,q5l he h⟩
theorem conH{N:List Str}(A:At K mg x st ps)(sc:FnScope N ps (defScope st))(len:∀ws,F ws≠.no->ws.length=ps.length)
  (hb:∀ws,F ws≠.no->∀(f:Addr)(cdv:Value)(A:Around)(outer:List Env)(s:Shared)(H:Hp)(Z:Zt),RoomH k (A.deeper (envOfC x (defScope st) s.heap.objs.size f cdv)) ->
   ∃d,DSs Z (cxH P w K mg base N x (defScope st) f cdv A outer s H) (fun _=>E0) (defBody st) d/\(d (init N.length ws)).fn=F ws):CalH P w K mg base (k+1) x ps (spF K F):=by
 refine A.calH sc (fun vs H Q E h=>?_) (fun f cdv A outer s H vs Q hr h=>?_)
 ·obtain⟨G,ws,hn,r⟩:=q5k h;rw[r.length];exact len ws hn
 ·obtain⟨G,ws,sg,rp,h⟩:=h;have hn:F ws≠.no:=fun z=>by rw[z]at h;exact h
  obtain⟨d,hd,he⟩:=hb ws hn f cdv A outer s H ⟨H,G,[]⟩ hr;exact⟨_,hd,G,init N.length ws,q36 sg rp,q5l he h⟩
end
noncomputable def dCall(F:List W->FR)(dA:Den (List W)):Den W:=fun e=>(dA e).bind fun ws e1=>match F ws with
 |.ok (.fr w)=>.ok w e1
 |.ok (.own none ws')=>.ok (.lst ws') e1
 |.ok (.dic kvs)=>.ok (.dic kvs) e1
 |.ok (.thr us ws vs)=>.ok (.tup (us++.lst ws::vs)) e1
 |.ok (.x (.new w))=>.ok w e1
 |.ok (.x (.tn us wss))=>.ok (.tup (us++[.lst (wss.map .lst)])) e1
 |.ex c=>.ex c e1
 |_=>.no
noncomputable def dCallH(F:List W->FR)(dA:Den (List W)):Den W:=fun e=>(dA e).bind fun ws e1=>match F ws with
 |.ok (.fr w)=>.ok w e1
 |.ok (.own none ws')=>.ok (.lst ws') e1
 |_=>.no
section
variable{e:Expr}
theorem q5y{s:S}(r1:Rel K Z G1 σ H1 e1)(g:Grow G1 H1 G' H')(q:SlotOk K ⟨H1,G1,[]⟩ G' H' s (some v))(hs:s=.fr w\/∃ws,s=.own none ws/\w=.lst ws):
  ∃G'',Rel K Z G'' σ H' e1/\Same G1 G''/\Rep K G'' w v:=by
 rcases hs with rfl|⟨ws,rfl,rfl⟩
 ·obtain⟨u,h1,h2⟩:=q;cases h1;exact⟨G',r1.grow g,g.gg,h2⟩
 ·obtain⟨a,xs,h1,h2,h3,h4,h5⟩:=q;cases h1;have hn:H1 a=none:=h4;obtain⟨sg,rg⟩:=(r1.grow g).seen h2 h3 (q20 r1 hn) (q35 r1 hn);exact⟨_,rg,g.gg.trans sg,⟨a,xs,rfl,SqL.of q0f,Reps.mono sg ws h5⟩⟩
theorem x5d{kvs:Dd}(r1:Rel K Z G1 σ H1 e1)(g:Grow G1 H1 G' H')(q:SlotOk K ⟨H1,G1,[]⟩ G' H' (.dic kvs) (some v)):
  ∃G'',Rel K Z G'' σ H' e1/\Same G1 G''/\Rep K G'' (.dic kvs) v:=by
 obtain⟨a,h1,h2,h3,h4⟩:=q;cases h1;have hn:H1 a=none:=h4;have r:=r1.grow g;have sg:Same G' (upd G' a (dO kvs)):=q2i h3 _;refine⟨upd G' a (dO kvs),⟨fun c o z=>?_,fun j s z=>?_,r.len,r.dis,r.ent,r.ion,fun c z=>?_⟩,g.gg.trans sg,⟨a,rfl,q0f⟩⟩
 ·by_cases hc:c=a
  ·subst hc;rw[q0f]at z;cases z;exact h2
  ·rw[q0c hc]at z;exact r.sub c o z
 ·have y:=r.slot j s z;have y1:=r1.slot j s z;cases s with
  |no=>trivial
  |fr w=>
   obtain⟨u,y1,y2⟩:=y;exact⟨u,y1,Rep.mono sg w y2⟩
  |own b2 w2=>
   obtain⟨c,ys,x1,x2,x3,x4,x5⟩:=y;refine⟨c,ys,x1,x2,?_,x4,Reps.mono sg w2 x5⟩;rw[q0c (q0q x2 h2 (fun z=>q4e rfl z.symm))];exact x3
  |dic kv=>
   obtain⟨c,x1,x2,x3,x4⟩:=y;obtain⟨c',w1,w2,_⟩:=y1;rw[x1]at w1;cases w1;refine⟨c,x1,x2,?_,x4⟩;rw[q0c (q0k w2 hn)];exact x3
  |thr us w2 vs=>
   obtain⟨t,l,o,xs2,ys,zs,x1,x2,x3,x4,x5,x6,x7,x8⟩:=y;refine⟨t,l,o,xs2,ys,zs,x1,sg _ _ x2,x3,?_,x5,Reps.mono sg us x6,Reps.mono sg w2 x7,Reps.mono sg vs x8⟩;rw[q0c (q0q x3 h2 (fun z=>q4e rfl z.symm))];exact x4
  |nest wss=>exact NestOk.move y sg fun l o ys k1 k2 k3=>⟨k1,by rw[q0c (q0q k1 h2 (fun z=>q4e rfl z.symm))];exact k2,k3⟩
  |x k=>exact XOk.move y sg fun l o ys k1 k2 k3=>⟨k1,by rw[q0c (q0q k1 h2 (fun z=>q4e rfl z.symm))];exact k2,k3⟩
  |dw sh ks ws=>exact DwOk.move y sg fun l o ys k1 k2 k3=>⟨k1,by rw[q0c (q0q k1 h2 (fun z=>q4e rfl z.symm))];exact k2,k3⟩
 ·by_cases hc:c=a
  ·subst hc;exact absurd (q20 r1 hn) z
  ·rw[q0c hc];exact r.gen c z
theorem x5e{us vs:List W}(r1:Rel K Z G1 σ H1 e1)(g:Grow G1 H1 G' H')(q:SlotOk K ⟨H1,G1,[]⟩ G' H' (.thr us ws vs) (some v)):
  ∃G'',Rel K Z G'' σ H' e1/\Same G1 G''/\Rep K G'' (.tup (us++.lst ws::vs)) v:=by
 obtain⟨t,l,o,xs,ys,zs,h1,h2,h3,h4,h5,h6,h7,h8⟩:=q;cases h1;have hn:H1 l=none:=h5;have r:=r1.grow g;have sg:Same G' (upd G' l (.frz o (.lst ys))):=q2i h4 _;refine⟨upd G' l (.frz o (.lst ys)),⟨fun c u z=>?_,fun j s z=>?_,r.len,r.dis,r.ent,r.ion,fun c z=>?_⟩,g.gg.trans sg,⟨t,_,rfl,SqT.of (sg _ _ h2),(Reps.mono sg us h6).append ⟨.ref l,zs,rfl,⟨l,ys,rfl,.inl (.inr ⟨o,q0f⟩),Reps.mono sg ws h7⟩,Reps.mono sg vs h8⟩⟩⟩
 ·by_cases hc:c=l
  ·subst hc;rw[q0f]at z;cases z;exact h3
  ·rw[q0c hc]at z;exact r.sub c u z
 ·have y:=r.slot j s z;have y1:=r1.slot j s z;cases s with
  |no=>trivial
  |fr w=>
   obtain⟨u,y1,y2⟩:=y;exact⟨u,y1,Rep.mono sg w y2⟩
  |own b2 w2=>
   obtain⟨c,ys,x1,x2,x3,x4,x5⟩:=y;refine⟨c,ys,x1,x2,?_,x4,Reps.mono sg w2 x5⟩;rw[q0c (q0q x2 h3 (fun z=>nomatch z))];exact x3
  |dic kv=>
   obtain⟨c,x1,x2,x3,x4⟩:=y;refine⟨c,x1,x2,?_,x4⟩;rw[q0c (q0q x2 h3 (q4e rfl))];exact x3
  |thr us w2 vs=>
   obtain⟨t1,l1,o1,xs1,ys1,zs1,w1,w2',w3,w4,w5,w6,w7,w8⟩:=y1;have sg2:=g.gg.trans sg;refine⟨t1,l1,o1,xs1,ys1,zs1,w1,sg2 _ _ w2',g.hh _ _ w3,?_,w5,Reps.mono sg2 us w6,Reps.mono sg2 w2 w7,Reps.mono sg2 vs w8⟩;rw[q0c (q0k w3 hn),g.new l1 (by rw[w3];simp)];exact w4
  |nest wss=>exact NestOk.move y1 (g.gg.trans sg) fun l1 o ys k1 k2 k3=>⟨g.hh _ _ k1,by rw[q0c (q0k k1 hn),g.new l1 (by rw[k1];simp)];exact k2,k3⟩
  |x k=>exact XOk.move y1 (g.gg.trans sg) fun l1 o ys k1 k2 k3=>⟨g.hh _ _ k1,by rw[q0c (q0k k1 hn),g.new l1 (by rw[k1];simp)];exact k2,k3⟩
  |dw sh ks ws=>exact DwOk.move y1 (g.gg.trans sg) fun l1 o ys k1 k2 k3=>⟨g.hh _ _ k1,by rw[q0c (q0k k1 hn),g.new l1 (by rw[k1];simp)];exact k2,k3⟩
 ·by_cases hc:c=l
  ·subst hc;exact absurd (q20 r1 hn) z
  ·rw[q0c hc];exact r.gen c z
theorem NestIn.mem0:∀{ls:List Addr}{wss:List (List W)},NestIn K Z G H ls wss->∀l∈ls,∃o ys,FzAt Z G H l o ys
 |[],_,_,_,hl=>nomatch hl
 |l::ls,ws::wss,⟨⟨o,ys,h1,_⟩,h⟩,c,hc=>by
  rcases w0p.mp hc with rfl|hc
  ·exact⟨o,ys,h1⟩
  ·exact h.mem0 c hc
 |_::_,[],h,_,_=>h.elim
theorem NestIn.reps0(sg:Same G G'):∀{ls:List Addr}{wss:List (List W)},(∀l∈ls,G' l=H l)->NestIn K Z G H ls wss->Reps K G' (wss.map W.lst) (ls.map V.ref)
 |[],[],_,_=>rfl
 |l::ls,ws::wss,hf,⟨⟨o,ys,h1,h4⟩,h⟩=>⟨.ref l,ls.map V.ref,rfl,⟨l,ys,rfl,.inl (.inr ⟨o,by rw[hf l (by simp)];exact h1.1⟩),Reps.mono sg ws h4⟩,h.reps0 sg fun c hc=>hf c (by simp[hc])⟩
 |[],_::_,_,h=>h.elim
 |_::_,[],_,h=>h.elim
theorem Rel.addNew(r1:Rel K Z G1 σ H1 e1)(g:Grow G1 H1 G' H')(As:List Addr) [DecidablePred (·∈As)](hA:∀c∈As,(∃o ys,H' c=some (.frz o (.lst ys)))/\G' c=none/\H1 c=none):
  Same G' (fun c=>if c∈As then H' c else G' c)/\Rel K Z (fun c=>if c∈As then H' c else G' c) σ H' e1:=by
 have sg:Same G' (fun c=>if c∈As then H' c else G' c):=fun c o z=>by
  show(if c∈As then H' c else G' c)=some o;rw[if_neg (fun m=>by rw[(hA c m).2.1]at z;cases z)];exact z
 refine⟨sg,r1.grow ⟨g.hh,g.gg.trans sg,fun c o z=>?_,fun c hc=>?_⟩⟩
 ·have z:(if c∈As then H' c else G' c)=some o:=z;split at z
  ·exact z
  ·exact g.sub c o z
 ·show(if c∈As then H' c else G' c)=G1 c;rw[if_neg (fun m=>hc (hA c m).2.2)];exact g.new c hc
theorem x8a{us:List W}{wss:List (List W)}(r1:Rel K Z G1 σ H1 e1)(g:Grow G1 H1 G' H')(q:SlotOk K ⟨H1,G1,[]⟩ G' H' (.x (.tn us wss)) (some v)):
  ∃G'',Rel K Z G'' σ H' e1/\Same G1 G''/\Rep K G'' (.tup (us++[.lst (wss.map .lst)])) v:=by
 classical
 obtain⟨t,l,o,ls,xs,h1,h2,⟨h3,h4,h5⟩,⟨h6,h7⟩,h8,h9⟩:=q;cases h1
 obtain⟨sg,r2⟩:=r1.addNew g (l::ls) fun c hc=>by
  rcases w0p.mp hc with rfl|hc
  ·exact⟨⟨o,_,h3⟩,h4,h5⟩
  ·obtain⟨o',ys,k1,k2,k3⟩:=h9.mem0 c hc;exact⟨⟨o',ys,k1⟩,k2,k3⟩
 refine⟨_,r2,g.gg.trans sg,t,_,rfl,SqT.of (sg _ _ h2),(Reps.mono sg us h8).append ⟨.ref l,[],rfl,⟨l,_,rfl,.inl (.inr ⟨o,?_⟩),h9.reps0 sg fun c hc=>if_pos (w0y _ hc)⟩,rfl⟩⟩
 show(if l∈l::ls then H' l else G' l)=_;rw[if_pos (w1b ..)];exact h3
theorem y0l{c:Value}(r1:Rel K Z G1 σ H1 e1)(s1:Same G G1)(h:XH K Z EE σ G c e1):∀H',Same H1 H'->EE σ c none H':=fun H' sh=>
 h G1 H' (r1.grow ⟨sh,.refl _,r1.sub.trans sh,fun _ _=>rfl⟩) s1
theorem q0v(C:Cal X.prog X.w X.K X.mg X.base k x ps (spF X.K F))(hr:Room k X.A)(hx:PassX (CX1 X.prog X.w) X EE)(ha:DA Z X EE (e::es) dA)(hg:Gl X x:=by rfl)
  (hdb:(x==("__debug__":Str))=false:=by decide)(he:starEach (e::es) X.env=(false,eval e X.env)::starEach es X.env:=by rfl)(hpl:(backTo pos (starEach es X.env)).any (·.1)=false:=by rfl):
  DE Z X EE (.Call (.Name x p) (e::es) [] pos) (dCall F dA):=by
 refine PE.mono (y48 C hr hx ha hg hdb he hpl) ?_;rintro σ H Q ⟨G,e,rel,h⟩;simp only[dCall,R.holds_bind]at h;refine⟨G,e,rel,h.imp (fun ws e1 h G1 vs H1 r1 s1 p1=>?_) fun _ _ h=>h⟩
 refine⟨G1,ws,r1.sub,by rw[w1i];exact p1,?_⟩;cases q:F ws with
 |ok s=>
  rw[q]at h;intro G' H' v g sl;cases s with
  |no=>exact h.elim
  |fr w=>
   obtain⟨G'',r2,s2,p2⟩:=q5y r1 g sl (.inl rfl);exact(show ∀G' v H',_->_->Rep X.K G' w v->Q v H' from h) G'' v H' r2 (s1.trans s2) p2
  |own b ws'=>
   cases b with
   |some _=>exact h.elim
   |none=>
    obtain⟨G'',r2,s2,p2⟩:=q5y r1 g sl (.inr ⟨ws',rfl,rfl⟩);exact(show ∀G' v H',_->_->Rep X.K G' (.lst ws') v->Q v H' from h) G'' v H' r2 (s1.trans s2) p2
  |dic kvs=>
   obtain⟨G'',r2,s2,p2⟩:=x5d r1 g sl;exact(show ∀G' v H',_->_->Rep X.K G' (.dic kvs) v->Q v H' from h) G'' v H' r2 (s1.trans s2) p2
  |thr us ws' vs'=>
   obtain⟨G'',r2,s2,p2⟩:=x5e r1 g sl;exact(show ∀G' v H',_->_->Rep X.K G' (.tup (us++.lst ws'::vs')) v->Q v H' from h) G'' v H' r2 (s1.trans s2) p2
  |nest _=>exact h.elim
  |x k=>
   cases k with
   |new w=>
    obtain⟨u,h1,h2⟩:=sl;cases h1;exact(show ∀G' v H',_->_->Rep X.K G' w v->Q v H' from h) G' _ H' (r1.grow g) (s1.trans g.gg) (RepN.rep _ h2)
   |tn us wss=>
    obtain⟨G'',r2,s2,p2⟩:=x8a r1 g sl;exact(show ∀G' v H',_->_->Rep X.K G' (.tup (us++[.lst (wss.map .lst)])) v->Q v H' from h) G'' v H' r2 (s1.trans s2) p2
   |_=>exact h.elim
  |dw _ _ _=>exact h.elim
 |ex c=>
  rw[q]at h;exact y0l r1 s1 h
 |no=>rw[q]at h;exact h.elim
theorem x2z(C:CalH X.prog X.w X.K X.mg X.base k x ps (spF X.K F))(hr:RoomH k X.A)(ha:DA Z X EE (e::es) dA)(hg:Gl X x:=by rfl)
  (hdb:(x==("__debug__":Str))=false:=by decide)(he:starEach (e::es) X.env=(false,eval e X.env)::starEach es X.env:=by rfl)(hpl:(backTo pos (starEach es X.env)).any (·.1)=false:=by rfl):
  DE Z X EE (.Call (.Name x p) (e::es) [] pos) (dCallH F dA):=by
 refine PE.mono (y1h C hr ha hg hdb he hpl) ?_;rintro σ H Q ⟨G,e,rel,h⟩;simp only[dCallH,R.holds_bind]at h;refine⟨G,e,rel,h.imp (fun ws e1 h G1 vs H1 r1 s1 p1=>?_) fun _ _ h=>h⟩
 refine⟨G1,ws,r1.sub,by rw[w1i];exact p1,?_⟩;cases q:F ws with
 |ok s=>
  rw[q]at h;intro G' H' v g sl;cases s with
  |no=>exact h.elim
  |fr w=>
   obtain⟨G'',r2,s2,p2⟩:=q5y r1 g sl (.inl rfl);exact(show ∀G' v H',_->_->Rep X.K G' w v->Q v H' from h) G'' v H' r2 (s1.trans s2) p2
  |own b ws'=>
   cases b with
   |some _=>exact h.elim
   |none=>
    obtain⟨G'',r2,s2,p2⟩:=q5y r1 g sl (.inr ⟨ws',rfl,rfl⟩);exact(show ∀G' v H',_->_->Rep X.K G' (.lst ws') v->Q v H' from h) G'' v H' r2 (s1.trans s2) p2
  |dic kvs=>exact h.elim
  |thr _ _ _=>exact h.elim
  |nest _=>exact h.elim
  |x _=>exact h.elim
  |dw _ _ _=>exact h.elim
 |ex c=>rw[q]at h;exact h.elim
 |no=>rw[q]at h;exact h.elim
noncomputable def dRaise(C:Addr)(d:Den (List W)):List S->SR:=fun e=>(d e).stm fun ws e1=>if ws.length<=16777216 then .ex (.ref C) e1 else .no
theorem q37{C Ac:Addr}{np cpos:Pos}(hx:RaisX X EE)(hC:excIn X.K C Ac=true)(hm:X.mg x=some (.ref C))(hc:X.calm=true)(ha:DA Z X EE (e::es) dA)(hg:Gl X x:=by rfl)
  (hdb:(x==("__debug__":Str))=false:=by decide)(he:starEach (e::es) X.env=(false,eval e X.env)::starEach es X.env:=by rfl)(hpl:(backTo cpos (starEach es X.env)).any (·.1)=false:=by rfl):
  DS Z X EE (.Raise (some (.Call (.Name x np) (e::es) [] cpos)) none pos) (dRaise C dA):=by
 refine PS.mono (x7z hx hc hg hm hC ha hdb he hpl) ?_;rintro D σ H ⟨G,e,rel,h⟩;refine⟨G,e,rel,(q02 h).imp (fun ws e1 h G1 vs H1 r1 s1 p1=>?_) fun _ _ h=>h⟩
 split at h
 ·rename_i hl;exact⟨by rw[p1.length,sizeLine_eq];exact hl,h G1 σ H1 r1 s1⟩
 ·exact h.elim
theorem Rel.blank{e:List S}(r:Rel K Z G σ H e)(n:Nat):Rel K Z G (List.replicate n none) H (List.replicate n .no):=by
 have hno:∀(i:Nat)(s:S),(List.replicate n S.no)[i]?=some s->s=.no:=fun i s h=>by
  rw[w1o]at h;split at h
  ·cases h;rfl
  ·cases h
 refine⟨r.sub,fun i s h=>?_,by simp,fun i j b b' w1 w2 a h1 h2 _ _=>?_,r.ent,r.ion,r.gen⟩
 ·rw[hno i s h];trivial
 ·cases hno _ _ h1
end
end D
namespace L2
open PySem PySem.Spec PyProof.Rows
section
variable{X:Cx}{elt target iter:Expr}{ifs:List Expr}{scope:Scope}{pos:Pos}{wi:TI}{g:TG}{tc:TT}{te:TE}
theorem x8b{Nl Nf:List Str}{js:List Nat}{y:Str}{py spos:Pos}{gy:TG}(hc:X.calm=true)(hi:PI X target iter wi)
  (hk:scope.kind=.function)(hcell:∀y∈scope.names,y.2≠.cell)(hnames:∀x∈scope.names,x.2=.local->scope.names.lookup x.1=some .local)
  (hfree:∀x∈scope.names,x.2=.free->X.env.kindOf x.1=some .cell\/X.env.kindOf x.1=some .free)
  (hj:∀(i j:Nat) y,Nf[i]?=some y->js[i]?=some j->X.N[j]?=some y)(hlen:js.length=Nf.length)
  (hNf:∀y∈Nf,(y,NameKind.free)∈scope.names/\Vis X.env.scope y/\X.env.kindOf y≠some .local)
  (hvis:∀y∈Nf,(relabel scope X.env).names.lookup y=some .cell\/(relabel scope X.env).names.lookup y=some .free)
  (hg:∀cl C s₀ H₀ ex,PG (X.cp (Nl++Nf) scope cl C s₀ H₀ ex) target g)(ht:∀cl C s₀ H₀ ex,PTs (X.cp (Nl++Nf) scope cl C s₀ H₀ ex) ifs tc)(he:∀cl C s₀ H₀ ex,PE (X.cp (Nl++Nf) scope cl C s₀ H₀ ex) elt te)
  (hgy:PG X (.Name y py) gy)(hsw:swapsWith (.ListComp elt [⟨target,iter,ifs,0⟩] scope pos) (some (.Name y py)) spos.line X.env=pure true)
  (hs:∀x,foldedSetIterable iter X.env x=pure x:=by intro _;rfl):
  PS X (.Assign [.Name y py] (.ListComp elt [⟨target,iter,ifs,0⟩] scope pos) spos) (tAsg (tComp wi Nl.length js g tc te) gy):=by
 intro pins s σ H D I h;obtain⟨cl,hclos,hcl,hcf⟩:=q4r (scope:=scope) (env:=X.env) fun x hx hf=>I.ok.has x.1 (hfree x hx hf)
 rw[exec_Assign_Name_used _ _ _ _ hsw];refine wpAny_bind (wpAny_standAt (wpAny_bind ?_));show wpAny _ _ (do let _ <- comprehension _ _ _ _ _ _ _ _) _ _ _;refine wpAny_bind (wpAny_comprehension_free (Q:=fun _ s''=>wpAny (model X.prog X.w) X.A (pure ()) (fun _ s3=>wpAny (model X.prog X.w) X.A (pure Flow.next) (SP X pins D) X.xe s3) X.xe s'') (use:=some (assign (.Name y py) X.env)) rfl hs hclos hk hnames (thn (hi pins s σ H _ I h) fun v s1 h1=>thn h1 fun itv s2 h2=>?_))
 obtain⟨it,fp,tn,J,H2,e,I2,T,st2,f2,rd⟩:=h2;subst e;refine wpAny_newObj_type (wpAny_newFunctionEnv hcell (by intro y hy;simp at hy) (fun h₁ hns₁ hsb₁=>?_) hk)
 dsimp only at hns₁ hsb₁ |-
 have szp:(s2.heap.push {cls:=.type "list", dict:=none,data:=.seq ([]:List Value).toArray}).objs.size=s2.heap.objs.size+1:=Heap.size_push ..;rw[szp]at hns₁ hsb₁ |-
 have fD:H2 s2.heap.objs.size=none:=I2.hok.fresh (w0h _);obtain⟨W,⟨m0,w0⟩,turn⟩:=rd s2.heap.objs.size fD;have obj2:=T.obj 0 s2.heap st2;have IS:=x01 (Nl:=Nl) (Nf:=Nf) (js:=js) (cl:=cl) (tk:=s2.toks+([]:List (Str×Value)).length) I2 f2 obj2 hk hcell hcl hcf hj hlen hNf hvis hns₁ hsb₁
 have upS:∀b u,s2.heap.get? b=some u->h₁.get? b=some u:=fun b u q=>by
  have hlt:=Heap.lt_size q;exact(hsb₁.2 b (w0o (w2r hlt))).trans (Heap.get?_push_of_some _ (Heap.get?_push_of_some _ q))
 have stS:tn 0 h₁:=T.keep 0 s2.heap h₁ st2 fun b hb o q=>upS b o q
 have noD:∀b∈fp,upd H2 s2.heap.objs.size (.lst []) b=none:=fun b hb=>by
  obtain⟨o,q,_⟩:=obj2 b hb;rw[q0c (w0o (Heap.lt_size q))];exact(f2 b hb).1
 have stat:∀{H':Hp},(∀b∈fp,H' b=none)->∀b∈fp,FpOk (X.cp (Nl++Nf) scope cl (s2.heap.objs.size+1) {s2 with heap:=s2.heap.push {cls:=.type "list", dict:=none,data:=.seq ([]:List Value).toArray}} (upd H2 s2.heap.objs.size (.lst [])) fp) [] H' b:=fun hn b hb=>by
  refine⟨hn b hb,(IS.ok.exf b hb).1,IS.ok.exfs b hb,.inl hb,(IS.ok.exf b hb).2,fun p hp=>(by cases hp)⟩
 have loop:∀s4:Shared,s4={s2 with heap:=h₁,toks:=s2.toks+([]:List (Str×Value)).length} ->
   codeAny (model X.prog X.w) X.A (.compLoop (.ListComp elt [⟨target,iter,ifs,0⟩] scope pos) 0 (.ref it) (.ref s2.heap.objs.size) (compEnvC scope cl (s2.heap.objs.size+1) X.env))
    (compPost (model X.prog X.w) X.A X.xe (some (assign (.Name y py) X.env)) (fun _ s''=>wpAny (model X.prog X.w) X.A (pure ()) (fun _ s3=>wpAny (model X.prog X.w) X.A (pure Flow.next) (SP X pins D) X.xe s3) X.xe s'') (.ref s2.heap.objs.size) (s2.heap.objs.size+1)) s4:=by
  rintro s4 rfl;refine q9p (fun n s'=>∃i H',Inv (X.cp (Nl++Nf) scope cl (s2.heap.objs.size+1) {s2 with heap:=s2.heap.push {cls:=.type "list", dict:=none,data:=.seq ([]:List Value).toArray}} (upd H2 s2.heap.objs.size (.lst [])) fp) [] (List.replicate Nl.length none++pj js σ) H' s'/\tn i s'.heap/\(∀b∈fp,H' b=none)/\W i n H') ?_ m0 ⟨0,_,IS,stS,noD,w0⟩
  rintro n s3 ⟨i,H3,I3,st3,fr3,w3⟩;rcases turn i n H3 w3 with⟨stop,qn⟩|⟨go,step⟩
  ·refine thn (T.done (X.cp (Nl++Nf) scope cl (s2.heap.objs.size+1) {s2 with heap:=s2.heap.push {cls:=.type "list", dict:=none,data:=.seq ([]:List Value).toArray}} (upd H2 s2.heap.objs.size (.lst [])) fp) rfl rfl rfl hc i [] s3 _ H3 _ I3 (stat fr3) st3 stop) fun r s5 ⟨hr,I5⟩=>?_
   subst hr;obtain⟨m5,hn5,_⟩:=I5.loc;obtain⟨o5,es5,ep5,ho5,hd5,hk5,hf5⟩:=id hn5;have J5:Inv X pins σ H3 s5:=x47 I2 f2 I5 (h':=s5.heap) ⟨rfl,fun _ _=>rfl⟩
   have fC:FpOk X pins H3 (s2.heap.objs.size+1):=I2.fpOk (w4f _) I5.free;have f1:∀b∈[s2.heap.objs.size+1],FpOk X pins H3 b:=fun b hb=>by rw[w0k.mp hb];exact fC
   have J6:=J5.pinned f1 (fun b hb=>by rw[w0k.mp hb];exact⟨o5,ho5,fun v z=>by rw[hd5]at z;cases z⟩)
   refine thn (hgy _ s5 σ H3 (.ref s2.heap.objs.size) _ _ J6 rfl qn) fun _ s6 ⟨σ6,H6,I6,q6⟩=>?_
   have pC:=I6.pin (s2.heap.objs.size+1,o5) (w0j _ (w0j _ (q2t (w0k.mpr rfl) ho5)));refine⟨m5,⟨o5,es5,ep5,pC.1,hd5,hk5,hf5⟩,fun h' hs'=>wpAny_pure (wpAny_pure ⟨σ6,H6,?_,q6⟩)⟩
   obtain⟨g0,g1,g2,g3,g4,g5⟩:=fC;exact I6.unpinned.turned (t':=s6.toks) (fun b o hb e=>(hs'.2 b hb).trans e) pC.2.1 g1 g3 g4 g5
  ·refine thn (T.item (X.cp (Nl++Nf) scope cl (s2.heap.objs.size+1) {s2 with heap:=s2.heap.push {cls:=.type "list", dict:=none,data:=.seq ([]:List Value).toArray}} (upd H2 s2.heap.objs.size (.lst [])) fp) rfl rfl rfl hc i [] s3 _ H3 _ I3 (stat fr3) st3 go) fun r s5 ⟨u,hr,h5⟩=>?_
   subst hr;refine thn h5 fun _ s6 ⟨x,H6,I6,r6,y6,st6,fr6⟩=>?_
   have I6':=I6.pinned (stat fr6) (T.obj _ _ st6);refine thn (hg _ _ _ _ _ _ s6 _ H6 x u _ I6' r6 (step x H6 y6)) fun _ s7 ⟨σ7,H7,I7,kp,q7⟩=>?_
   refine thn (ht _ _ _ _ _ _ s7 σ7 H7 _ I7 q7) fun ok s8 ⟨H8,I8,q8⟩=>?_
   have again:∀{σ9:St}{H9:Hp}{s9:Shared},Inv (X.cp (Nl++Nf) scope cl (s2.heap.objs.size+1) {s2 with heap:=s2.heap.push {cls:=.type "list", dict:=none,data:=.seq ([]:List Value).toArray}} (upd H2 s2.heap.objs.size (.lst [])) fp) ([]++pinsAt fp s6.heap) σ9 H9 s9 ->
     Kp (List.replicate Nl.length none++pj js σ) σ9->(∃m',m'<n/\W (i+1) m' H9)->∃m,m<n/\∃i H',Inv (X.cp (Nl++Nf) scope cl (s2.heap.objs.size+1) {s2 with heap:=s2.heap.push {cls:=.type "list", dict:=none,data:=.seq ([]:List Value).toArray}} (upd H2 s2.heap.objs.size (.lst [])) fp) [] (List.replicate Nl.length none++pj js σ) H' s9/\tn i s9.heap/\(∀b∈fp,H' b=none)/\W i m H':=fun {σ9 H9 s9} I9 hw ⟨m',hm,w9⟩=>by
    refine⟨m',hm,i+1,H9,I9.unpinned.weak (by rw[I9.len,<- IS.len]) hw,T.keep _ _ _ st6 fun b hb o q=>(I9.pin (b,o) (w0j _ (w0j _ (q2t hb q)))).1,fun b hb=>?_,w9⟩
    obtain⟨o,q,d⟩:=T.obj _ _ st6 b hb;exact(I9.pin (b,o) (w0j _ (w0j _ (q2t hb q)))).2.1
   cases ok with
   |false=>exact again I8 kp (by simpa using q8)
   |true=>
    have q8':=by simpa only[if_true]using q8
    refine thn (he _ _ _ _ _ _ s8 σ7 H8 _ I8 q8') fun y s9 ⟨yv,H9,I9,r9,ys,hD,hz,q9⟩=>?_
    refine thn (q6b _ s9 σ7 H9 (.ref s2.heap.objs.size) [yv] (.ref s2.heap.objs.size) [y] (fun v H'=>v=.non/\H'=upd H9 s2.heap.objs.size (.lst (ys++[yv]))) I9 rfl (.cons r9 .nil) ⟨_,ys,yv,rfl,rfl,hD,hz,rfl,rfl⟩) fun _ s10 ⟨_,H10,I10,_,_,e10⟩=>?_
    subst e10;exact again I10 kp q9
 exact codeAny_compStart_list (loop _ rfl) (T.self X.A 0 _ _ _ stS (loop _ rfl))
end
variable{X:Cx}
theorem q9r{y:Str}{py spos:Pos}{gy:TG}{elt target iter:Expr}{ifs:List Expr}{scope sc:Scope}{pos:Pos}{wi:TI}{g:TG}{tc:TT}{te:TE}{Nl Nf N:List Str}{js:List Nat}(hc:X.calm=true)(hi:PI X target iter wi)
  (ok:compOk sc scope N Nf js=true)
  (hg:∀cl C s₀ H₀ ex,PG (X.cp (Nl++Nf) scope cl C s₀ H₀ ex) target g)(ht:∀cl C s₀ H₀ ex,PTs (X.cp (Nl++Nf) scope cl C s₀ H₀ ex) ifs tc)(he:∀cl C s₀ H₀ ex,PE (X.cp (Nl++Nf) scope cl C s₀ H₀ ex) elt te)
  (hgy:PG X (.Name y py) gy)(hsw:swapsWith (.ListComp elt [⟨target,iter,ifs,0⟩] scope pos) (some (.Name y py)) spos.line X.env=pure true)
  (hsc:X.env.scope=sc:=by rfl)(hN:X.N=N:=by rfl)(hs:∀x,foldedSetIterable iter X.env x=pure x:=by intro _;rfl):
  PS X (.Assign [.Name y py] (.ListComp elt [⟨target,iter,ifs,0⟩] scope pos) spos) (tAsg (tComp wi Nl.length js g tc te) gy):=by
 unfold compOk at ok;simp only[w1d,w0t,beq_iff_eq,bne_iff_ne,w2x,w2b]at ok;obtain⟨⟨⟨⟨⟨⟨k1,k2⟩,k3⟩,k4⟩,k5⟩,k6⟩,k7⟩:=ok;have kind:∀x,X.env.kindOf x=sc.names.lookup x:=fun x=>by rw[<- hsc];rfl
 refine x8b hc hi k1 k2 (fun x hx hl=>(k3 x hx).resolve_left fun z=>z hl) (fun x hx hf=>?_) (fun i j y e1 e2=>?_) k5 (fun y hy=>?_) (fun y hy=>?_) hg ht he hgy hsw hs
 ·rw[kind];rcases k4 x hx with(z|z)|z
  ·exact absurd hf z
  ·exact .inl z
  ·exact .inr z
 ·have hlt:i<js.length:=(w0a.mp e2).1;have z:=k6 i hlt;rw[e1,e2]at z;rw[hN]
  simpa using z
 ·obtain⟨z1,z2⟩:=k7 y hy;refine⟨PySem.mem_of_lookup z1,?_,?_⟩
  ·rw[hsc];rcases z2 with z|z
   ·exact .inr (.inl z)
   ·exact .inr (.inr z)
  ·rw[kind];rcases z2 with z|z<;>(rw[z];decide)
 ·exact q40 (k7 y hy).1
def rCatS(K:PySem.W.Frag):R2:=fun x y H Q=>∃l b xs zs,x=.ref l/\y=.ref b/\SqL K H l xs/\SqL K H b zs/\xs.length+zs.length<=sizeLine/\∀p,H p=none->Q (.ref p) (upd H p (.lst (xs++zs)))
theorem y1o:OpR X (binaryOp .Add) (rCatS X.K):=by
 intro pins s σ H x y v u Q I rx ry h;obtain⟨l,b,xs,zs,rfl,rfl,h1,h2,hz,q⟩:=h;cases rx;cases ry;obtain⟨its,r1,p1,_⟩:=I.list h1;obtain⟨its2,r2,p2,_⟩:=I.list h2;obtain⟨⟨cls,dd,data,sl⟩,ho,hc,n,hd⟩:=id p1.isList;obtain⟨⟨cls2,dd2,data2,sl2⟩,ho2,hc2,n2,hd2⟩:=id p2.isList;simp only at hc hd hc2 hd2;subst hc hd hc2 hd2;have l1:=r1.length;have l2:=r2.length;refine concat_meets ⟨_,ho,rfl⟩ ⟨_,ho2,rfl⟩ noFill_list_add seq_list_add PySem.F.slot_list_add PySem.F.entry_list_add (PySem.F.args_list_add_2 _ _) (list_addW l b its.toArray its2.toArray n n2 dd dd2 sl sl2 (by simp only[w0c];omega)) ⟨ho,ho2,?_⟩;have ea:its.toArray++its2.toArray=(its++its2).toArray:=by simp
 rw[ea];exact⟨.ref _,_,I.lnew (t':=s.toks) (r1.append r2) (by rw[w0v];omega),rfl,q _ I.fresh⟩
end L2
namespace D
open PySem L2
variable{a j:Addr}{A:Around}{vs ys:Array Value}{X:Cx}{dA p:Den (List W)}{c cc:Den Bool}{d da db:Den W}{h h':Heap}{G G' G1 H:Hp}{lo:Int}{pins:List (Addr×Obj)}{ps:List (W×W)}{elts es:List Expr}{js:List Nat}{e:List S}{q s1:List S->SR}{xs:List V}{us ws:List W}{F:List W->FR}{f:List W->Option W}{i k kt n:Nat}{b:Option Nat}{p1 p2 pn pos:Pos}{P:Program}{K:PySem.W.Frag}{s:Shared}{σ:St}{EE:St->XK}{st:Stmt}{x y:Str}{α:Type}{v v':V}{cv u u':Value}{w w':W}{Z:Zt}
noncomputable def addW:W->W->Option W
 |.int i,.int j=>some (.int (i+j))
 |.str x,.str y=>if x.length+y.length<=16777216 then some (.str (x++y))else none
 |.tup xs,.tup ys=>if xs≠[]/\xs.length+ys.length<=16777216 then some (.tup (xs++ys))else none
 |.lst xs,.lst ys=>if xs.length+ys.length<=16777216 then some (.lst (xs++ys))else none
 |_,_=>none
noncomputable def subW:W->W->Option W
 |.int i,.int j=>some (.int (i-j))
 |_,_=>none
noncomputable def mulW:W->W->Option W
 |.int i,.int j=>if(-(2^64)<i/\i<2^64)\/(-(2^64)<j/\j<2^64)then some (.int (i*j))else none
 |_,_=>none
noncomputable def fdivW:W->W->Option W
 |.int i,.int j=>if 0<j/\j<1073741824 then some (.int (i / j))else none
 |_,_=>none
noncomputable def modW:W->W->Option W
 |.int i,.int j=>if 0<j then some (.int (i%j))else none
 |_,_=>none
noncomputable def powW:W->W->Option W
 |.int i,.int j=>if 0<=j/\j<=1000000/\i.natAbs<2^64 then some (.int (i^j.toNat))else none
 |_,_=>none
noncomputable def ltW:W->W->Option W
 |.int i,.int j=>some (.bl (decide (i<j)))
 |_,_=>none
noncomputable def leW:W->W->Option W
 |.int i,.int j=>some (.bl (decide (i<=j)))
 |_,_=>none
noncomputable def gtW:W->W->Option W
 |.int i,.int j=>some (.bl (decide (j<i)))
 |_,_=>none
noncomputable def negW:W->Option W
 |.int i=>some (.int (-i))
 |_=>none
theorem x5f:Op2 K (fun x y H Q=>rI0 (fun i j=>.int (i+j)) x y H Q\/((∃i j,x=.str i/\y=.str j/\i.length+j.length<=sizeLine/\Q (.str (i++j)) H)\/(rCatT K x y H Q\/rCatS K x y H Q))) addW:=by
 intro G H x y wx wy w Q s px py hf h;unfold addW at hf;split at hf
 ·cases hf;cases px;cases py;exact .inl ⟨_,_,rfl,rfl,h G _ H (.refl s) rfl⟩
 ·split at hf
  ·rename_i hl;cases hf;cases px;cases py;exact .inr (.inl ⟨_,_,rfl,rfl,by rw[sizeLine_eq];exact hl,h G _ H (.refl s) rfl⟩)
  ·cases hf
 ·rename_i us ws;split at hf
  ·rename_i hl;cases hf;obtain⟨a,xs,rfl,ha,ra⟩:=px;obtain⟨b,ys,rfl,hb,rb⟩:=py;have l1:=ra.length;have l2:=rb.length;refine .inr (.inr (.inl ⟨a,b,xs,ys,rfl,rfl,s.tup ha,s.tup hb,fun z=>hl.1 ?_,by rw[l1,l2,sizeLine_eq];exact hl.2,fun z=>?_,fun z p hp=>?_⟩))
   ·subst z;cases us with
    |nil=>rfl
    |cons _ _=>simp at l1
   ·subst z
    have:ws=[]:=by cases ws with
     |nil=>rfl
     |cons _ _=>simp at l2
    subst this;exact h G _ H (.refl s) ⟨a,xs,rfl,ha,by simpa using ra⟩
   ·have g:=Grow.laid s hp (.tup (xs++ys));exact h _ _ _ g ⟨p,_,rfl,SqT.of q0f,Reps.append (Reps.mono g.gg _ ra) (Reps.mono g.gg _ rb)⟩
  ·cases hf
 ·split at hf
  ·rename_i hl;cases hf;obtain⟨a,xs,rfl,ha,ra⟩:=px;obtain⟨b,ys,rfl,hb,rb⟩:=py;have l1:=ra.length;have l2:=rb.length;refine .inr (.inr (.inr ⟨a,b,xs,ys,rfl,rfl,s.seq ha,s.seq hb,by rw[l1,l2,sizeLine_eq];exact hl,fun p hp=>?_⟩))
   have g:=Grow.laid s hp (.lst (xs++ys));exact h _ _ _ g ⟨p,_,rfl,SqL.of q0f,Reps.append (Reps.mono g.gg _ ra) (Reps.mono g.gg _ rb)⟩
  ·cases hf
 ·cases hf
theorem y5d:Op2 K (rI0 fun i j=>.int (i-j)) subW:=by
 intro G H x y wx wy w Q s px py hf h;unfold subW at hf;split at hf
 ·cases hf;cases px;cases py;exact⟨_,_,rfl,rfl,h G _ H (.refl s) rfl⟩
 ·cases hf
theorem y5e:Op2 K (rI CMul fun i j=>.int (i*j)) mulW:=by
 intro G H x y wx wy w Q s px py hf h;unfold mulW at hf;split at hf
 ·split at hf
  ·rename_i hc;cases hf;cases px;cases py;exact⟨_,_,rfl,rfl,hc,h G _ H (.refl s) rfl⟩
  ·cases hf
 ·cases hf
theorem y1p:Op2 K (rI CDiv fun i j=>.int (i / j)) fdivW:=by
 intro G H x y wx wy w Q s px py hf h;unfold fdivW at hf;split at hf
 ·split at hf
  ·rename_i hc;cases hf;cases px;cases py;exact⟨_,_,rfl,rfl,hc,h G _ H (.refl s) rfl⟩
  ·cases hf
 ·cases hf
theorem y5f:Op2 K (rI (fun _ j=>0<j) fun i j=>.int (i%j)) modW:=by
 intro G H x y wx wy w Q s px py hf h;unfold modW at hf;split at hf
 ·split at hf
  ·rename_i hc;cases hf;cases px;cases py;exact⟨_,_,rfl,rfl,hc,h G _ H (.refl s) rfl⟩
  ·cases hf
 ·cases hf
theorem y5g:Op2 K (rI CPow fun i j=>.int (i^j.toNat)) powW:=by
 intro G H x y wx wy w Q s px py hf h;unfold powW at hf;split at hf
 ·split at hf
  ·rename_i hc;cases hf;cases px;cases py;exact⟨_,_,rfl,rfl,hc,h G _ H (.refl s) rfl⟩
  ·cases hf
 ·cases hf
theorem y0m:Op2 K (rI0 fun i j=>.bl (decide (i<j))) ltW:=by
 intro G H x y wx wy w Q s px py hf h;unfold ltW at hf;split at hf
 ·cases hf;cases px;cases py;exact⟨_,_,rfl,rfl,h G _ H (.refl s) rfl⟩
 ·cases hf
theorem y8f:Op2 K (rI0 fun i j=>.bl (decide (i<=j))) leW:=by
 intro G H x y wx wy w Q s px py hf h;unfold leW at hf;split at hf
 ·cases hf;cases px;cases py;exact⟨_,_,rfl,rfl,h G _ H (.refl s) rfl⟩
 ·cases hf
theorem y8g:Op2 K (rI0 fun i j=>.bl (decide (j<i))) gtW:=by
 intro G H x y wx wy w Q s px py hf h;unfold gtW at hf;split at hf
 ·cases hf;cases px;cases py;exact⟨_,_,rfl,rfl,h G _ H (.refl s) rfl⟩
 ·cases hf
theorem y5h:Op1 K (rU fun i=>.int (-i)) negW:=by
 intro G H x wx w Q s px hf h;unfold negW at hf;split at hf
 ·cases hf;cases px;exact⟨_,rfl,h G _ H (.refl s) rfl⟩
 ·cases hf
mutual
noncomputable def eqW:W->W->Option Bool
 |.non,.non=>some true
 |.non,.bl _=>some false|.non,.int _=>some false|.non,.str _=>some false|.non,.tup _=>some false|.non,.lst _=>some false
 |.bl a,.bl b=>some (a==b)
 |.bl a,.int b=>some ((if a then 1 else 0)==b)
 |.bl _,.non=>some false|.bl _,.str _=>some false|.bl _,.tup _=>some false|.bl _,.lst _=>some false
 |.int a,.int b=>some (a==b)
 |.int a,.bl b=>some (a==(if b then 1 else 0))
 |.int _,.non=>some false|.int _,.str _=>some false|.int _,.tup _=>some false|.int _,.lst _=>some false
 |.str a,.str b=>some (a==b)
 |.str _,.non=>some false|.str _,.bl _=>some false|.str _,.int _=>some false|.str _,.tup _=>some false|.str _,.lst _=>some false
 |.tup _,.non=>some false|.tup _,.bl _=>some false|.tup _,.int _=>some false|.tup _,.str _=>some false|.tup _,.lst _=>some false
 |.lst _,.non=>some false|.lst _,.bl _=>some false|.lst _,.int _=>some false|.lst _,.str _=>some false|.lst _,.tup _=>some false
 |.tup xs,.tup ys=>eqWs xs ys
 |.lst xs,.lst ys=>eqWs xs ys
 |.exc _,_=>none
 |_,.exc _=>none
 |.dic _,_=>none
 |_,.dic _=>none
 |.dw _ _ _ _,_=>none
 |.fn _ _ _,_=>none
 |_,.dw _ _ _ _=>none
 |_,.fn _ _ _=>none
noncomputable def eqWs:List W->List W->Option Bool
 |[],[]=>some true
 |[],_::_=>some false
 |_::_,[]=>some false
 |x::xs,y::ys=>match eqW x y,eqWs xs ys with
  |some a,some b=>some (a&&b)
  |_,_=>none
end
noncomputable def ixW:W->W->Option W
 |.tup ws,.int i=>atI ws i
 |.lst ws,.int i=>atI ws i
 |.str z,.int i=>if z.length<=16777216 then(atI z.cps.toList i).map fun c=>.str ⟨#[c]⟩else none
 |_,_=>none
theorem Reps.atI{i:Int}(r:Reps K G ws xs)(h:L2.atI ws i=some w):∃x,L2.atI xs i=some x/\Rep K G w x:=by
 unfold L2.atI at h |-
 rw[r.length];cases q:ixN ws.length i with
 |none=>rw[q]at h;cases h
 |some j=>
  rw[q]at h;exact r.get h
theorem y0n:Op2 K (rIx K) ixW:=by
 intro G H x y wx wy w Q s px py hf h;unfold ixW at hf;split at hf
 ·obtain⟨a,xs,rfl,ha,ra⟩:=px;cases py;obtain⟨v,hv,rv⟩:=ra.atI hf;exact .inr (.inl ⟨a,xs,_,v,rfl,rfl,s.tup ha,hv,h G v H (.refl s) rv⟩)
 ·obtain⟨a,xs,rfl,ha,ra⟩:=px;cases py;obtain⟨v,hv,rv⟩:=ra.atI hf;exact .inl ⟨a,xs,_,v,rfl,rfl,s.seq ha,hv,h G v H (.refl s) rv⟩
 ·cases px;cases py;split at hf
  ·rename_i hl;obtain⟨c,hc,rfl⟩:=w0g.mp hf;exact .inr (.inr ⟨_,_,c,rfl,rfl,by rw[sizeLine_eq];exact hl,hc,h G _ H (.refl s) rfl⟩)
  ·cases hf
 ·cases hf
noncomputable def S.look:S->Option W
 |.fr w=>some w
 |.own _ ws=>some (.lst ws)
 |.no=>none
 |.dic _=>none
 |.thr _ _ _=>none
 |.nest _=>none
 |.x k=>k.look
 |.dw _ _ _=>none
noncomputable def dIxV(i:Nat)(d:Den W):Den W:=fun e=>match e[i]?.bind S.look with
 |none=>.no
 |some _=>(d e).bind fun k e1=>match e1[i]?.bind S.look with
  |none=>.no
  |some w=>ofOpt (ixW w k) e1
noncomputable def lenW:W->Option W
 |.str z=>if z.length<=16777216 then some (.int z.length)else none
 |.tup ws=>some (.int ws.length)
 |.lst ws=>some (.int ws.length)
 |_=>none
noncomputable def len1:List W->Option W
 |[w]=>lenW w
 |_=>none
theorem x5g:OpN K (fun xs H Q=>∃x n,xs=[x]/\LenV K x H n/\Q (.int n) H) len1:=by
 intro G H xs ws w Q s pr hf h;unfold len1 at hf;split at hf
 ·obtain⟨x,r,rfl,px,pr⟩:=pr;cases(show r=[]from pr);unfold lenW at hf;split at hf
  ·split at hf
   ·rename_i hl;cases hf;cases px;exact⟨_,_,rfl,⟨by rw[sizeLine_eq];exact hl,rfl⟩,h G _ H (.refl s) rfl⟩
   ·cases hf
  ·cases hf;obtain⟨a,xs,rfl,ha,ra⟩:=px;exact⟨_,_,rfl,.inr ⟨xs,s.tup ha,rfl⟩,h G _ H (.refl s) (by rw[ra.length];rfl)⟩
  ·cases hf;obtain⟨a,xs,rfl,ha,ra⟩:=px;exact⟨_,_,rfl,.inl ⟨xs,s.seq ha,rfl⟩,h G _ H (.refl s) (by rw[ra.length];rfl)⟩
  ·cases hf
 ·cases hf
noncomputable def scalW:W->Bool
 |.non=>true|.bl _=>true|.int _=>true|.str _=>true|_=>false
theorem x8c(h:scalW w=true)(p:Rep K G w v):Rep K G' w v:=by
 cases w with
 |non=>exact p
 |bl b=>exact p
 |int i=>exact p
 |str x=>exact p
 |_=>cases h
noncomputable def dFnV(i:Nat)(f:List W->Option W):Den W:=fun e=>match e[i]?.bind S.look with
 |none=>.no
 |some w=>match f [w]with
  |none=>.no
  |some v=>match e[i]? with
   |some (.fr _)=>.ok v e
   |_=>if scalW v=true then .ok v e else .no
section
variable{a b e:Expr}{p:Pos}
theorem q0i(ha:DE Z X EE a d)(hb:DE Z X EE b db)(hs:PlainIx b:=by intro _ _;rfl):DE Z X EE (.Subscript a b pos) (dOp ixW d db):=PE.mono (q6v x43 ha hb hs) (q4w y0n)
theorem Rel.look{e:List S}(r:Rel K Z G σ H e)(h:e[i]?.bind S.look=some w):∃v,σ[i]?=some (some v) /\
  (Rep K G w v\/∃ws a xs u,(∀z,e[i]?≠some (.fr z))/\w=.lst ws/\v=.ref a/\H a=some u/\(u=.lst xs\/∃o,u=.frz o (.lst xs))/\G a=none/\Reps K G ws xs):=by
 obtain⟨s,h1,h2⟩:=w1e.mp h;cases s with
 |no=>cases h2
 |dic _=>cases h2
 |thr _ _ _=>cases h2
 |nest _=>cases h2
 |dw _ _ _=>cases h2
 |fr w'=>
  cases h2;obtain⟨v,h3,h4⟩:=r.fr h1;exact⟨v,h3,.inl h4⟩
 |x k=>
  have q:=r.slot i _ h1;cases k with
  |old w'=>cases h2;obtain⟨v,h1',h3⟩:=r.plain h1 rfl;exact⟨v,h1',.inl h3⟩
  |new w'=>cases h2;obtain⟨v,h1',h3⟩:=r.plain h1 rfl;exact⟨v,h1',.inl h3⟩
  |acc ws=>cases h2;obtain⟨a,o,xs,k1,⟨k2,k3,_⟩,k5⟩:=q;exact⟨.ref a,r.at h1 fun _=>k1,.inr ⟨ws,a,xs,_,(fun z y=>by rw[h1]at y;cases y),rfl,rfl,k2,.inr ⟨o,rfl⟩,k3,RepNs.reps _ k5⟩⟩
  |_=>cases h2
 |own b ws=>
  cases h2;obtain⟨a,xs,h3,h4,h5,h6,h7⟩:=r.own h1;exact⟨.ref a,h3,.inr ⟨ws,a,xs,_,(fun z y=>by rw[h1]at y;cases y),rfl,rfl,h4,.inl rfl,h5,h7⟩⟩
theorem x5h{K:PySem.W.Frag}{a:Addr}{u:HO}(s:Same G H)(h:H a=some u)(hg:G a=none):Same G (upd G a u)/\Same (upd G a u) H:=
 ⟨q2i hg _,fun c o z=>by
  by_cases hc:c=a
  ·subst hc;rw[q0f]at z;cases z;exact h
  ·rw[q0c hc]at z;exact s c o z⟩
theorem x5i(i:Nat)(hb:DE Z X EE b d)(hN:X.N[i]?=some x:=by rfl)(hv:Vis X.env.scope x:=by walk_at "1")(hd:(x==("__debug__":Str))=false:=by decide)
  (hcd:(x==("__classdict__":Str))=false:=by decide)(hs:PlainIx b:=by intro _ _;rfl):DE Z X EE (.Subscript (.Name x p) b pos) (dIxV i d):=by
 refine PE.mono (q6v x43 (pv i hN hv hd hcd) hb hs) ?_;rintro σ H Q ⟨G,e,rel,h⟩;unfold dIxV at h;split at h
 ·exact h.elim
 ·rename_i w0 hw0;obtain⟨v,hv,_⟩:=rel.look hw0;refine⟨v,hv,G,e,rel,(R.holds_bind.mp h).imp (fun k e1 h G1 u H1 r1 s1 p1=>?_) fun _ _ h=>h⟩
  split at h
  ·exact h.elim
  ·rename_i w hw;obtain⟨w',hf,h2⟩:=ofOpt_holds.mp h;obtain⟨v',hv',q⟩:=r1.look hw;rw[hv]at hv';cases hv';rcases q with q|⟨ws,a,xs,u,he,rfl,rfl,q1,qu,q2,q3⟩
   ·exact y0n G1 H1 v u w k w' Q r1.sub q p1 hf fun G' v H' g p=>h2 G' v H' (r1.grow g) (s1.trans g.gg) p
   ·-- an item of one's own list
    unfold ixW at hf;split at hf
    ·rename_i heq;cases heq
    ·rename_i heq;cases heq;cases p1;obtain⟨y,hy,ry⟩:=q3.atI hf;refine .inl ⟨a,xs,_,y,rfl,rfl,?_,hy,h2 G1 y H1 r1 s1 ry⟩;rcases qu with rfl|⟨o,rfl⟩
     ·exact SqL.of q1
     ·exact .inl (.inr ⟨o,q1⟩)
    ·rename_i heq;cases heq
    ·cases hf
theorem y5i{r:List V->Hp->VK->Prop}(i:Nat){id:String}{fn:Str}(hc:CallR X (.builtin id) r)(hf:OpN X.K r f)(hv:bootBuiltins fn=some (.builtin id))(hm:X.mg fn=none)
  (hN:X.N[i]?=some x:=by rfl)(hvis:Vis X.env.scope x:=by walk_at "1")(hd:(x==("__debug__":Str))=false:=by decide)(hcd:(x==("__classdict__":Str))=false:=by decide)
  (hg:Gl X fn:=by rfl)(hn:fn≠"__name__":=by decide)(hdb:(fn==("__debug__":Str))=false:=by decide)(hs:starEach [.Name x p] X.env=(false,eval (.Name x p) X.env)::starEach [] X.env:=by rfl)(hpl:(backTo pos (starEach [] X.env)).any (·.1)=false:=by rfl):
  DE Z X EE (.Call (.Name fn pn) [.Name x p] [] pos) (dFnV i f):=by
 refine PE.mono (q7e hc hg hm hv (q3p (pv i hN hvis hd hcd) q6a hs) hn hdb hs hpl) ?_;rintro σ H Q ⟨G,e,rel,h⟩;unfold dFnV at h;split at h
 ·exact h.elim
 ·rename_i w hw;split at h
  ·exact h.elim
  ·rename_i y hy;obtain⟨v,hv,q⟩:=rel.look hw;refine⟨v,hv,?_⟩;rcases q with q|⟨ws,a,xs,u,he,rfl,rfl,q1,qu,q2,q3⟩
   ·refine hf G H [v] [w] y Q rel.sub (.one q) hy fun G' v H' g p=>?_
    split at h
    ·exact h G' v H' (rel.grow g) g.gg p
    ·split at h
     ·exact h G' v H' (rel.grow g) g.gg p
     ·exact h.elim
   ·split at h
    ·rename_i hz;exact absurd hz (he _)
    split at h
    ·rename_i hsc;obtain⟨s1,s2⟩:=x5h (K:=X.K) rel.sub q1 q2
     have hsq:SqL X.K (upd G a u) a xs:=by
      rcases qu with rfl|⟨o,rfl⟩
      ·exact SqL.of q0f
      ·exact .inl (.inr ⟨o,q0f⟩)
     refine hf (upd G a u) H [.ref a] [.lst ws] y Q s2 (.one ⟨a,xs,rfl,hsq,Reps.mono s1 ws q3⟩) hy fun G' v H' g p=>?_
     have g':Grow G H G H':=⟨g.hh,.refl _,rel.sub.trans g.hh,fun _ _=>rfl⟩
     exact(show ∀G' v H',_->_->Rep X.K G' y v->Q v H' from h) G v H' (rel.grow g') (.refl _) (x8c hsc p)
    ·exact h.elim
noncomputable def dApp(i:Nat)(d:Den (List W)):List S->SR:=fun e=>match e[i]? with
 |some (.own _ _)=>(d e).stm fun ws e1=>match ws,e1[i]? with
  |[w],some (.own b xs)=>if xs.length<16777216 then .nx (e1.set i (.own b (xs++[w])))else .no
  |_,_=>.no
 |_=>.no
theorem q4k(i:Nat){apos cpos:Pos}(ha:DA Z X EE (e::es) dA)(hN:X.N[i]?=some x:=by rfl)(hv:Vis X.env.scope x:=by walk_at "1")(hd:(x==("__debug__":Str))=false:=by decide)(hcd:(x==("__classdict__":Str))=false:=by decide)
  (hbase:attributeBase (.Name x p) "append" X.env (eval (.Name x p) X.env)=eval (.Name x p) X.env:=by rfl)
  (hfew:((backTo cpos (starEach (e::es) X.env)).all (fun x=>!x.1)&&(backToKw cpos (keywordEach [] X.env)).all (fun x=>x.1.isSome)&&decide ((e::es).length+([]:List Keyword).length+(if([]:List Keyword).isEmpty then 0 else 1)<30))=true:=by rfl)
  (hline:(apos.endLine==cpos.line)=true:=by rfl)(hs:starEach (e::es) X.env=(false,eval e X.env)::starEach es X.env:=by rfl)(hplain:(backTo cpos (starEach es X.env)).any (·.1)=false:=by rfl)
  (hsw:swapsWith (.Call (.Attribute (.Name x p) "append" apos) (e::es) [] cpos) none pos.line X.env=pure false:=by rfl):
  DS Z X EE (.Expr (.Call (.Attribute (.Name x p) "append" apos) (e::es) [] cpos) pos) (dApp i dA):=by
 refine PS.mono (q6u (y49 (pv i hN hv hd hcd) ha hbase hfew hline hs hplain) hsw) ?_;rintro D σ H ⟨G,e,rel,h⟩;unfold dApp at h;split at h
 ·rename_i b0 ws0 he0;obtain⟨a,xs,h1,h2,h3,h4,h5⟩:=rel.own he0;refine⟨.ref a,h1,.inl ⟨rfl,xs,SqL.of h2⟩,G,e,rel,(q02 h).imp (fun ws e1 h G1 vs H1 r1 s1 p1=>?_) fun _ _ h=>h⟩
  split at h
  ·rename_i w b ys he1;obtain⟨a',zs,g1,g2,g3,g4,g5⟩:=r1.own he1;rw[h1]at g1;cases g1;obtain⟨y,r,rfl,py,pr⟩:=p1;cases(show r=[]from pr);split at h
   ·rename_i hl;refine⟨a,zs,y,rfl,rfl,g2,by rw[g5.length,sizeLine_eq];exact hl,?_⟩;exact h G1 σ _ (r1.mut he1 h1 (g5.append (.one py))) s1
   ·exact h.elim
  ·exact h.elim
 ·exact h.elim
end
noncomputable def compD(c:Den Bool)(d:Den W)(pe:List S):List W->Option (List W)
 |[]=>some []
 |w::ws=>match c (.fr w::pe)with
  |.ok true e1=>match d e1 with
   |.ok y _=>(compD c d pe ws).map (y::·)
   |_=>none
  |.ok false _=>compD c d pe ws
  |_=>none
noncomputable def frz1(e:List S)(j:Nat):List S:=match e[j]? with
 |some (.own none ws)=>e.set j (.fr (.lst ws))
 |_=>e
noncomputable def frzs(js:List Nat)(e:List S):List S:=js.foldl frz1 e
noncomputable def pj1(e:List S)(j:Nat):S:=match e[j]? with
 |some (.fr w)=>.fr w
 |_=>.no
noncomputable def pjS(js:List Nat)(e:List S):List S:=js.map (pj1 e)
noncomputable def compK(js:List Nat)(c:Den Bool)(d:Den W)(ws:List W)(e1:List S):R (List W):=
 if ws.length<=16777216 then(match compD c d (pjS js (frzs js e1)) ws with
  |some out=>.ok out (frzs js e1)
  |none=>.no)else .no
noncomputable def dComp(js:List Nat)(di:Den W)(c:Den Bool)(d:Den W):Den (List W):=fun e=>(di e).bind fun w e1=>match seqW w with
 |some ws=>compK js c d ws e1
 |none=>.no
noncomputable def dCompR(g:List W->Option (List W))(js:List Nat)(di:Den (List W))(c:Den Bool)(d:Den W):Den (List W):=fun e=>(di e).bind fun w e1=>match g w with
 |some ws=>compK js c d ws e1
 |none=>.no
noncomputable def dYes:Den Bool:=fun e=>.ok true e
section
variable{H1:Hp}{e1:List S}
theorem Rel.frzs(r:Rel K Z G σ H e):∀(js:List Nat),∃G',Same G G'/\Rel K Z G' σ H (frzs js e):=by
 intro js
 induction js generalizing G e with
 |nil=>exact⟨G,.refl _,r⟩
 |cons j js ih=>
  have one:∃G',Same G G'/\Rel K Z G' σ H (frz1 e j):=by
   unfold frz1;split
   ·rename_i ws hw;obtain⟨v,G',_,s,_,r'⟩:=r.freeze hw;exact⟨G',s,r'⟩
   ·exact⟨G,.refl _,r⟩
  obtain⟨G1,s1,r1⟩:=one;obtain⟨G2,s2,r2⟩:=ih r1;exact⟨G2,s1.trans s2,r2⟩
theorem Rel.block(r:Rel K Z G σ H e)(js:List Nat){x:V}(p:Rep K G w x):Rel K ⟨H,G,[]⟩ G (some x::pj js σ) H (.fr w::pjS js e):=by
 have hfr:∀(i:Nat)(s:S),(S.fr w::pjS js e)[i]?=some s->s=.no\/∃u,s=.fr u/\((i=0/\u=w)\/∃k j,i=k+1/\js[k]?=some j/\e[j]?=some (.fr u)):=fun i s h=>by
  cases i with
  |zero=>cases h;exact .inr ⟨w,rfl,.inl ⟨rfl,rfl⟩⟩
  |succ k=>
   rw[w0z]at h;unfold pjS at h;rw[w0n]at h;obtain⟨j,h1,h2⟩:=w0g.mp h;unfold pj1 at h2;split at h2
   ·rename_i u hu;subst h2;exact .inr ⟨u,rfl,.inr ⟨k,j,rfl,h1,hu⟩⟩
   ·subst h2;exact .inl rfl
 refine⟨r.sub,fun i s h=>?_,?_,fun i j b b' w1 w2 a h1 h2 _ _=>?_,fun a o h _=>h,(fun a h=>nomatch h),fun a _=>rfl⟩
 ·rcases hfr i s h with rfl|⟨u,rfl,⟨rfl,rfl⟩|⟨k,j,rfl,h1,h2⟩⟩
  ·trivial
  ·exact⟨x,rfl,p⟩
  ·obtain⟨v,h3,h4⟩:=r.fr h2;refine⟨v,?_,h4⟩;rw[w0z];unfold pj;rw[w0n,h1];simp[h3]
 ·simp[pjS,pj]
 ·rcases hfr i _ h1 with z|⟨u,z,_⟩<;>cases z
theorem Rel.mutFree(r:Rel K Z G σ H e){o:HO}(hg:G a=none)(hz:Z.H a=none)(hi:a∉Z.io)(hf:Free σ e a){ls:List V}(hls:H a=some (.lst ls)):Rel K Z G σ (upd H a o) e:=by
 refine⟨fun c u z=>?_,fun j s z=>?_,r.len,r.dis,fun c u z n=>?_,fun c z=>?_,r.gen⟩
 ·rw[q0c (q0k z hg)];exact r.sub c u z
 ·have y:=r.slot j s z;cases s with
  |no=>trivial
  |fr w=>exact y
  |own b2 w2=>
   obtain⟨c,ys,y1,y2,y3,y4,y5⟩:=y;refine⟨c,ys,y1,?_,y3,y4,y5⟩;rw[q0c];exact y2;rintro rfl;obtain⟨c',_,z1,_⟩:=r.own z;rw[z1]at y1;cases y1;exact hf j b2 w2 z z1
  |dic kvs=>
   obtain⟨c,y1,y2,y3,y4⟩:=y;refine⟨c,y1,?_,y3,y4⟩;rw[q0c (q0q y2 hls (q4e rfl))];exact y2
  |thr us w2 vs=>
   obtain⟨t,l,o,xs2,ys,zs,y1,y2,y3,y4,y5,y6⟩:=y;refine⟨t,l,o,xs2,ys,zs,y1,y2,?_,y4,y5,y6⟩;rw[q0c (q0q y3 hls (fun z=>nomatch z))];exact y3
  |nest wss=>exact NestOk.move y (.refl _) fun l o ys k1 k2 k3=>⟨by rw[q0c (q0q k1 hls (fun z=>nomatch z))];exact k1,k2,k3⟩
  |x k=>exact XOk.move y (.refl _) fun l o ys k1 k2 k3=>⟨by rw[q0c (q0q k1 hls (fun z=>nomatch z))];exact k1,k2,k3⟩
  |dw sh ks ws=>exact DwOk.move y (.refl _) fun l o ys k1 k2 k3=>⟨by rw[q0c (q0q k1 hls (fun z=>nomatch z))];exact k1,k2,k3⟩
 ·rw[q0c (q0k z hz)];exact r.ent c u z n
 ·by_cases hc:c=a
  ·subst hc;exact absurd z hi
  ·rw[q0c hc];exact r.ion c z
structure Walk(J:It)(xs:List V)(SQ:Hp->Prop):Prop where
 go:∀i H,SQ H->i<xs.length->J.go i H
 yld:∀i H x H',SQ H->J.yld i H x H'->i<xs.length->H'=H/\xs[i]?=some x
 stop:∀i H,SQ H->xs.length<=i->J.stop i H
theorem x07:Walk (Itl K a) xs (fun H=>SqL K H a xs):=
 ⟨fun i H q h=>⟨xs,xs[i],q,by simp[h]⟩,fun i H x H' q ⟨e,y⟩ h=>⟨e,y xs q⟩,fun i H q h=>⟨xs,q,h⟩⟩
theorem x08:Walk (Itt K a) xs (fun H=>SqT K H a xs):=
 ⟨fun i H q h=>⟨xs,xs[i],q,by simp[h]⟩,fun i H x H' q ⟨e,y⟩ h=>⟨e,y xs q⟩,fun i H q h=>⟨xs,q,h⟩⟩
theorem y5j:Walk (Itr lo n) ((List.range n).map fun k=>V.int (lo+(k:Nat))) (fun _=>True):=
 ⟨fun i H q h=>show i<n by simpa using h,fun i H x H' q ⟨e,y⟩ h=>⟨e,by simp at h;simp[h,y]⟩,fun i H q h=>show n<=i by simpa using h⟩
theorem q8w{J:It}{SQ:Hp->Prop}{out:List W}{Q:VK}{G0:Hp}(W0:Walk J xs SQ)(r1:Rel K Z G1 σ H1 e1)(s1:Same G0 G1)(rp:Reps K G1 ws xs)(hSQ:∀G' H',Same G1 G'->Same G' H'->SQ H')(hl:ws.length<=16777216)
  (hz:∀p,H1 p=none->p∉Z.io)(hc:compD c d (pjS js e1) ws=some out)
  (h:∀G' a xs H',Rel K Z G' σ H' e1->Same G0 G'->H' a=some (.lst xs)->G' a=none->Z.H a=none->Free σ e1 a->Reps K G' out xs->Q (.ref a) H'):
  ∀D,H1 D=none->∃W:Nat->Nat->Hp->Prop,(∃m,W 0 m (upd H1 D (.lst [])))/\∀i m H2,W i m H2 ->
   (J.stop i H2/\Q (.ref D) H2)\/(J.go i H2/\∀x H3,J.yld i H2 x H3->gName 0 x (List.replicate 1 none++pj js σ) H3 fun σ4 H4=>Kp (List.replicate 1 none++pj js σ) σ4/\(fun σ H Q=>∃Z',liftT K Z' (fun _=>E0) c σ H Q) σ4 H4 fun b H5=>
    if b=true then(fun σ H Q=>∃Z',AtG K Z' σ H fun G e=>(d e).holds (fun w e'=>∀G' v H',Rel K Z' G' σ H' e'->Same G G'->Rep K G' w v->Q v H') (XH K Z' (fun _=>E0) σ G)) σ4 H5 fun y H6=>∃ys,H6 D=some (.lst ys)/\ys.length<sizeLine/\∃m',m'<m/\W (i+1) m' (upd H6 D (.lst (ys++[y])))else ∃m',m'<m/\W (i+1) m' H5):=by
 intro D hD;have hlen:=rp.length
 refine⟨fun i m H2=>m=ws.length-i/\i<=ws.length/\∃G2 ys done rest,Rel K Z G2 σ H2 e1/\Same G1 G2/\H2 D=some (.lst ys)/\G2 D=none/\Reps K G2 done ys/\done.length<=i/\compD c d (pjS js e1) (ws.drop i)=some rest/\done++rest=out,
  ⟨ws.length,by omega,w1a _,G1,[],[],out,r1.grow (Grow.hid r1.sub hD _),.refl _,q0f,r1.sub.free hD,rfl,w0h _,hc,rfl⟩,?_⟩
 rintro i m H2 ⟨rfl,hi,G2,ys,done,rest,r2,s2,hd2,hg2,rp2,hdl,hc2,ho⟩;have hfree:Free σ e1 D:=q35 r1 hD;have hzh:Z.H D=none:=q20 r1 hD
 by_cases hlt:i<ws.length
 ·refine .inr ⟨W0.go i H2 (hSQ G2 H2 s2 r2.sub) (by omega),fun x H3 hy=>?_⟩
  obtain⟨rfl,hx⟩:=W0.yld i H2 x H3 (hSQ G2 H2 s2 r2.sub) hy (by omega);obtain⟨w,hw,pw⟩:=rp.getV hx;rw[q6k hw]at hc2;refine⟨Kp.one,⟨H3,G2,[]⟩,G2,.fr w::pjS js e1,r2.block js (Rep.mono s2 w pw),?_⟩;unfold compD at hc2;cases qc:c (.fr w::pjS js e1)with
  |no=>rw[qc]at hc2;cases hc2
  |ex _ _=>rw[qc]at hc2;cases hc2
  |ok k e2=>
   rw[qc]at hc2;intro G3 H5 r3 s3;have g3:=r3.toGrow s3;cases k with
   |false=>
    exact⟨ws.length-(i+1),by omega,rfl,hlt,G3,ys,done,rest,r2.grow g3,s2.trans s3,g3.hh _ _ hd2,by rw[g3.new D (by rw[hd2];simp)];exact hg2,Reps.mono s3 _ rp2,by omega,hc2,ho⟩
   |true=>
    refine⟨⟨H3,G2,[]⟩,G3,e2,r3,?_⟩;dsimp only at hc2;cases qd:d e2 with
    |no=>rw[qd]at hc2;cases hc2
    |ex _ _=>rw[qd]at hc2;cases hc2
    |ok y e3=>
     rw[qd]at hc2;intro G4 v H6 r4 s4 p4;have g4:=r4.toGrow (s3.trans s4);obtain⟨rest',hr,rfl⟩:=w0g.mp hc2;have hd6:H6 D=some (.lst ys):=g4.hh _ _ hd2;have hg6:G4 D=none:=by rw[g4.new D (by rw[hd2];simp)];exact hg2
     refine⟨ys,hd6,?_,ws.length-(i+1),by omega,rfl,hlt,G4,ys++[v],done++[y],rest',(r2.grow g4).mutFree hg6 hzh (hz D hD) hfree hd6,s2.trans (s3.trans s4),q0f,hg6,(Reps.mono (s3.trans s4) _ rp2).append (.one p4),by simp;omega,hr,by rw[w2q];exact ho⟩;rw[rp2.length,sizeLine_eq];omega
 ·have:i=ws.length:=by omega
  subst this;rw[w2j]at hc2;cases hc2;rw[w1i]at ho;subst ho;exact .inl ⟨W0.stop _ H2 (hSQ G2 H2 s2 r2.sub) (by omega),h G2 D ys H2 r2 (s1.trans s2) hd2 hg2 hzh hfree rp2⟩
end
section
variable{elt iter a b:Expr}{ifs:List Expr}{scope sc:Scope}{pt:Pos}{Nf N:List Str}{di:Den W}
def DTs(Z:Zt)(X:Cx)(EE:St->XK)(ifs:List Expr)(c:Den Bool):Prop:=PTs X ifs (liftT X.K Z EE c)
theorem q5m:DTs Z X EE [] dYes:=fun pins s σ H Q I ⟨G,e,r,h⟩=>y1e pins s σ H Q I (h G H r (.refl _))
def cT(K:PySem.W.Frag)(c:Den Bool):TT:=fun σ H Q=>∃Z',liftT K Z' (fun _=>E0) c σ H Q
def cE(K:PySem.W.Frag)(d:Den W):TE:=fun σ H Q=>∃Z',AtG K Z' σ H fun G e=>(d e).holds (fun w e'=>∀G' v H',Rel K Z' G' σ H' e'->Same G G'->Rep K G' w v->Q v H') (XH K Z' (fun _=>E0) σ G)
theorem x5j{D:Ends}{r:R (List W)}{k:W->List S->SR}(h:PostS K Z EE D G ((r.bind fun ws e'=>.ok (.lst ws) e').stm k)):r.holds (fun ws e'=>PostS K Z EE D G (k (.lst ws) e')) (XH K Z EE σ G):=by
 cases r with
 |ok a e=>exact h
 |ex c e=>exact fun G' H' r q=>h G' σ H' r q
 |no=>exact h
theorem x0p{Y:List Str}(ht:∀Z' cl C s₀ H₀ ex,DTs Z' (X.cp Y scope cl C s₀ H₀ ex) (fun _=>E0) ifs c):∀cl C s₀ H₀ ex,PTs (X.cp Y scope cl C s₀ H₀ ex) ifs (cT X.K c):=fun cl C s₀ H₀ ex pins s σ H Q I ⟨Z',h⟩=>ht Z' cl C s₀ H₀ ex pins s σ H Q I h
theorem x3z{Y:List Str}(he:∀Z' cl C s₀ H₀ ex,DE Z' (X.cp Y scope cl C s₀ H₀ ex) (fun _=>E0) elt d):∀cl C s₀ H₀ ex,PE (X.cp Y scope cl C s₀ H₀ ex) elt (cE X.K d):=fun cl C s₀ H₀ ex pins s σ H Q I ⟨Z',h⟩=>he Z' cl C s₀ H₀ ex pins s σ H Q I h
theorem ionone(r:Rel K Z G σ H e):∀p,H p=none->p∉Z.io:=fun p hp hi=>r.ion p hi hp
theorem x5k:∀σ H Q,liftF K Z EE (dComp js di c d) σ H Q->tComp (iSeq K (liftE K Z EE di)) 1 js (gName 0) (cT K c) (cE K d) σ H Q:=by
 rintro σ H Q ⟨G,e,rel,h⟩;simp only[dComp,R.holds_bind]at h;refine⟨G,e,rel,h.imp (fun w e1 h G1 v1 H1 r1 s1 p1=>?_) fun _ _ h=>h⟩
 split at h
 ·rename_i ws hw;unfold compK at h;split at h
  ·rename_i hl;split at h
   ·rename_i out ho;obtain⟨G2,s2,r2⟩:=r1.frzs js;have p2:=Rep.mono s2 w p1;have io:=ionone r2;cases w with
    |tup us=>
     cases hw;obtain⟨a,xs,rfl,hq,rp⟩:=p2;exact⟨a,rfl,.inr ⟨⟨xs,r2.sub.tup hq⟩,q8w x08 r2 (s1.trans s2) rp (fun G' H' s s'=>Same.tup s' (Same.tup s hq)) hl io ho h⟩⟩
    |lst us=>
     cases hw;obtain⟨a,xs,rfl,hq,rp⟩:=p2;exact⟨a,rfl,.inl ⟨⟨xs,r2.sub.seq hq⟩,q8w x07 r2 (s1.trans s2) rp (fun G' H' s s'=>Same.seq s' (Same.seq s hq)) hl io ho h⟩⟩
    |_=>cases hw
   ·exact h.elim
  ·exact h.elim
 ·exact h.elim
theorem y1q(hc:X.calm=true)(hi:DE Z X EE iter di)(ok:compOk sc scope N Nf js=true)
  (ht:∀Z' cl C s₀ H₀ ex,DTs Z' (X.cp ([x]++Nf) scope cl C s₀ H₀ ex) (fun _=>E0) ifs c)(he:∀Z' cl C s₀ H₀ ex,DE Z' (X.cp ([x]++Nf) scope cl C s₀ H₀ ex) (fun _=>E0) elt d)
  (hg:∀cl C s₀ H₀ ex,PG (X.cp ([x]++Nf) scope cl C s₀ H₀ ex) (.Name x pt) (gName 0))
  (hsc:X.env.scope=sc:=by rfl)(hN:X.N=N:=by rfl)(hs:∀x,foldedSetIterable iter X.env x=pure x:=by intro _;rfl):
  DF Z X EE (.ListComp elt [⟨.Name x pt,iter,ifs,0⟩] scope pos) (dComp js di c d):=by
 exact PE.mono (x02 (Nl:=[x]) (tc:=cT X.K c) (te:=cE X.K d) hc (q77 hi) ok hg (x0p ht) (x3z he) hsc hN hs) x5k
theorem x30:∀σ H Q,liftF K Z EE (dCompR rng1 js dA c d) σ H Q->tComp (iRng1 (liftA K Z EE dA)) 1 js (gName 0) (cT K c) (cE K d) σ H Q:=by
 rintro σ H Q ⟨G,e,rel,h⟩;simp only[dCompR,R.holds_bind]at h;refine⟨G,e,rel,h.imp (fun ws e1 h G1 vs H1 r1 s1 p1=>?_) fun _ _ h=>h⟩
 unfold rng1 at h;split at h
 ·rename_i us hh;split at hh
  ·rename_i j;split at hh
   ·rename_i hj;cases hh;obtain⟨y,r,rfl,e1,e2⟩:=p1;cases(show y=V.int j from e1);cases(show r=[]from e2);refine⟨j,rfl,(q6i hj).1,(q6i hj).2,?_⟩;unfold compK at h;split at h
    ·rename_i hl;split at h
     ·rename_i out ho;obtain⟨G2,s2,r2⟩:=r1.frzs js;have z:=q8w (J:=Itr 0 (j-0).toNat) y5j r2 (s1.trans s2) (q78 (lo:=0) (hi:=j)) (fun _ _ _ _=>trivial) hl (ionone r2) ho h
      rwa [Int.sub_zero]at z
     ·exact h.elim
    ·exact h.elim
   ·cases hh
  ·cases hh
 ·exact h.elim
theorem x2d(i:Nat){py spos:Pos}(hNd:X.N.Nodup)(hc:X.calm=true)(hm:X.mg "range"=none)(ha:DA Z X EE [a] dA)(ok:compOk sc scope N Nf js=true)
  (ht:∀Z' cl C s₀ H₀ ex,DTs Z' (X.cp ([x]++Nf) scope cl C s₀ H₀ ex) (fun _=>E0) ifs c)(he:∀Z' cl C s₀ H₀ ex,DE Z' (X.cp ([x]++Nf) scope cl C s₀ H₀ ex) (fun _=>E0) elt d)
  (hg:∀cl C s₀ H₀ ex,PG (X.cp ([x]++Nf) scope cl C s₀ H₀ ex) (.Name x pt) (gName 0))
  (hgr:Gl X "range":=by rfl)(hs1:starEach [a] X.env=[(false,eval a X.env)]:=by rfl)(hsc:X.env.scope=sc:=by rfl)(hN:X.N=N:=by rfl)(hs:∀x,foldedSetIterable (.Call (.Name "range" p1) [a] [] p2) X.env x=pure x:=by intro _;rfl)(hiy:X.N[i]?=some y:=by rfl)(hxy:Loc X.env.scope y:=by walk_at "3")(hfy:X.fn y=true\/X.env.scope.names.lookup y=some .local:=by walk_at "2")(hsw:swapsWith (.ListComp elt [⟨.Name x pt,.Call (.Name "range" p1) [a] [] p2,ifs,0⟩] scope pos) (some (.Name y py)) spos.line X.env=pure true:=by rfl):
  DS Z X EE (.Assign [.Name y py] (.ListComp elt [⟨.Name x pt,.Call (.Name "range" p1) [a] [] p2,ifs,0⟩] scope pos) spos) (dSet i (dFz (dCompR rng1 js dA c d))):=by
 refine PS.mono (q9r (Nl:=[x]) (tc:=cT X.K c) (te:=cE X.K d) hc (q9f hgr hm ha hs1) ok hg (x0p ht) (x3z he) (q3r i hNd hiy hxy hfy) hsw hsc hN hs) ?_;rintro D σ H ⟨G,e,rel,h⟩;refine x30 σ H _ ⟨G,e,rel,?_⟩;refine(x5j h).imp (fun w e1 h G1 a xs H1 r1 s1 q1 q2 q3 q4 p1=>?_) fun _ _ h=>h
 obtain⟨sg,rg⟩:=r1.seen q1 q2 q3 q4;exact h _ _ H1 (rg.set (v:=.ref a) ⟨a,xs,rfl,SqL.of q0f,Reps.mono sg w p1⟩) (s1.trans sg)
end
mutual
noncomputable def depW:W->Nat
 |.tup ws=>depWs ws+1
 |.lst ws=>depWs ws+1
 |_=>0
noncomputable def depWs:List W->Nat
 |[]=>0
 |w::ws=>max (depW w) (depWs ws)
end
mutual
theorem q8x(I:Inv X pins σ H s)(sg:Same G H):∀(w:W){w':W}{v:V}{k:Bool},Rep X.K G w v->Rep X.K G w' v->eqW w w'=some k->k=true
 |.non,w',v,k,h,h',e=>by
  cases(show v=.non from h);cases w'<;>first|(cases e;done)|(cases h';cases e;rfl)|(exfalso;obtain⟨_,_,z,_⟩:=h';first|done|cases z)|(exfalso;obtain⟨_,z,_⟩:=h';first|done|cases z)
 |.bl b,w',v,k,h,h',e=>by
  cases(show v=.bl b from h);cases w'<;>first|(cases e;done)|(cases h';cases e;exact beq_self_eq_true _)|(exfalso;obtain⟨_,_,z,_⟩:=h';first|done|cases z)|(exfalso;obtain⟨_,z,_⟩:=h';first|done|cases z)
 |.int b,w',v,k,h,h',e=>by
  cases(show v=.int b from h);cases w'<;>first|(cases e;done)|(cases h';cases e;exact beq_self_eq_true _)|(exfalso;obtain⟨_,_,z,_⟩:=h';first|done|cases z)|(exfalso;obtain⟨_,z,_⟩:=h';first|done|cases z)
 |.str b,w',v,k,h,h',e=>by
  cases(show v=.str b from h);cases w'<;>first|(cases e;done)|(cases h';cases e;exact beq_self_eq_true _)|(exfalso;obtain⟨_,_,z,_⟩:=h';first|done|cases z)|(exfalso;obtain⟨_,z,_⟩:=h';first|done|cases z)
 |.tup ws,w',v,k,h,h',e=>by
  obtain⟨a,xs,rfl,q,r⟩:=h;cases w' with
  |tup ws'=>
   obtain⟨a',xs',z,q',r'⟩:=h';cases z;have:=I.tuple_inj (sg.tup q) (sg.tup q');subst this;exact q7h I sg ws r r' (e)
  |lst ws'=>
   obtain⟨a',xs',z,q',r'⟩:=h';cases z;obtain⟨its,_,p1,_⟩:=I.tuple (sg.tup q);obtain⟨its2,_,p2,_⟩:=I.list (sg.seq q');exact absurd rfl (SeqAt.ne_of_list_tuple p2.isList (show s.heap.IsTuple a _ from p1))
  |non=>cases h'
  |bl _=>cases h'
  |int _=>cases h'
  |str _=>cases h'
  |exc _=>cases e
  |dic _=>cases e
  |dw _ _ _ _=>cases e
  |fn _ _ _=>cases e
 |.lst ws,w',v,k,h,h',e=>by
  obtain⟨a,xs,rfl,q,r⟩:=h;cases w' with
  |lst ws'=>
   obtain⟨a',xs',z,q',r'⟩:=h';cases z;have:=I.list_inj (sg.seq q) (sg.seq q');subst this;exact q7h I sg ws r r' (e)
  |tup ws'=>
   obtain⟨a',xs',z,q',r'⟩:=h';cases z;obtain⟨its,_,p1,_⟩:=I.tuple (sg.tup q');obtain⟨its2,_,p2,_⟩:=I.list (sg.seq q);exact absurd rfl (SeqAt.ne_of_list_tuple p2.isList (show s.heap.IsTuple a _ from p1))
  |non=>cases h'
  |bl _=>cases h'
  |int _=>cases h'
  |str _=>cases h'
  |exc _=>cases e
  |dic _=>cases e
  |dw _ _ _ _=>cases e
  |fn _ _ _=>cases e
 |.exc c,w',v,k,h,h',e=>by cases w'<;>cases e
 |.dic c,w',v,k,h,h',e=>by cases w'<;>cases e
 |.dw _ _ _ _,w',v,k,h,h',e=>by cases w'<;>cases e
 |.fn _ _ _,w',v,k,h,h',e=>by cases w'<;>cases e
theorem q7h(I:Inv X pins σ H s)(sg:Same G H):∀(ws:List W){ws':List W}{vs:List V}{k:Bool},Reps X.K G ws vs->Reps X.K G ws' vs->eqWs ws ws'=some k->k=true
 |[],ws',vs,k,h,h',e=>by
  cases h;cases ws' with
  |nil=>cases e;rfl
  |cons _ _=>obtain⟨_,_,z,_⟩:=h';cases z
 |w::ws,ws',vs,k,h,h',e=>by
  obtain⟨x,r,rfl,h1,h2⟩:=h;cases ws' with
  |nil=>cases h'
  |cons w' ws'=>
   obtain⟨x',r',z,h1',h2'⟩:=h';cases z;have e:(match eqW w w',eqWs ws ws' with|some a,some b=>some (a&&b)|_,_=>none)=some k:=e;cases q1:eqW w w' with
   |none=>rw[q1]at e;cases e
   |some b1=>
    cases q2:eqWs ws ws' with
    |none=>rw[q1,q2]at e;cases e
    |some b2=>
     rw[q1,q2]at e;rw[q8x I sg w h1 h1' q1,q7h I sg ws h2 h2' q2]at e;cases e;rfl
end
theorem q38:∀{xs ys:List W}{b:Bool},eqWs xs ys=some b->(∀(j:Nat) x y,xs[j]?=some x->ys[j]?=some y->∃k,eqW x y=some k)/\b=((List.range (min xs.length ys.length)).all (fun j=>((eqW (xs.getD j .non) (ys.getD j .non)).getD false))&&xs.length==ys.length):=by
 intro xs
 induction xs with
 |nil=>
  intro ys b h;refine⟨fun j x y hx=>by simp at hx,?_⟩
  cases ys<;>(cases h;simp)
 |cons x xs ih=>
  intro ys b h;cases ys with
  |nil=>refine⟨fun j x y hx hy=>by simp at hy,?_⟩;cases h;simp
  |cons y ys=>
   have h:(match eqW x y,eqWs xs ys with|some a,some b=>some (a&&b)|_,_=>none)=some b:=h;cases q1:eqW x y with
   |none=>rw[q1]at h;cases h
   |some b1=>
    cases q2:eqWs xs ys with
    |none=>rw[q1,q2]at h;cases h
    |some b2=>
     rw[q1,q2]at h;cases h;obtain⟨h1,h2⟩:=ih q2;refine⟨fun j x' y' hx hy=>?_,?_⟩
     ·cases j with
      |zero=>simp at hx hy;subst hx hy;exact⟨_,q1⟩
      |succ j=>exact h1 j x' y' (by simpa using hx) (by simpa using hy)
     ·rw[h2];simp only[w0x,Nat.succ_min_succ,List.range_succ_eq_map,List.all_cons,List.all_map]
      have e0:(eqW ((x::xs).getD 0 .non) ((y::ys).getD 0 .non)).getD false=b1:=by
       show(eqW x y).getD false=b1;rw[q1];rfl
      rw[e0,Bool.and_assoc];congr 1;congr 1;simp
theorem q6l:∀{xs:List W}{j:Nat}{x:W},xs[j]?=some x->depW x<=depWs xs
 |[],_,_,h=>by simp at h
 |y::ys,0,x,h=>by simp at h;subst h;simp only[depWs];omega
 |y::ys,j+1,x,h=>by
  have:=q6l (xs:=ys) (j:=j) (by simpa using h);simp only[depWs];omega
theorem q6y{xs:List α}{j:Nat}{x d:α}(h:xs[j]?=some x):xs.getD j d=x:=by
 simp[List.getD,h]
theorem x09(I:Inv X pins σ H s)(sg:Same G H){b:Bool}(hu:A.units<cLine)(n1:∀ws,w=.tup ws->∀ws',w'≠.tup ws')(n2:∀ws,w=.lst ws->∀ws',w'≠.lst ws')(h:Rep X.K G w v)(h':Rep X.K G w' v')(r:RelV v u)(r':RelV v' u')(e:eqW w w'=some b):SeqAt.RcAt A s u u' b:=by
 have tl:∀{ws:List W}{v:V}{u:Value},Rep X.K G (.lst ws) v->RelV v u->∃l items,u=.ref l/\s.heap.IsList l items:=fun h r=>by
  obtain⟨a,xs,rfl,q,_⟩:=h;cases r;obtain⟨its,_,p,_⟩:=I.list (sg.seq q);exact⟨a,_,rfl,p.isList⟩
 have tt:∀{ws:List W}{v:V}{u:Value},Rep X.K G (.tup ws) v->RelV v u->∃l items,u=.ref l/\s.heap.IsTuple l items:=fun h r=>by
  obtain⟨a,xs,rfl,q,_⟩:=h;cases r;obtain⟨its,_,p,_⟩:=I.tuple (sg.tup q);exact⟨a,_,rfl,p⟩
 have tn:∀{v:V}{u:Value},Rep X.K G .non v->RelV v u->u=.none:=fun h r=>by cases h;exact r
 have tb:∀{k:Bool}{v:V}{u:Value},Rep X.K G (.bl k) v->RelV v u->u=.bool k:=fun h r=>by cases h;exact r
 have ti:∀{k:Int}{v:V}{u:Value},Rep X.K G (.int k) v->RelV v u->∃t,u=.int k t:=fun h r=>by cases h;exact r
 have ts:∀{k:Str}{v:V}{u:Value},Rep X.K G (.str k) v->RelV v u->∃t,u=.str k t:=fun h r=>by cases h;exact r
 cases w with
 |non=>
  obtain rfl:=tn h r;cases w' with
  |non=>obtain rfl:=tn h' r';cases e;exact .none_none
  |bl k=>obtain rfl:=tb h' r';cases e;exact .none_bool k
  |int k=>obtain⟨t,rfl⟩:=ti h' r';cases e;exact .none_int k t
  |str k=>obtain⟨t,rfl⟩:=ts h' r';cases e;exact .none_str k t
  |tup k=>obtain⟨l,it,rfl,p⟩:=tt h' r';cases e;exact .none_tuple p hu
  |lst k=>obtain⟨l,it,rfl,p⟩:=tl h' r';cases e;exact .none_list p hu
  |exc k=>cases e
  |dic k=>cases e
  |dw _ _ _ _=>cases e
  |fn _ _ _=>cases e
 |bl j=>
  obtain rfl:=tb h r;cases w' with
  |non=>obtain rfl:=tn h' r';cases e;exact .bool_none j
  |bl k=>obtain rfl:=tb h' r';cases e;exact .bool_bool j k
  |int k=>obtain⟨t,rfl⟩:=ti h' r';cases e;exact .bool_int j k t
  |str k=>obtain⟨t,rfl⟩:=ts h' r';cases e;exact .bool_str j k t
  |tup k=>obtain⟨l,it,rfl,p⟩:=tt h' r';cases e;exact .bool_tuple j p hu
  |lst k=>obtain⟨l,it,rfl,p⟩:=tl h' r';cases e;exact .bool_list j p hu
  |exc k=>cases e
  |dic k=>cases e
  |dw _ _ _ _=>cases e
  |fn _ _ _=>cases e
 |int j=>
  obtain⟨t1,rfl⟩:=ti h r;cases w' with
  |non=>obtain rfl:=tn h' r';cases e;exact .int_none j t1
  |bl k=>obtain rfl:=tb h' r';cases e;exact .int_bool j t1 k
  |int k=>obtain⟨t,rfl⟩:=ti h' r';cases e;exact .int_int j t1 k t
  |str k=>obtain⟨t,rfl⟩:=ts h' r';cases e;exact .int_str j t1 k t
  |tup k=>obtain⟨l,it,rfl,p⟩:=tt h' r';cases e;exact .int_tuple j t1 p hu
  |lst k=>obtain⟨l,it,rfl,p⟩:=tl h' r';cases e;exact .int_list j t1 p hu
  |exc k=>cases e
  |dic k=>cases e
  |dw _ _ _ _=>cases e
  |fn _ _ _=>cases e
 |str j=>
  obtain⟨t1,rfl⟩:=ts h r;cases w' with
  |non=>obtain rfl:=tn h' r';cases e;exact .str_none j t1
  |bl k=>obtain rfl:=tb h' r';cases e;exact .str_bool j t1 k
  |int k=>obtain⟨t,rfl⟩:=ti h' r';cases e;exact .str_int j t1 k t
  |str k=>obtain⟨t,rfl⟩:=ts h' r';cases e;exact .str_str j t1 k t
  |tup k=>obtain⟨l,it,rfl,p⟩:=tt h' r';cases e;exact .str_tuple j t1 p hu
  |lst k=>obtain⟨l,it,rfl,p⟩:=tl h' r';cases e;exact .str_list j t1 p hu
  |exc k=>cases e
  |dic k=>cases e
  |dw _ _ _ _=>cases e
  |fn _ _ _=>cases e
 |tup j=>
  obtain⟨l1,it1,rfl,p1⟩:=tt h r;cases w' with
  |non=>obtain rfl:=tn h' r';cases e;exact .tuple_none p1 hu
  |bl k=>obtain rfl:=tb h' r';cases e;exact .tuple_bool k p1 hu
  |int k=>obtain⟨t,rfl⟩:=ti h' r';cases e;exact .tuple_int k t p1 hu
  |str k=>obtain⟨t,rfl⟩:=ts h' r';cases e;exact .tuple_str k t p1 hu
  |tup k=>exact absurd rfl (n1 j rfl k)
  |lst k=>obtain⟨l,it,rfl,p⟩:=tl h' r';cases e;exact .tuple_list p1 p hu
  |exc k=>cases e
  |dic k=>cases e
  |dw _ _ _ _=>cases e
  |fn _ _ _=>cases e
 |lst j=>
  obtain⟨l1,it1,rfl,p1⟩:=tl h r;cases w' with
  |non=>obtain rfl:=tn h' r';cases e;exact .list_none p1 hu
  |bl k=>obtain rfl:=tb h' r';cases e;exact .list_bool k p1 hu
  |int k=>obtain⟨t,rfl⟩:=ti h' r';cases e;exact .list_int k t p1 hu
  |str k=>obtain⟨t,rfl⟩:=ts h' r';cases e;exact .list_str k t p1 hu
  |lst k=>exact absurd rfl (n2 j rfl k)
  |tup k=>obtain⟨l,it,rfl,p⟩:=tt h' r';cases e;exact .list_tuple p1 p hu
  |exc k=>cases e
  |dic k=>cases e
  |dw _ _ _ _=>cases e
  |fn _ _ _=>cases e
 |exc j=>cases w'<;>cases e
 |dic j=>cases w'<;>cases e
 |dw _ _ _ _=>cases w'<;>cases e
 |fn _ _ _=>cases w'<;>cases e
theorem x20(I:Inv X pins σ H s)(sg:Same G H){b:Bool}(hd:depW w<=0)(hu:A.units<cLine)(h:Rep X.K G w v)(h':Rep X.K G w' v')(r:RelV v u)(r':RelV v' u')(e:eqW w w'=some b):SeqAt.RcAt A s u u' b:=
 x09 I sg hu (fun ws z=>by subst z;simp[depW]at hd) (fun ws z=>by subst z;simp[depW]at hd) h h' r r' e
theorem x1a(h:Rep K G w v):∀x,v≠.flt x:=fun x z=>by
 subst z;cases w with
 |tup ws=>obtain⟨_,_,z,_⟩:=h;cases z
 |lst ws=>obtain⟨_,_,z,_⟩:=h;cases z
 |exc c=>obtain⟨_,z,_⟩:=h;cases z
 |dic c=>obtain⟨_,z,_⟩:=h;cases z
 |dw _ _ _ _=>obtain⟨_,_,_,z,_⟩:=h;cases z
 |fn _ _ _=>obtain⟨_,_,_,_,z,_⟩:=h;cases z
 |_=>cases h
theorem x1b{b:Bool}(rv:RelV v u)(hf:∀x,v≠.flt x)(h:SeqAt.RcAt A s u u' b)(hs:u=u'->b=true):SeqAt.EqAt A s u u' b:=fun prog w E Q hq=>by
 unfold eqBool;refine wpAny_holding ?_;refine wpAny_ite_split (fun hab=>?_) (fun _=>?_)
 ·have hb:=hs (eq_of_beq hab);subst hb;exact wpAny_bind (wpAny_rule (wpAny_pure hq))
 ·have z:=wpAny_bind (h prog w E (fun a s'=>wpAny (model prog w) A (truthOfDropped a) Q E s') (wpAny_truthy_bool hq))
  cases v with
  |flt x=>exact absurd rfl (hf x)
  |non=>cases rv;exact z
  |bl _=>cases rv;exact z
  |int _=>obtain⟨t,rfl⟩:=rv;exact z
  |str _=>obtain⟨t,rfl⟩:=rv;exact z
  |byt _=>obtain⟨t,rfl⟩:=rv;exact z
  |ref _=>cases rv;exact z
  |ty _=>cases rv;exact z
theorem y0o(I:Inv X pins σ H s)(sg:Same G H):∀(n:Nat){w w':W}{v v':V}{u u':Value}{b:Bool}{A:Around},depW w<=n->A.units+n<cLine->Rep X.K G w v->Rep X.K G w' v'->RelV v u->RelV v' u'->eqW w w'=some b->SeqAt.RcAt A s u u' b:=by
 intro n
 induction n with
 |zero=>
  intro w w' v v' u u' b A hd hu h h' r r' e;exact x20 I sg hd (by omega) h h' r r' e
 |succ n ih=>
  intro w w' v v' u u' b A hd hu h h' r r' e
  have items:∀{ws ws':List W}{xs xs':List V}{its its':List Value}{k:Bool},depWs ws<=n->Reps X.K G ws xs->Reps X.K G ws' xs'->Vals xs its->Vals xs' its'->eqWs ws ws'=some k ->
    ∀j (h1:j<its.toArray.size) (h2:j<its'.toArray.size),SeqAt.EqAt A.in1 s its.toArray[j] its'.toArray[j] ((eqW (ws.getD j .non) (ws'.getD j .non)).getD false):=by
   intro ws ws' xs xs' its its' k hd r1 r2 v1 v2 he j h1 h2;have l1:=r1.length;have l2:=r2.length;have m1:=v1.length;have m2:=v2.length;have i1:j<xs.length:=by rw[m1];simpa using h1
   have i2:j<xs'.length:=by rw[m2];simpa using h2
   obtain⟨u1,e1,ru1⟩:=v1.get (w0d i1);obtain⟨u2,e2,ru2⟩:=v2.get (w0d i2);obtain⟨w1,f1,p1⟩:=r1.getV (w0d i1);obtain⟨w2,f2,p2⟩:=r2.getV (w0d i2);obtain⟨b',hb'⟩:=(q38 he).1 j w1 w2 f1 f2;rw[q6y f1,q6y f2,hb']
   have g1:its.toArray[j]=u1:=by
    obtain⟨_,z⟩:=w0a.mp e1
    simpa using z
   have g2:its'.toArray[j]=u2:=by
    obtain⟨_,z⟩:=w0a.mp e2
    simpa using z
   rw[g1,g2];have hdw:depW w1<=n:=w0w (q6l f1) hd
   have hun:A.in1.units+n<cLine:=by
    have:A.in1.units=A.units+1:=rfl;omega
   refine x1b ru1 (x1a p1) (ih hdw hun p1 p2 ru1 ru2 hb') fun z=>?_
   subst z;have:=ru1.inj ru2;rw[this]at p1;exact q8x I sg w1 p1 p2 hb'
  cases w with
  |tup ws=>
   cases w' with
   |tup ws'=>
    obtain⟨a,xs,rfl,q1,r1⟩:=h;obtain⟨a',xs',rfl,q2,r2⟩:=h';cases r;cases r';obtain⟨its,v1,p1,_⟩:=I.tuple (sg.tup q1);obtain⟨its',v2,p2,_⟩:=I.tuple (sg.tup q2);have e:eqWs ws ws'=some b:=e;have z:=SeqAt.RcAt.tuples (show s.heap.IsTuple a _ from p1) (show s.heap.IsTuple a' _ from p2) (show A.units<cLine by omega) (items (by simp only[depW]at hd;omega) r1 r2 v1 v2 e);have l1:=r1.length;have l2:=r2.length;have m1:=v1.length;have m2:=v2.length;have eb:=(q38 e).2;have n1:its.length=ws.length:=by omega
    have n2:its'.length=ws'.length:=by omega
    rw[eb];simp only[w0c,n1,n2]at z;exact z
   |_=>exact x09 I sg (by omega) (by intro ws';simp) (by intro ws';simp) h h' r r' e
  |lst ws=>
   cases w' with
   |lst ws'=>
    obtain⟨a,xs,rfl,q1,r1⟩:=h;obtain⟨a',xs',rfl,q2,r2⟩:=h';cases r;cases r';obtain⟨its,v1,p1,_⟩:=I.list (sg.seq q1);obtain⟨its',v2,p2,_⟩:=I.list (sg.seq q2);have e:eqWs ws ws'=some b:=e;have l1:=r1.length;have l2:=r2.length;have m1:=v1.length;have m2:=v2.length;have eb:=(q38 e).2;have n1:its.length=ws.length:=by omega
    have n2:its'.length=ws'.length:=by omega
    by_cases hl:ws.length=ws'.length
    ·have z:=SeqAt.RcAt.lists p1.isList p2.isList (by simp only[w0c];omega) (show A.units<cLine by omega) (items (by simp only[depW]at hd;omega) r1 r2 v1 v2 e);rw[eb,hl];simp only[w0c,n1,hl,Nat.min_self,beq_self_eq_true,Bool.and_true]at z |-
     exact z
    ·have z:=SeqAt.RcAt.lists_lengths (A:=A) p1.isList p2.isList (by simp only[w0c,bne_iff_ne];omega) (show A.units<cLine by omega)
     have:b=false:=by
      rw[eb];have:(ws.length==ws'.length)=false:=by simp[hl]
      rw[this,Bool.and_false]
     rw[this];exact z
   |_=>exact x09 I sg (by omega) (by intro ws';simp) (by intro ws';simp) h h' r r' e
  |_=>exact x20 I sg (by simp[depW]) (by omega) h h' r r' e
theorem q7i(I:Inv X pins σ H s)(sg:Same G H){b:Bool}(hu:A.units<cLine)(n1:∀ws,w=.tup ws->∀ws',w'≠.tup ws')(n2:∀ws,w=.lst ws->∀ws',w'≠.lst ws')(h:Rep X.K G w v)(h':Rep X.K G w' v')(r:RelV v u)(r':RelV v' u')(e:eqW w w'=some b):SeqAt.RcNeAt A s u u' (!b):=by
 have tl:∀{ws:List W}{v:V}{u:Value},Rep X.K G (.lst ws) v->RelV v u->∃l items,u=.ref l/\s.heap.IsList l items:=fun h r=>by
  obtain⟨a,xs,rfl,q,_⟩:=h;cases r;obtain⟨its,_,p,_⟩:=I.list (sg.seq q);exact⟨a,_,rfl,p.isList⟩
 have tt:∀{ws:List W}{v:V}{u:Value},Rep X.K G (.tup ws) v->RelV v u->∃l items,u=.ref l/\s.heap.IsTuple l items:=fun h r=>by
  obtain⟨a,xs,rfl,q,_⟩:=h;cases r;obtain⟨its,_,p,_⟩:=I.tuple (sg.tup q);exact⟨a,_,rfl,p⟩
 have tn:∀{v:V}{u:Value},Rep X.K G .non v->RelV v u->u=.none:=fun h r=>by cases h;exact r
 have tb:∀{k:Bool}{v:V}{u:Value},Rep X.K G (.bl k) v->RelV v u->u=.bool k:=fun h r=>by cases h;exact r
 have ti:∀{k:Int}{v:V}{u:Value},Rep X.K G (.int k) v->RelV v u->∃t,u=.int k t:=fun h r=>by cases h;exact r
 have ts:∀{k:Str}{v:V}{u:Value},Rep X.K G (.str k) v->RelV v u->∃t,u=.str k t:=fun h r=>by cases h;exact r
 cases w with
 |non=>
  obtain rfl:=tn h r;cases w' with
  |non=>obtain rfl:=tn h' r';cases e;exact .none_none
  |bl k=>obtain rfl:=tb h' r';cases e;exact .none_bool k
  |int k=>obtain⟨t,rfl⟩:=ti h' r';cases e;exact .none_int k t
  |str k=>obtain⟨t,rfl⟩:=ts h' r';cases e;exact .none_str k t
  |tup k=>obtain⟨l,it,rfl,p⟩:=tt h' r';cases e;exact .none_tuple p hu
  |lst k=>obtain⟨l,it,rfl,p⟩:=tl h' r';cases e;exact .none_list p hu
  |exc k=>cases e
  |dic k=>cases e
  |dw _ _ _ _=>cases e
  |fn _ _ _=>cases e
 |bl j=>
  obtain rfl:=tb h r;cases w' with
  |non=>obtain rfl:=tn h' r';cases e;exact .bool_none j
  |bl k=>obtain rfl:=tb h' r';cases e;exact .bool_bool j k
  |int k=>obtain⟨t,rfl⟩:=ti h' r';cases e;exact .bool_int j k t
  |str k=>obtain⟨t,rfl⟩:=ts h' r';cases e;exact .bool_str j k t
  |tup k=>obtain⟨l,it,rfl,p⟩:=tt h' r';cases e;exact .bool_tuple j p hu
  |lst k=>obtain⟨l,it,rfl,p⟩:=tl h' r';cases e;exact .bool_list j p hu
  |exc k=>cases e
  |dic k=>cases e
  |dw _ _ _ _=>cases e
  |fn _ _ _=>cases e
 |int j=>
  obtain⟨t1,rfl⟩:=ti h r;cases w' with
  |non=>obtain rfl:=tn h' r';cases e;exact .int_none j t1
  |bl k=>obtain rfl:=tb h' r';cases e;exact .int_bool j t1 k
  |int k=>obtain⟨t,rfl⟩:=ti h' r';cases e;exact .int_int j t1 k t
  |str k=>obtain⟨t,rfl⟩:=ts h' r';cases e;exact .int_str j t1 k t
  |tup k=>obtain⟨l,it,rfl,p⟩:=tt h' r';cases e;exact .int_tuple j t1 p hu
  |lst k=>obtain⟨l,it,rfl,p⟩:=tl h' r';cases e;exact .int_list j t1 p hu
  |exc k=>cases e
  |dic k=>cases e
  |dw _ _ _ _=>cases e
  |fn _ _ _=>cases e
 |str j=>
  obtain⟨t1,rfl⟩:=ts h r;cases w' with
  |non=>obtain rfl:=tn h' r';cases e;exact .str_none j t1
  |bl k=>obtain rfl:=tb h' r';cases e;exact .str_bool j t1 k
  |int k=>obtain⟨t,rfl⟩:=ti h' r';cases e;exact .str_int j t1 k t
  |str k=>obtain⟨t,rfl⟩:=ts h' r';cases e;exact .str_str j t1 k t
  |tup k=>obtain⟨l,it,rfl,p⟩:=tt h' r';cases e;exact .str_tuple j t1 p hu
  |lst k=>obtain⟨l,it,rfl,p⟩:=tl h' r';cases e;exact .str_list j t1 p hu
  |exc k=>cases e
  |dic k=>cases e
  |dw _ _ _ _=>cases e
  |fn _ _ _=>cases e
 |tup j=>
  obtain⟨l1,it1,rfl,p1⟩:=tt h r;cases w' with
  |non=>obtain rfl:=tn h' r';cases e;exact .tuple_none p1 hu
  |bl k=>obtain rfl:=tb h' r';cases e;exact .tuple_bool k p1 hu
  |int k=>obtain⟨t,rfl⟩:=ti h' r';cases e;exact .tuple_int k t p1 hu
  |str k=>obtain⟨t,rfl⟩:=ts h' r';cases e;exact .tuple_str k t p1 hu
  |tup k=>exact absurd rfl (n1 j rfl k)
  |lst k=>obtain⟨l,it,rfl,p⟩:=tl h' r';cases e;exact .tuple_list p1 p hu
  |exc k=>cases e
  |dic k=>cases e
  |dw _ _ _ _=>cases e
  |fn _ _ _=>cases e
 |lst j=>
  obtain⟨l1,it1,rfl,p1⟩:=tl h r;cases w' with
  |non=>obtain rfl:=tn h' r';cases e;exact .list_none p1 hu
  |bl k=>obtain rfl:=tb h' r';cases e;exact .list_bool k p1 hu
  |int k=>obtain⟨t,rfl⟩:=ti h' r';cases e;exact .list_int k t p1 hu
  |str k=>obtain⟨t,rfl⟩:=ts h' r';cases e;exact .list_str k t p1 hu
  |lst k=>exact absurd rfl (n2 j rfl k)
  |tup k=>obtain⟨l,it,rfl,p⟩:=tt h' r';cases e;exact .list_tuple p1 p hu
  |exc k=>cases e
  |dic k=>cases e
  |dw _ _ _ _=>cases e
  |fn _ _ _=>cases e
 |exc j=>cases w'<;>cases e
 |dic j=>cases w'<;>cases e
 |dw _ _ _ _=>cases w'<;>cases e
 |fn _ _ _=>cases w'<;>cases e
theorem x5l(I:Inv X pins σ H s)(sg:Same G H){b:Bool}(hd:depW w<=0)(hu:A.units<cLine)(h:Rep X.K G w v)(h':Rep X.K G w' v')(r:RelV v u)(r':RelV v' u')(e:eqW w w'=some b):SeqAt.RcNeAt A s u u' (!b):=
 q7i I sg hu (fun ws z=>by subst z;simp[depW]at hd) (fun ws z=>by subst z;simp[depW]at hd) h h' r r' e
theorem x1c(I:Inv X pins σ H s)(sg:Same G H)(hu:A.units+(n+1)<cLine){ws':List W}{xs':List V}{its its':List Value}{k:Bool}(hd:depWs ws<=n)(r1:Reps X.K G ws xs)(r2:Reps X.K G ws' xs')(v1:Vals xs its)(v2:Vals xs' its')(he:eqWs ws ws'=some k):
  ∀j (h1:j<its.toArray.size) (h2:j<its'.toArray.size),SeqAt.EqAt A.in1 s its.toArray[j] its'.toArray[j] ((eqW (ws.getD j .non) (ws'.getD j .non)).getD false):=by
 intro j h1 h2;have l1:=r1.length;have l2:=r2.length;have m1:=v1.length;have m2:=v2.length;have i1:j<xs.length:=by rw[m1];simpa using h1
 have i2:j<xs'.length:=by rw[m2];simpa using h2
 obtain⟨u1,e1,ru1⟩:=v1.get (w0d i1);obtain⟨u2,e2,ru2⟩:=v2.get (w0d i2);obtain⟨w1,f1,p1⟩:=r1.getV (w0d i1);obtain⟨w2,f2,p2⟩:=r2.getV (w0d i2);obtain⟨b',hb'⟩:=(q38 he).1 j w1 w2 f1 f2;rw[q6y f1,q6y f2,hb']
 have g1:its.toArray[j]=u1:=by
  obtain⟨_,z⟩:=w0a.mp e1
  simpa using z
 have g2:its'.toArray[j]=u2:=by
  obtain⟨_,z⟩:=w0a.mp e2
  simpa using z
 rw[g1,g2];have hdw:depW w1<=n:=w0w (q6l f1) hd
 have hun:A.in1.units+n<cLine:=by
  have:A.in1.units=A.units+1:=rfl;omega
 refine x1b ru1 (x1a p1) (y0o I sg n hdw hun p1 p2 ru1 ru2 hb') fun z=>?_
 subst z;have:=ru1.inj ru2;rw[this]at p1;exact q8x I sg w1 p1 p2 hb'
theorem y1r(I:Inv X pins σ H s)(sg:Same G H)(n:Nat){b:Bool}(hd:depW w<=n+1)(hu:A.units+(n+1)<cLine)(h:Rep X.K G w v)(h':Rep X.K G w' v')(r:RelV v u)(r':RelV v' u')(e:eqW w w'=some b):SeqAt.RcNeAt A s u u' (!b):=by
 cases w with
 |tup ws=>
  cases w' with
  |tup ws'=>
   obtain⟨a,xs,rfl,q1,r1⟩:=h;obtain⟨a',xs',rfl,q2,r2⟩:=h';cases r;cases r';obtain⟨its,v1,p1,_⟩:=I.tuple (sg.tup q1);obtain⟨its',v2,p2,_⟩:=I.tuple (sg.tup q2);have e:eqWs ws ws'=some b:=e;have z:=SeqAt.RcNeAt.tuples (show s.heap.IsTuple a _ from p1) (show s.heap.IsTuple a' _ from p2) (show A.units<cLine by omega) (x1c I sg hu (by simp only[depW]at hd;omega) r1 r2 v1 v2 e);have l1:=r1.length;have l2:=r2.length;have m1:=v1.length;have m2:=v2.length;have eb:=(q38 e).2;have n1:its.length=ws.length:=by omega
   have n2:its'.length=ws'.length:=by omega
   rw[eb];simp only[w0c,n1,n2]at z;exact z
  |_=>exact q7i I sg (by omega) (by intro ws';simp) (by intro ws';simp) h h' r r' e
 |lst ws=>
  cases w' with
  |lst ws'=>
   obtain⟨a,xs,rfl,q1,r1⟩:=h;obtain⟨a',xs',rfl,q2,r2⟩:=h';cases r;cases r';obtain⟨its,v1,p1,_⟩:=I.list (sg.seq q1);obtain⟨its',v2,p2,_⟩:=I.list (sg.seq q2);have e:eqWs ws ws'=some b:=e;have l1:=r1.length;have l2:=r2.length;have m1:=v1.length;have m2:=v2.length;have eb:=(q38 e).2;have n1:its.length=ws.length:=by omega
   have n2:its'.length=ws'.length:=by omega
   by_cases hl:ws.length=ws'.length
   ·have z:=SeqAt.RcNeAt.lists p1.isList p2.isList (by simp only[w0c];omega) (show A.units<cLine by omega) (x1c I sg hu (by simp only[depW]at hd;omega) r1 r2 v1 v2 e);rw[eb,hl];simp only[w0c,n1,hl,Nat.min_self,beq_self_eq_true,Bool.and_true]at z |-
    exact z
   ·have z:=SeqAt.RcNeAt.lists_lengths (A:=A) p1.isList p2.isList (by simp only[w0c,bne_iff_ne];omega) (show A.units<cLine by omega)
    have:b=false:=by
     rw[eb];have:(ws.length==ws'.length)=false:=by simp[hl]
     rw[this,Bool.and_false]
    rw[this];exact z
  |_=>exact q7i I sg (by omega) (by intro ws';simp) (by intro ws';simp) h h' r r' e
 |_=>exact x5l I sg (by simp[depW]) (by omega) h h' r r' e
noncomputable def eq2(x y:W):Option W:=if depW x<=150 then(eqW x y).map .bl else none
def rEqD(K:PySem.W.Frag):R2:=fun x y H Q=>∃G wx wy b,Same G H/\depW wx<=150/\Rep K G wx x/\Rep K G wy y/\eqW wx wy=some b/\Q (.bl b) H
theorem x5m(hu:X.A.units+150<cLine):OpR X (compareOp .Eq) (rEqD X.K):=by
 intro pins s σ H x y v u Q I rx ry h;obtain⟨G,wx,wy,b,sg,hd,hx,hy,e,q⟩:=h;exact y0o I sg 150 hd hu hx hy rx ry e _ _ _ _ ⟨.bl b,H,I,rfl,q⟩
theorem y0p:Op2 K (rEqD K) eq2:=by
 intro G H x y wx wy w Q s px py hf h;unfold eq2 at hf;split at hf
 ·rename_i hd;obtain⟨b,hb,rfl⟩:=w0g.mp hf;exact⟨G,wx,wy,b,s,hd,px,py,hb,h G _ H (.refl s) rfl⟩
 ·cases hf
noncomputable def ne2(x y:W):Option W:=if depW x<=150 then(eqW x y).map fun b=>.bl (!b)else none
def rNeD(K:PySem.W.Frag):R2:=fun x y H Q=>∃G wx wy b,Same G H/\depW wx<=150/\Rep K G wx x/\Rep K G wy y/\eqW wx wy=some b/\Q (.bl (!b)) H
theorem y5k(hu:X.A.units+150<cLine):OpR X (compareOp .NotEq) (rNeD X.K):=by
 intro pins s σ H x y v u Q I rx ry h;obtain⟨G,wx,wy,b,sg,hd,hx,hy,e,q⟩:=h;exact y1r I sg 149 hd hu hx hy rx ry e _ _ _ _ ⟨.bl (!b),H,I,rfl,q⟩
theorem y8h:Op2 K (rNeD K) ne2:=by
 intro G H x y wx wy w Q s px py hf h;unfold ne2 at hf;split at hf
 ·rename_i hd;obtain⟨b,hb,rfl⟩:=w0g.mp hf;exact⟨G,wx,wy,b,s,hd,px,py,hb,h G _ H (.refl s) rfl⟩
 ·cases hf
noncomputable def isW:W->W->Option W
 |.non,.non=>some (.bl true)
 |_,.non=>some (.bl false)
 |.bl a,.bl b=>some (.bl (a==b))
 |_,.bl _=>some (.bl false)
 |_,_=>none
noncomputable def nisW:W->W->Option W
 |.non,.non=>some (.bl false)
 |_,.non=>some (.bl true)
 |.bl a,.bl b=>some (.bl (!(a==b)))
 |_,.bl _=>some (.bl true)
 |_,_=>none
def rNis:R2:=fun x y H Q=>(y=.non\/∃b,y=.bl b)/\Q (.bl (!decide (x=y))) H
theorem x8d{x y:V}{v:Value}(rx:RelV x v)(ry:RelV y u)(h:y=.non\/∃b,y=.bl b):plainIs v u=true/\(v==u)=decide (x=y):=by
 rcases h with rfl|⟨b,rfl⟩
 ·cases ry
  cases x<;>first
   |(cases rx;exact⟨rfl,by first|rfl|(rw[w2m];simp)⟩)
   |(obtain⟨t,rfl⟩:=rx;exact⟨rfl,by rw[w2m];simp⟩)
 ·cases ry
  cases x<;>first
   |(cases rx;exact⟨rfl,by first|rfl|(rw[w2m];simp)⟩)
   |(obtain⟨t,rfl⟩:=rx;exact⟨rfl,by rw[w2m];simp⟩)
theorem y1s:OpR X (compareOp .IsNot) rNis:=by
 intro pins s σ H x y v u Q I rx ry h;obtain⟨hy,q⟩:=h;obtain⟨h1,h2⟩:=x8d rx ry hy;exact wpAny_isNot_plain h1 (y40 I q (by rw[h2]))
theorem y5l{x y:V}{wx wy:W}(px:Rep K G wx x)(py:Rep K G wy y)(h:nisW wx wy=some w):(y=.non\/∃b,y=.bl b)/\w=.bl (!decide (x=y)):=by
 cases wy with
 |non=>
  cases(show y=.non from py);refine⟨.inl rfl,?_⟩;cases wx with
  |tup ws=>obtain⟨_,_,rfl,_⟩:=px;cases h;simp
  |lst ws=>obtain⟨_,_,rfl,_⟩:=px;cases h;simp
  |exc c=>obtain⟨_,rfl,_⟩:=px;cases h;simp
  |dic c=>obtain⟨_,rfl,_⟩:=px;cases h;simp
  |dw _ _ _ _=>obtain⟨_,_,_,rfl,_⟩:=px;cases h;simp
  |fn _ _ _=>obtain⟨_,_,_,_,rfl,_⟩:=px;cases h;simp
  |_=>cases px;cases h;simp
 |bl b=>
  cases(show y=.bl b from py);refine⟨.inr ⟨b,rfl⟩,?_⟩;cases wx with
  |tup ws=>obtain⟨_,_,rfl,_⟩:=px;cases h;simp
  |lst ws=>obtain⟨_,_,rfl,_⟩:=px;cases h;simp
  |exc c=>obtain⟨_,rfl,_⟩:=px;cases h;simp
  |dic c=>obtain⟨_,rfl,_⟩:=px;cases h;simp
  |dw _ _ _ _=>obtain⟨_,_,_,rfl,_⟩:=px;cases h;simp
  |fn _ _ _=>obtain⟨_,_,_,_,rfl,_⟩:=px;cases h;simp
  |bl k=>cases px;cases h;cases k<;>cases b<;>rfl
  |_=>cases px;cases h;simp
 |_=>cases wx<;>cases h
theorem y5m:Op2 K rNis nisW:=by
 intro G H x y wx wy w Q s px py hf h;obtain⟨h1,rfl⟩:=y5l px py hf;exact⟨h1,h G _ H (.refl s) rfl⟩
section
variable{a b c e:Expr}{p:Pos}
theorem q6m(ha:DE Z X EE a da)(hb:DE Z X EE b db):DE Z X EE (.BinOp a .Sub b pos) (dOp subW da db):=q5v y4v y5d ha hb
theorem q42(ha:DE Z X EE a da)(hb:DE Z X EE b db):DE Z X EE (.BinOp a .Mult b pos) (dOp mulW da db):=q5v y4w y5e ha hb
theorem q1o(ha:DE Z X EE a da)(hb:DE Z X EE b db):DE Z X EE (.BinOp a .FloorDiv b pos) (dOp fdivW da db):=q5v y05 y1p ha hb
theorem q0x(ha:DE Z X EE a da)(hb:DE Z X EE b db):DE Z X EE (.BinOp a .Mod b pos) (dOp modW da db):=q5v y4x y5f ha hb
theorem y5n(ha:DE Z X EE a da)(hb:DE Z X EE b db):DE Z X EE (.BinOp a .Pow b pos) (dOp powW da db):=q5v y4y y5g ha hb
theorem x1d(ha:DE Z X EE a da):DE Z X EE (.UnaryOp .USub a pos) (dUn negW da):=y8e y4z y5h ha
theorem y8i(ha:DE Z X EE a da)(hb:DE Z X EE b db):DE Z X EE (.Compare a [.Lt] [b] pos) (dOp ltW da db):=x04 y0i y0m ha hb (nomark _)
theorem y8j(ha:DE Z X EE a da)(hb:DE Z X EE b db):DE Z X EE (.Compare a [.LtE] [b] pos) (dOp leW da db):=x04 y8c y8f ha hb (nomark _)
theorem q3j(hu:X.A.units+150<cLine)(ha:DE Z X EE a da)(hb:DE Z X EE b db):DE Z X EE (.Compare a [.Eq] [b] pos) (dOp eq2 da db):=x04 (x5m hu) y0p ha hb (nomark _)
theorem x31(ha:DE Z X EE a da)(hb:DE Z X EE b db):DT Z X EE (.Compare a [.Lt] [b] pos) (dTest (dOp ltW da db)):=q6g y0i y0m ha hb (nomark _)
theorem y0q(ha:DE Z X EE a da)(hb:DE Z X EE b db):DT Z X EE (.Compare a [.Gt] [b] pos) (dTest (dOp gtW da db)):=q6g y8d y8g ha hb (nomark _)
theorem q2f(hu:X.A.units+150<cLine)(ha:DE Z X EE a da)(hb:DE Z X EE b db):DT Z X EE (.Compare a [.Eq] [b] pos) (dTest (dOp eq2 da db)):=q6g (x5m hu) y0p ha hb (nomark _)
theorem q48(hu:X.A.units+150<cLine)(ha:DE Z X EE a da)(hb:DE Z X EE b db):DT Z X EE (.Compare a [.NotEq] [b] pos) (dTest (dOp ne2 da db)):=q6g (y5k hu) y8h ha hb (nomark _)
theorem y5o(ha:DE Z X EE a da)(hb:DE Z X EE b db):DT Z X EE (.Compare a [.IsNot] [b] pos) (dTest (dOp nisW da db)):=q6g y1s y5m ha hb (nomark _)
theorem q0j(h:Room k A):A.units+150<cLine:=by have:=h.un;omega
theorem q5z(h:RoomH k A):A.units+150<cLine:=by have:=h.un;omega
noncomputable def cutW(xs:List W)(lo hi:Option Int):List W:=(xs.drop (HT.sIx xs.length 0 lo)).take (HT.sIx xs.length xs.length hi-HT.sIx xs.length 0 lo)
theorem Reps.cut(r:Reps K G ws xs)(lo hi:Option Int):Reps K G (cutW ws lo hi) (cutV xs lo hi):=by
 unfold cutW cutV;rw[r.length];exact(r.drop _).take _
def DO(Z:Zt)(X:Cx)(EE:St->XK)(e:Option Expr)(d:Den (Option Int)):Prop:=PO X e (fun σ H Q=>∃G e,Rel X.K Z G σ H e/\(d e).holds (fun o e'=>∀G' H',Rel X.K Z G' σ H' e'->Same G G'->Q o H') (XH X.K Z EE σ G))
noncomputable def dNoPart:Den (Option Int):=fun e=>.ok none e
noncomputable def dPart(d:Den W):Den (Option Int):=fun e=>(d e).bind fun w e1=>match w with
 |.int i=>.ok (some i) e1
 |_=>.no
theorem PO.mono{e:Option Expr}{t t':TO}(h:PO X e t)(i:∀σ H Q,t' σ H Q->t σ H Q):PO X e t':=fun pins s σ H Q I q=>h pins s σ H Q I (i σ H Q q)
theorem y1t:DO Z X EE none dNoPart:=PO.mono y08 fun σ H Q ⟨G,e,r,h⟩=>h G H r (.refl _)
theorem y1u(h:DE Z X EE e da):DO Z X EE (some e) (dPart da):=by
 refine PO.mono (y09 h) ?_;rintro σ H Q ⟨G,e,rel,h⟩;simp only[dPart,R.holds_bind]at h;refine⟨G,e,rel,h.imp (fun x e1 h G1 v1 H1 r1 s1 p1=>?_) fun _ _ h=>h⟩
 cases x with
 |int i=>cases(show v1=V.int i from p1);exact⟨i,rfl,h G1 H1 r1 s1⟩
 |_=>exact h.elim
noncomputable def slW:W->Option Int->Option Int->Option W
 |.lst ws,lo,hi=>some (.lst (cutW ws lo hi))
 |.tup ws,lo,hi=>if ¬(HT.sIx ws.length 0 lo=0/\HT.sIx ws.length ws.length hi=ws.length)then some (.tup (cutW ws lo hi))else none
 |_,_,_=>none
noncomputable def dSl(d:Den W)(dl dh:Den (Option Int)):Den W:=fun e=>(d e).bind fun w e1=>(dl e1).bind fun lo e2=>(dh e2).bind fun hi e3=>ofOpt (slW w lo hi) e3
theorem x8e{lo hi:Option Expr}{dl dh:Den (Option Int)}(he:DE Z X EE e da)(hl:DO Z X EE lo dl)(hh:DO Z X EE hi dh):DE Z X EE (.Subscript e (.Slice lo hi none p2) pos) (dSl da dl dh):=by
 refine PE.mono (x7u (sl_list.or y44) he hl hh) ?_;rintro σ H Q ⟨G,e,rel,h⟩;simp only[dSl,R.holds_bind,ofOpt_holds]at h;refine⟨G,e,rel,h.imp (fun w e1 h G1 v1 H1 r1 s1 p1=>?_) fun _ _ h=>h⟩
 refine⟨G1,e1,r1,h.imp (fun lo e2 h G2 H2 r2 s2=>?_) fun _ _ h=>XH.trans s1 h⟩
 refine⟨G2,e2,r2,h.imp (fun hi e3 h G3 H3 r3 s3=>?_) fun _ _ h=>XH.trans (s1.trans s2) h⟩
 obtain⟨y,hf,h⟩:=h;have p3:=Rep.mono (s2.trans s3) w p1;have s03:=(s1.trans s2).trans s3;cases w with
 |lst ws=>
  cases hf;obtain⟨a,xs,rfl,q,r⟩:=p3;refine .inl ⟨a,xs,rfl,r3.sub.seq q,fun p hp=>?_⟩
  have g:=Grow.laid r3.sub hp (.lst (cutV xs lo hi));exact h _ _ _ (r3.grow g) (s03.trans g.gg) ⟨p,_,rfl,SqL.of q0f,Reps.mono g.gg _ (r.cut lo hi)⟩
 |tup ws=>
  simp only[slW]at hf;split at hf
  ·rename_i hw;cases hf;obtain⟨a,xs,rfl,q,r⟩:=p3;refine .inr ⟨a,xs,rfl,r3.sub.tup q,by rw[r.length];exact hw,fun p hp=>?_⟩
   have g:=Grow.laid r3.sub hp (.tup (cutV xs lo hi));exact h _ _ _ (r3.grow g) (s03.trans g.gg) ⟨p,_,rfl,SqT.of q0f,Reps.mono g.gg _ (r.cut lo hi)⟩
  ·cases hf
 |_=>cases hf
noncomputable def tyW:W->Value
 |.non=>.type "NoneType"
 |.bl _=>.type "bool"
 |.int _=>.type "int"
 |.str _=>.type "str"
 |.tup _=>.type "tuple"
 |.lst _=>.type "list"
 |.exc c=>c
 |.dic _=>.type "dict"
 |.dw _ _ _ _=>.type "dict"
 |.fn _ _ _=>.type "dict"
noncomputable def isiW(K:PySem.W.Frag)(cv:Value):W->Option W
 |.exc (.ref D)=>if excClsIn K D=true then(kitOne K (.ref D) cv).map .bl else none
 |.exc _=>none
 |.dic _=>none
 |.dw _ _ _ _=>none
 |.fn _ _ _=>none
 |w=>(kitOne K (tyW w) cv).map .bl
theorem y1v{b:Bool}{Q:VK}(I:Inv X pins σ H s)(sg:Same G H)(p:Rep X.K G w v)(r:RelV v u)(h:isiW X.K cv w=some (.bl b))(q:Q (.bl b) H):
  wpAny (model X.prog X.w) X.A (call (.builtin "isinstance") [u,cv]) (EP X pins σ Q) X.xe s:=by
 have fin:∀tk,EP X pins σ Q (.bool b) {s with toks:=tk}:=fun tk=>⟨.bl b,H,I.tok _,rfl,q⟩
 have kit:∀{t:Value},(kitOne X.K t cv).map W.bl=some (.bl b)->kitOne X.K t cv=some b:=fun z=>by
  obtain⟨y,h1,h2⟩:=w0g.mp z;cases h2;exact h1
 cases w with
 |non=>cases p;cases r;exact kia_one PySem.W.kitx_none I.kIn True.intro (kit h) (fun z=>nomatch z) fin
 |bl y=>cases p;cases r;exact kia_one PySem.W.kitx_bool I.kIn True.intro (kit h) (fun z=>nomatch z) fin
 |int y=>cases p;obtain⟨t,rfl⟩:=r;exact kia_one PySem.W.kitx_int I.kIn True.intro (kit h) (fun z=>nomatch z) fin
 |str y=>cases p;obtain⟨t,rfl⟩:=r;exact kia_one PySem.W.kitx_str I.kIn True.intro (kit h) (fun z=>nomatch z) fin
 |tup ws=>
  obtain⟨a,xs,rfl,hq,_⟩:=p;cases r;obtain⟨its,_,⟨o,h1,h2,_⟩,_⟩:=I.tuple (sg.tup hq);exact kia_one PySem.W.kitx_tuple I.kIn ⟨o,h1,h2⟩ (kit h) (fun z=>nomatch z) fin
 |lst ws=>
  obtain⟨a,xs,rfl,hq,_⟩:=p;cases r;obtain⟨its,_,⟨o,n,h1,h2,_⟩,_⟩:=I.list (sg.seq hq);exact kia_one PySem.W.kitx_list I.kIn ⟨o,h1,h2⟩ (kit h) (fun z=>nomatch z) fin
 |dic c=>simp[isiW]at h
 |dw _ _ _ _=>simp[isiW]at h
 |fn _ _ _=>simp[isiW]at h
 |exc c=>
  obtain⟨e,rfl,he⟩:=p;cases r;unfold isiW at h;split at h
  ·rename_i D heq;cases heq;split at h
   ·rename_i hC;obtain⟨⟨o,vs,h1,h2,h3⟩,_⟩:=(show ObjOk X.prog X.w H s.heap e (excO e (.ref D))from I.hok e _ (sg _ _ he));exact kia_one (x73 (ExcCls.of hC)) I.kIn ⟨o,vs,h1,h2,h3⟩ (kit h) (fun z=>nomatch z) fin
   ·cases h
  all_goals first|(cases h;done)|(rename_i h1 h2 h3 h4 h5;exact absurd rfl (h2 c))|(rename_i h1 h2 h3 h4;exact absurd rfl (h2 c))|(rename_i h1 h2 h3;exact absurd rfl (h2 c))|(rename_i h1 h2;exact absurd rfl (h2 c))
noncomputable def dIsi(K:PySem.W.Frag)(cv:Value)(d:Den W):Den W:=fun e=>(d e).bind fun w e1=>match isiW K cv w with
 |some (.bl b)=>.ok (.bl b) e1
 |_=>.no
theorem x5n{c:V}(hc:ClsV c cv):CallR X (.builtin "isinstance") (fun xs H Q=>∃x G w b,xs=[x,c]/\Same G H/\Rep X.K G w x/\isiW X.K cv w=some (.bl b)/\Q (.bl b) H):=by
 intro pins s σ H xs us Q I r h;obtain⟨x,G,w,b,rfl,sg,p,hi,q⟩:=h;obtain⟨u,u2,rfl,rx,rc⟩:=vals2 r
 have ec:u2=cv:=by
  cases c with
  |ty n=>exact(show u2=Value.type n from rc).trans (show cv=Value.type n from hc).symm
  |ref a=>exact(show u2=Value.ref a from rc).trans (show cv=Value.ref a from hc).symm
  |_=>exact hc.elim
 subst ec;exact y1v I sg p rx hi q
theorem q1h{c0:V}(hc:ClsV c0 cv)(hcl:PE X c (tC c0))(hm:X.mg "isinstance"=none)(he:DE Z X EE e da)(hg:Gl X "isinstance":=by rfl)(hs:starEach [e,c] X.env=(false,eval e X.env)::starEach [c] X.env:=by rfl)(hs2:starEach [c] X.env=(false,eval c X.env)::starEach [] X.env:=by rfl)(hpl:(backTo pos (starEach [c] X.env)).any (·.1)=false:=by rfl):
  DE Z X EE (.Call (.Name "isinstance" p) [e,c] [] pos) (dIsi X.K cv da):=by
 refine PE.mono (q7e (x5n hc) hg hm PyProof.Rows.Boot.«isinstance» (q3p he (q3p hcl q6a hs2) hs) (by decide) (by decide) hs hpl) ?_;rintro σ H Q ⟨G,e,rel,h⟩;simp only[dIsi,R.holds_bind]at h;refine⟨G,e,rel,h.imp (fun w e1 h G1 v1 H1 r1 s1 p1=>?_) fun _ _ h=>h⟩
 split at h
 ·rename_i b hb;exact⟨v1,G1,w,b,rfl,r1.sub,p1,hb,h G1 _ H1 r1 s1 rfl⟩
 ·exact h.elim
theorem q1c{n:Str}{a:Addr}(hm:X.mg n=some (.ref a))(hg:Gl X n:=by rfl)(hd:(n==("__debug__":Str))=false:=by decide):PE X (.Name n pos) (tC (.ref a)):=y0y (v:=.ref a) hg hm rfl hd
theorem x21{n:Str}{T:String}(hv:bootBuiltins n=some (.type T))(hm:X.mg n=none)(hg:Gl X n:=by rfl)(hn:n≠"__name__":=by decide)(hd:(n==("__debug__":Str))=false:=by decide):PE X (.Name n pos) (tC (.ty T)):=y0z (v:=.ty T) hg hm hv rfl hn hd
noncomputable def tup1:List W->Option W
 |[.lst ws]=>some (.tup ws)
 |[.tup ws]=>some (.tup ws)
 |_=>none
theorem y5p:OpN K (fun xs H Q=>∃p ys,xs=[.ref p]/\((SqL K H p ys/\∀l,H l=none->Q (.ref l) (upd H l (.tup ys)))\/(SqT K H p ys/\Q (.ref p) H))) tup1:=by
 intro G H xs ws w Q s pr hf h;unfold tup1 at hf;split at hf
 ·cases hf;obtain⟨x,r,rfl,px,pr⟩:=pr;cases(show r=[]from pr);obtain⟨a,ys,rfl,ha,ra⟩:=px;refine⟨a,ys,rfl,.inl ⟨s.seq ha,fun l hl=>?_⟩⟩
  have g:=Grow.laid s hl (.tup ys);exact h _ _ _ g ⟨l,ys,rfl,SqT.of q0f,Reps.mono g.gg _ ra⟩
 ·cases hf;obtain⟨x,r,rfl,px,pr⟩:=pr;cases(show r=[]from pr);obtain⟨a,ys,rfl,ha,ra⟩:=px;exact⟨a,ys,rfl,.inr ⟨s.tup ha,h G _ H (.refl s) ⟨a,ys,rfl,ha,ra⟩⟩⟩
 ·cases hf
theorem x1e(hm:X.mg "tuple"=none)(ha:DA Z X EE [e] dA)(hg:Gl X "tuple":=by rfl)(he:starEach [e] X.env=(false,eval e X.env)::starEach [] X.env:=by rfl)(hpl:(backTo pos (starEach [] X.env)).any (·.1)=false:=by rfl):DE Z X EE (.Call (.Name "tuple" p) [e] [] pos) (dFn tup1 dA):=
 x5b x0f y5p PyProof.Rows.Boot.«tuple» hm ha hg (by decide) (by decide) he hpl
theorem q3t(hm:X.mg "len"=none)(ha:DA Z X EE [e] dA)(hg:Gl X "len":=by rfl)(he:starEach [e] X.env=(false,eval e X.env)::starEach [] X.env:=by rfl)(hpl:(backTo pos (starEach [] X.env)).any (·.1)=false:=by rfl):DE Z X EE (.Call (.Name "len" p) [e] [] pos) (dFn len1 dA):=
 q76 x0x x5g PySem.boot_len hm ha hg (by decide) (by decide) he hpl
theorem q5n(i:Nat)(hm:X.mg "len"=none)(hN:X.N[i]?=some x:=by rfl)(hvis:Vis X.env.scope x:=by walk_at "1")(hd:(x==("__debug__":Str))=false:=by decide)(hcd:(x==("__classdict__":Str))=false:=by decide)
  (hg:Gl X "len":=by rfl)(hs:starEach [.Name x p] X.env=(false,eval (.Name x p) X.env)::starEach [] X.env:=by rfl)(hpl:(backTo pos (starEach [] X.env)).any (·.1)=false:=by rfl):DE Z X EE (.Call (.Name "len" pn) [.Name x p] [] pos) (dFnV i len1):=
 y5i i x0x x5g PySem.boot_len hm hN hvis hd hcd hg (by decide) (by decide) hs hpl
noncomputable def lst1:List W->Option (List W)
 |[.lst ws]=>some ws
 |[.tup ws]=>some ws
 |_=>none
noncomputable def dList(dA:Den (List W)):Den (List W):=fun e=>(dA e).bind fun ws e1=>ofOpt (lst1 ws) e1
theorem q8y(hm:X.mg "list"=none)(ha:DA Z X EE [e] dA)(hg:Gl X "list":=by rfl)(he:starEach [e] X.env=(false,eval e X.env)::starEach [] X.env:=by rfl)(hpl:(backTo pos (starEach [] X.env)).any (·.1)=false:=by rfl):DF Z X EE (.Call (.Name "list" p) [e] [] pos) (dList dA):=by
 refine PE.mono (q9l x00 hg hm PyProof.Rows.Boot.«list» ha (by decide) (by decide) he hpl) ?_;rintro σ H Q ⟨G,e,rel,h⟩;simp only[dList,R.holds_bind,ofOpt_holds]at h;refine⟨G,e,rel,h.imp (fun ws e1 h G1 vs H1 r1 s1 p1=>?_) fun _ _ h=>h⟩
 obtain⟨out,hf,h⟩:=h;unfold lst1 at hf;split at hf
 ·cases hf;obtain⟨y,r,rfl,py,pr⟩:=p1;cases(show r=[]from pr);obtain⟨a,ys,rfl,hq,rq⟩:=py;exact⟨a,ys,rfl,.inl (r1.sub.seq hq),q5x r1 s1 rq h⟩
 ·cases hf;obtain⟨y,r,rfl,py,pr⟩:=p1;cases(show r=[]from pr);obtain⟨a,ys,rfl,hq,rq⟩:=py;exact⟨a,ys,rfl,.inr (r1.sub.tup hq),q5x r1 s1 rq h⟩
 ·cases hf
end
section
variable{w:World}{mg:Str->Option Value}{base:Heap}
theorem q79(hF:∀ws,F ws=.no){vs:List V}{Q:VK}{E:XK}(h:spF K F vs H Q E):False:=by
 obtain⟨G,ws,hn,_⟩:=q5k h;exact hn (hF ws)
theorem conF{N ps:List Str}{f:Addr}{fd:FuncData}(A:Fun K x x st f fd)(sc:FnScope N ps (defScope st))(len:∀ws,F ws≠.no->ws.length=ps.length)
  (hb:∀ws,F ws≠.no->∀(cdv:Value)(A:Around)(outer:List Env)(s:Shared)(H:Hp)(E:XK)(Z:Zt),Room k (A.deeper (PyProof.Rows.envOfC x (defScope st) s.heap.objs.size f cdv)) ->
   ∃d,DSs Z (cxOf (CX1 P w) P w K mg base N x (defScope st) f cdv A outer s H E) (fun _=>E) (defBody st) d/\(d (init N.length ws)).fn=F ws):FnOk P w K mg base (CX1 P w) (k+1) f fd ps (spF K F):=by
 refine A.okX sc (fun vs H Q E h=>?_) (fun cdv A outer s H vs Q E hr h=>?_)
 ·obtain⟨G,ws,hn,r⟩:=q5k h;rw[r.length];exact len ws hn
 ·obtain⟨G,ws,sg,rp,h⟩:=h;have hn:F ws≠.no:=fun z=>by rw[z]at h;exact h
  obtain⟨d,hd,he⟩:=hb ws hn cdv A outer s H E ⟨H,G,[]⟩ hr;exact⟨_,hd,G,init N.length ws,q36 sg rp,q5l he h⟩
noncomputable def spLaw(K:PySem.W.Frag):Sp:=fun vs H Q _=>∃(a:Addr)(ns:List Int),vs=[.ref a]/\SqL K H a (ns.map V.int)/\ns.length<=63/\∀H',Q (.bl true) H'
theorem q9s:∀(ns:List Int),Reps K G (ns.map W.int) (ns.map V.int)
 |[]=>rfl
 |n::ns=>⟨_,_,rfl,rfl,q9s ns⟩
theorem x8f(hF:∀ns:List Int,ns.length<=63->F [.lst (ns.map .int)]=.ok (.fr (.bl true))){vs:List V}{Q:VK}{E:XK}(h:spLaw K vs H Q E):spF K F vs H Q E:=by
 obtain⟨a,ns,rfl,hS,hl,q⟩:=h;refine⟨fun b=>if b=a then H a else none,[.lst (ns.map .int)],fun b o z=>?_,⟨.ref a,[],rfl,⟨a,ns.map V.int,rfl,?_,q9s ns⟩,rfl⟩,?_⟩
 ·by_cases hb:b=a
  ·subst hb;simpa using z
  ·simp[hb]at z
 ·rcases hS with(h|⟨o,h⟩)|h
  ·exact .inl (.inl (by simpa using h))
  ·exact .inl (.inr ⟨o,by simpa using h⟩)
  ·exact .inr h
 ·rw[hF ns hl];intro G' H' v g sl;obtain⟨u,h1,h2⟩:=sl;cases h1;cases(show v=V.bl true from h2);exact q H'
theorem y5q{w:World}{e:Value}{s':Shared}(z:CX1 P w [] H s (fun _ _ _=>False) e s'):False:=by
 obtain⟨_,_,_,_,_,_,_,_,_,_,h⟩:=z;exact h
theorem con0{ps:List Str}(A:At K mg x st ps)(hF:∀ws,F ws=.no:=by intro _;rfl):Cal P w K mg base 0 x ps (spF K F):=by
 obtain⟨f,fd,F0,m,b⟩:=A.ex;exact⟨f,fd,⟨fun vs H Q E h=>(q79 hF h).elim,fun A outer s H args us vs Q E _ _ _ _ h=>(q79 hF h).elim⟩,m,F0.kp,b⟩
theorem con0H{ps:List Str}(A:At K mg x st ps)(hF:∀ws,F ws=.no:=by intro _;rfl):CalH P w K mg base 0 x ps (spF K F):=by
 obtain⟨f,fd,F0,m,b⟩:=A.ex;exact⟨f,fd,⟨fun vs H Q E h=>(q79 hF h).elim,fun A outer s H args us vs Q _ _ _ _ h=>(q79 hF h).elim⟩,m,F0.kp,b⟩
end
section
variable{e:Expr}{d:Den Str}
def DFm(Z:Zt)(X:Cx)(EE:St->XK)(n:Nat)(es:List Expr)(d:Den Str):Prop:=PF X es (fun acc σ H Q=>acc.length+n*1000001<=16777216/\∃G e,Rel X.K Z G σ H e/\(d e).holds (fun y e'=>∀G' H',Rel X.K Z G' σ H' e'->Same G G'->Q (acc++y) H') (XH X.K Z EE σ G))
end
section
variable{β:Type}{c:Prop} [Decidable c]{a:α}{e':List S}{k:α->List S->R β}{ks:α->List S->SR}{x y:R α}{s t:SR}{v:Value}{st:S}
theorem y1w:(R.ok a e).bind k=k a e:=rfl
theorem y1x:(R.ex v e:R α).bind k=.ex v e:=rfl
theorem y1y:(R.no:R α).bind k=.no:=rfl
theorem x8g:(if c then x else y).bind k=if c then x.bind k else y.bind k:=by split<;>rfl
theorem y5r:(R.ok a e).stm ks=ks a e:=rfl
theorem y5s:(R.ex v e:R α).stm ks=.ex v e:=rfl
theorem y5t:(R.no:R α).stm ks=.no:=rfl
theorem y1z:(if c then x else y).stm ks=if c then x.stm ks else y.stm ks:=by split<;>rfl
noncomputable def SR.seq:SR->(List S->SR)->SR
 |.nx e,b=>b e
 |r,_=>r
theorem y5u{p:List S->SR}:dSeq p q e=(p e).seq q:=by
 unfold dSeq SR.seq;cases p e<;>rfl
theorem y5v:(SR.nx e).seq q=q e:=rfl
theorem y5w:(SR.rt st e).seq q=.rt st e:=rfl
theorem y5x:(SR.ex v e).seq q=.ex v e:=rfl
theorem y5y:(SR.bk e).seq q=.bk e:=rfl
theorem y5z:(SR.ct e).seq q=.ct e:=rfl
theorem y50:(SR.no).seq q=.no:=rfl
theorem y16:(if c then s else t).seq q=if c then s.seq q else t.seq q:=by split<;>rfl
theorem y8k:(SR.nx e).fn=.ok (.fr .non):=rfl
theorem y8l:(SR.rt st e).fn=.ok st:=rfl
theorem y8m:(SR.ex v e).fn=.ex v:=rfl
theorem y8n:(SR.no).fn=.no:=rfl
theorem y51:(if c then s else t).fn=if c then s.fn else t.fn:=by split<;>rfl
theorem x32:ofOpt (some a) e=.ok a e:=rfl
theorem x33:ofOpt (none:Option α) e=.no:=rfl
theorem x5o{o p:Option α}:ofOpt (if c then o else p) e=if c then ofOpt o e else ofOpt p e:=by split<;>rfl
noncomputable def varS(i:Nat)(e:List S):Option S->R W
 |some (.fr w)=>.ok w e
 |some (.own none ws)=>.ok (.lst ws) (e.set i (.fr (.lst ws)))
 |some (.x k)=>match k.plain with
  |some w=>.ok w e
  |none=>.no
 |_=>.no
theorem y52:dVar i e=varS i e e[i]?:=by
 unfold dVar varS;cases e[i]? with
 |none=>rfl
 |some s=>cases s with
  |own b ws=>cases b<;>rfl
  |_=>rfl
theorem y53:varS i e (some (.fr w))=.ok w e:=rfl
theorem y17:varS i e (some (.own none ws))=.ok (.lst ws) (e.set i (.fr (.lst ws))):=rfl
theorem dC_s:dC w e=.ok w e:=rfl
theorem y8o{f:W->W->Option W}:dOp f da db e=(da e).bind fun x e1=>(db e1).bind fun y e2=>ofOpt (f x y) e2:=rfl
theorem y8p{f:W->Option W}:dUn f da e=(da e).bind fun x e1=>ofOpt (f x) e1:=rfl
noncomputable def testW(e:List S):W->R Bool
 |.bl k=>.ok k e
 |_=>.no
theorem y18:dTest da e=(da e).bind fun x e1=>testW e1 x:=rfl
theorem y19{b:Bool}:testW e (.bl b)=.ok b e:=rfl
theorem y54:dTru da e=(da e).bind fun x e1=>ofOpt (truW x) e1:=rfl
theorem y55{p q:Den Bool}:dAnd p q e=(p e).bind fun x e1=>if x=true then q e1 else .ok false e1:=rfl
theorem y8q{p q:Den Bool}:dOr p q e=(p e).bind fun x e1=>if x=true then .ok true e1 else q e1:=rfl
theorem y56{p:Den Bool}:dNot p e=(p e).bind fun x e1=>.ok (!x) e1:=rfl
noncomputable def andK(q:Den W)(e:List S):W->R W
 |.bl true=>q e
 |.bl false=>.ok (.bl false) e
 |_=>.no
theorem y2a{p q:Den W}:dAndV p q e=(p e).bind fun x e1=>andK q e1 x:=rfl
theorem y57{q:Den W}{b:Bool}:andK q e (.bl b)=if b=true then q e else .ok (.bl false) e:=by cases b<;>rfl
noncomputable def orK(q:Den W)(e:List S):W->R W
 |.bl true=>.ok (.bl true) e
 |.bl false=>q e
 |_=>.no
theorem y58{p q:Den W}:dOrV p q e=(p e).bind fun x e1=>orK q e1 x:=rfl
theorem y8r{q:Den W}{b:Bool}:orK q e (.bl b)=if b=true then .ok (.bl true) e else q e:=by cases b<;>rfl
theorem y59:dNil e=.ok [] e:=rfl
theorem y2b{p:Den W}{q:Den (List W)}:dCons p q e=(p e).bind fun x e1=>(q e1).bind fun xs e2=>.ok (x::xs) e2:=rfl
theorem y6a:dTup p e=(p e).bind fun xs e1=>if xs.length<=16777216 then .ok (.tup xs) e1 else .no:=rfl
theorem y6b:dLst p e=(p e).bind fun xs e1=>if xs.length<=16777216 then .ok xs e1 else .no:=rfl
theorem y8s:dFz p e=(p e).bind fun xs e1=>.ok (.lst xs) e1:=rfl
theorem y8t:dFn f p e=(p e).bind fun xs e1=>ofOpt (f xs) e1:=rfl
theorem y2c:dList p e=(p e).bind fun xs e1=>ofOpt (lst1 xs) e1:=rfl
theorem y8u:dNx e=.nx e:=rfl
theorem y2d:dDrop d e=(d e).stm fun _ e'=>.nx e':=rfl
theorem y6c:dRet d e=(d e).stm fun w e'=>.rt (.fr w) e':=rfl
theorem y2e{d:Den (List W)}:dRetF d e=(d e).stm fun w e'=>.rt (.own none w) e':=rfl
theorem y6d{p:Den Bool}{q':List S->SR}:dIfS p q q' e=(p e).stm fun x e1=>if x=true then q e1 else q' e1:=rfl
theorem y6e:dSet i d e=(d e).stm fun w e'=>.nx (e'.set i (.fr w)):=rfl
theorem y2f{d:Den (List W)}:dSetO i d e=(d e).stm fun w e'=>.nx (e'.set i (.own none w)):=rfl
noncomputable def callR(e:List S):FR->R W
 |.ok (.fr w)=>.ok w e
 |.ok (.own none ws)=>.ok (.lst ws) e
 |.ok (.dic kvs)=>.ok (.dic kvs) e
 |.ok (.thr us ws vs)=>.ok (.tup (us++.lst ws::vs)) e
 |.ok (.x (.new w))=>.ok w e
 |.ok (.x (.tn us wss))=>.ok (.tup (us++[.lst (wss.map .lst)])) e
 |.ex c=>.ex c e
 |_=>.no
theorem x8h{vs:List W}:callR e (.ok (.thr us ws vs))=.ok (.tup (us++.lst ws::vs)) e:=rfl
theorem x8i{kvs:Dd}:callR e (.ok (.dic kvs))=.ok (.dic kvs) e:=rfl
theorem y2g{d:Den (List W)}:dCall F d e=(d e).bind fun ws e1=>callR e1 (F ws):=by
 unfold dCall;congr 1
theorem y2h:callR e (.ok (.fr w))=.ok w e:=rfl
theorem x8j:callR e (.ok (.own none ws))=.ok (.lst ws) e:=rfl
theorem y2i:callR e (.ex v)=.ex v e:=rfl
theorem y2j:callR e .no=.no:=rfl
theorem x8k{f g:FR}:callR e (if c then f else g)=if c then callR e f else callR e g:=by split<;>rfl
noncomputable def callF(e:List S):FR->R (List W)
 |.ok (.own none ws)=>.ok ws e
 |.ex c=>.ex c e
 |_=>.no
theorem x5p:callF e (.ok (.own none ws))=.ok ws e:=rfl
theorem x8l:callF e (.ex v)=.ex v e:=rfl
theorem x5q{f g:FR}:callF e (if c then f else g)=if c then callF e f else callF e g:=by split<;>rfl
noncomputable def callH(e:List S):FR->R W
 |.ok (.fr w)=>.ok w e
 |.ok (.own none ws)=>.ok (.lst ws) e
 |_=>.no
theorem x8m{d:Den (List W)}:dCallH F d e=(d e).bind fun ws e1=>callH e1 (F ws):=by
 unfold dCallH;congr 1
theorem x8n:callH e (.ok (.fr w))=.ok w e:=rfl
theorem x5r:callH e (.ok (.own none ws))=.ok (.lst ws) e:=rfl
noncomputable def forW(i:Nat)(b:List S->SR)(e:List S):Option (List W)->SR
 |some ws=>forD i b ws e
 |none=>.no
theorem y6f{b:List S->SR}:dFor i d b e=(d e).stm fun w e1=>forW i b e1 (seqW w):=by
 unfold dFor;congr 1
theorem y2k{g:List W->Option (List W)}{d:Den (List W)}{b:List S->SR}:dForR i g d b e=(d e).stm fun w e1=>forW i b e1 (g w):=by
 unfold dForR;congr 1
theorem x5s{b:List S->SR}:forW i b e (some ws)=forD i b ws e:=rfl
noncomputable def SR.turn:SR->(List S->SR)->SR
 |.nx e,k=>k e
 |.ct e,k=>k e
 |.bk e,_=>.nx e
 |.rt s e,_=>.rt s e
 |.ex c e,_=>.ex c e
 |.no,_=>.no
theorem q39{b:List S->SR}:forD i b (w::ws) e=(b (e.set i (.fr w))).turn (forD i b ws):=by
 show(match b (e.set i (.fr w))with|.nx e'=>forD i b ws e'|.ct e'=>forD i b ws e'|.bk e'=>.nx e'|.rt s e'=>.rt s e'|.ex c e'=>.ex c e'|.no=>.no)=_;cases b (e.set i (.fr w))<;>rfl
theorem q6z:(SR.nx e).turn q=q e:=rfl
theorem y2l:(SR.ct e).turn q=q e:=rfl
theorem y2m:(SR.bk e).turn q=.nx e:=rfl
theorem y2n:(SR.rt st e).turn q=.rt st e:=rfl
theorem x22:(SR.ex v e).turn q=.ex v e:=rfl
theorem y2o:(SR.no).turn q=.no:=rfl
theorem x8o:(if c then s else t).turn q=if c then s.turn q else t.turn q:=by split<;>rfl
theorem q60{p:Den Bool}{b:List S->SR}:whileD p b (n+1) e=(p e).stm fun x e1=>if x=true then(b e1).turn (whileD p b n)else .nx e1:=by
 show(p e).stm _=_;congr 1;funext x e1
 split
 ·cases b e1<;>rfl
 ·rfl
noncomputable def look1(k:W->R W):Option W->R W
 |none=>.no
 |some w=>k w
theorem y6g:dIxV i d e=look1 (fun _=>(d e).bind fun k e1=>look1 (fun w=>ofOpt (ixW w k) e1) (e1[i]?.bind S.look)) (e[i]?.bind S.look):=by
 unfold dIxV look1;cases e[i]?.bind S.look with
 |none=>rfl
 |some w=>
  dsimp only;try congr 1
theorem x5t{k:W->R W}:look1 k (some w)=k w:=rfl
theorem y8v:S.look (.fr w)=some w:=rfl
theorem y6h:S.look (.own b ws)=some (.lst ws):=rfl
noncomputable def fnV2(e:List S)(y:Option W):Option S->R W
 |some (.fr _)=>ofOpt y e
 |_=>match y with
  |none=>.no
  |some v=>if scalW v=true then .ok v e else .no
theorem y6i:dFnV i f e=look1 (fun w=>fnV2 e (f [w]) e[i]?) (e[i]?.bind S.look):=by
 unfold dFnV look1;cases q:e[i]? with
 |none=>rfl
 |some s=>
  cases s with
  |no=>rfl
  |dic _=>rfl
  |thr _ _ _=>rfl
  |nest _=>rfl
  |x k=>
   show(match k.look with|none=>R.no|some w=>match f [w]with|none=>R.no|some v=>if scalW v=true then R.ok v e else R.no)=look1 (fun w=>fnV2 e (f [w]) (some (.x k))) k.look
   cases k.look with
   |none=>rfl
   |some w=>
    show(match f [w]with|none=>R.no|some v=>if scalW v=true then R.ok v e else R.no)=fnV2 e (f [w]) (some (.x k));generalize f [w]=y;cases y<;>rfl
  |dw _ _ _=>rfl
  |fr w=>
   show(match f [w]with|none=>R.no|some v=>R.ok v e)=fnV2 e (f [w]) (some (.fr w));generalize f [w]=y;cases y<;>rfl
  |own b ws=>
   show(match f [W.lst ws]with|none=>R.no|some v=>if scalW v=true then R.ok v e else R.no)=fnV2 e (f [W.lst ws]) (some (.own b ws));generalize f [W.lst ws]=y;cases y<;>rfl
theorem y6j{y:Option W}:fnV2 e y (some (.fr w))=ofOpt y e:=rfl
theorem y2p{v:W}:fnV2 e (some v) (some (.own b ws))=if scalW v=true then .ok v e else .no:=rfl
noncomputable def appK(i:Nat)(e:List S):List W->Option S->SR
 |[w],some (.own b xs)=>if xs.length<16777216 then .nx (e.set i (.own b (xs++[w])))else .no
 |_,_=>.no
noncomputable def ownQ(k:SR):Option S->SR
 |some (.own _ _)=>k
 |_=>.no
theorem y6k{d:Den (List W)}:dApp i d e=ownQ ((d e).stm fun ws e1=>appK i e1 ws e1[i]?) e[i]?:=by
 unfold dApp ownQ;cases e[i]? with
 |none=>rfl
 |some s=>cases s with
  |own b xs=>
   dsimp only;try congr 1
  |_=>rfl
theorem y8w{k:SR}:ownQ k (some (.own b ws))=k:=rfl
theorem y8x{xs:List W}:appK i e [w] (some (.own b xs))=if xs.length<16777216 then .nx (e.set i (.own b (xs++[w])))else .no:=rfl
theorem x8p{C:Addr}{d:Den (List W)}:dRaise C d e=(d e).stm fun ws e1=>if ws.length<=16777216 then .ex (.ref C) e1 else .no:=rfl
theorem y8y{dl dh:Den (Option Int)}:dSl d dl dh e=(d e).bind fun w e1=>(dl e1).bind fun lo e2=>(dh e2).bind fun hi e3=>ofOpt (slW w lo hi) e3:=rfl
theorem x5u:dNoPart e=.ok none e:=rfl
noncomputable def partK(e:List S):W->R (Option Int)
 |.int i=>.ok (some i) e
 |_=>.no
theorem y2q:dPart d e=(d e).bind fun w e1=>partK e1 w:=rfl
theorem x8q{i:Int}:partK e (.int i)=.ok (some i) e:=rfl
noncomputable def isiK(e:List S):Option W->R W
 |some (.bl b)=>.ok (.bl b) e
 |_=>.no
theorem y6l:dIsi K cv d e=(d e).bind fun w e1=>isiK e1 (isiW K cv w):=by
 unfold dIsi;congr 1
theorem y6m{b:Bool}:isiK e (some (.bl b))=.ok (.bl b) e:=rfl
theorem q05{D:Addr}{k:Bool}(hc:excClsIn K D=true)(h:kitOne K (.ref D) cv=some k):isiW K cv (.exc (.ref D))=some (.bl k):=by show(if excClsIn K D=true then _ else _)=_;rw[if_pos hc,h];rfl
noncomputable def tryH(n:Nat):SR->SR
 |.nx _=>.nx (List.replicate n .no)
 |.bk _=>.bk (List.replicate n .no)
 |.ct _=>.ct (List.replicate n .no)
 |.rt s e=>.rt s e
 |_=>.no
theorem y2r:tryH n (.rt st e)=.rt st e:=rfl
theorem y2s:tryH n (.nx e)=.nx (List.replicate n .no):=rfl
noncomputable def compR(e:List S):Option (List W)->R (List W)
 |some out=>.ok out e
 |none=>.no
theorem y2t:compK js cc d ws e=if ws.length<=16777216 then compR (frzs js e) (compD cc d (pjS js (frzs js e)) ws)else .no:=by
 unfold compK compR;split
 ·cases compD cc d (pjS js (frzs js e)) ws<;>rfl
 ·rfl
noncomputable def compW(js:List Nat)(cc:Den Bool)(d:Den W)(e:List S):Option (List W)->R (List W)
 |some ws=>compK js cc d ws e
 |none=>.no
theorem y2u{di:Den W}:dComp js di cc d e=(di e).bind fun w e1=>compW js cc d e1 (seqW w):=by
 unfold dComp;congr 1
theorem x8r{g:List W->Option (List W)}{di:Den (List W)}:dCompR g js di cc d e=(di e).bind fun w e1=>compW js cc d e1 (g w):=by
 unfold dCompR;congr 1
theorem x34:compW js cc d e (some ws)=compK js cc d ws e:=rfl
theorem x35{out:List W}:compR e (some out)=.ok out e:=rfl
theorem y6n:dYes e=.ok true e:=rfl
theorem x8s:frzs [] e=e:=rfl
theorem x5v{j:Nat}:frzs (j::js) e=frzs js (frz1 e j):=rfl
theorem y2v:pjS [] e=[]:=rfl
theorem x8t{j:Nat}:pjS (j::js) e=pj1 e j::pjS js e:=rfl
theorem q7j{pe:List S}{g:W->W}:∀(ws:List W),(∀w∈ws,∃e',d (.fr w::pe)=.ok (g w) e')->compD dYes d pe ws=some (ws.map g)
 |[],_=>rfl
 |w::ws,h=>by
  obtain⟨e',he⟩:=h w (by simp);show(match d (.fr w::pe)with|.ok y _=>(compD dYes d pe ws).map (y::·)|_=>none)=_;rw[he,q7j ws fun u hu=>h u (by simp[hu])]
  rfl
end
section
variable{i j:Int}{b c:Bool}
theorem y6o:addW (.int i) (.int j)=some (.int (i+j)):=rfl
theorem y6p:addW (.str x) (.str y)=if x.length+y.length<=16777216 then some (.str (x++y))else none:=rfl
theorem y6q:addW (.lst ws) (.lst us)=if ws.length+us.length<=16777216 then some (.lst (ws++us))else none:=rfl
theorem y6r:subW (.int i) (.int j)=some (.int (i-j)):=rfl
theorem y6s:mulW (.int i) (.int j)=if(-18446744073709551616<i/\i<18446744073709551616)\/(-18446744073709551616<j/\j<18446744073709551616)then some (.int (i*j))else none:=rfl
theorem y2w:fdivW (.int i) (.int j)=if 0<j/\j<1073741824 then some (.int (i / j))else none:=rfl
theorem y6t:modW (.int i) (.int j)=if 0<j then some (.int (i%j))else none:=rfl
theorem y6u:powW (.int i) (.int j)=if 0<=j/\j<=1000000/\-18446744073709551616<i/\i<18446744073709551616 then some (.int (i^j.toNat))else none:=by
 show(if 0<=j/\j<=1000000/\i.natAbs<2^64 then _ else _)=_;have e:(2:Nat)^64=18446744073709551616:=by decide
 rw[e]
 by_cases h:0<=j/\j<=1000000/\i.natAbs<18446744073709551616
 ·rw[if_pos h,if_pos (by omega)]
 ·rw[if_neg h,if_neg (by omega)]
theorem y8z:ltW (.int i) (.int j)=some (.bl (decide (i<j))):=rfl
theorem y80:leW (.int i) (.int j)=some (.bl (decide (i<=j))):=rfl
theorem y81:gtW (.int i) (.int j)=some (.bl (decide (j<i))):=rfl
theorem y82:negW (.int i)=some (.int (-i)):=rfl
theorem y83:eq2 (.int i) (.int j)=some (.bl (decide (i=j))):=by
 show some (W.bl (i==j))=_;congr 2
theorem y84:eq2 (.str x) (.str y)=some (.bl (decide (x=y))):=by
 show some (W.bl (x==y))=_;congr 2
theorem y85:eq2 (.bl b) (.bl c)=some (.bl (decide (b=c))):=by
 show some (W.bl (b==c))=_;congr 2
theorem y86:ne2 (.int i) (.int j)=some (.bl (!decide (i=j))):=by
 show some (W.bl (!(i==j)))=_;congr 2
theorem y87:ne2 (.str x) (.str y)=some (.bl (!decide (x=y))):=by
 show some (W.bl (!(x==y)))=_;congr 2
theorem y88:ne2 (.bl b) (.bl c)=some (.bl (!decide (b=c))):=by
 show some (W.bl (!(b==c)))=_;congr 2
theorem y89:isW (.bl b) (.bl c)=some (.bl (decide (b=c))):=by
 show some (W.bl (b==c))=_;congr 2
theorem y9a:isW .non .non=some (.bl true):=rfl
theorem y9b:isW (.bl b) .non=some (.bl false):=rfl
theorem y9c:isW (.int i) .non=some (.bl false):=rfl
theorem y9d:isW (.str x) .non=some (.bl false):=rfl
theorem y9e:isW (.tup ws) .non=some (.bl false):=rfl
theorem y9f:isW (.lst ws) .non=some (.bl false):=rfl
theorem y6v:nisW (.bl b) (.bl c)=some (.bl (!decide (b=c))):=by
 show some (W.bl (!(b==c)))=_;congr 2
theorem y6w:nisW .non .non=some (.bl false):=rfl
theorem y6x:nisW (.bl b) .non=some (.bl true):=rfl
theorem y6y:nisW (.int i) .non=some (.bl true):=rfl
theorem y6z:nisW (.str x) .non=some (.bl true):=rfl
theorem y60:nisW (.tup ws) .non=some (.bl true):=rfl
theorem y61:nisW (.lst ws) .non=some (.bl true):=rfl
theorem ix_t:ixW (.tup ws) (.int i)=atI ws i:=rfl
theorem ix_l:ixW (.lst ws) (.int i)=atI ws i:=rfl
theorem y9g:len1 [.tup ws]=some (.int ws.length):=rfl
theorem y9h:len1 [.lst ws]=some (.int ws.length):=rfl
theorem y9i:tup1 [.lst ws]=some (.tup ws):=rfl
theorem y9j:tup1 [.tup ws]=some (.tup ws):=rfl
theorem y9k:lst1 [.lst ws]=some ws:=rfl
theorem y9l:lst1 [.tup ws]=some ws:=rfl
theorem y9m:truW (.bl b)=some b:=rfl
theorem y9n:truW (.int i)=some (i != 0):=rfl
theorem y9o:truW .non=some false:=rfl
theorem y9p:truW (.tup ws)=some (!ws.isEmpty):=rfl
theorem y9q:truW (.lst ws)=some (!ws.isEmpty):=rfl
theorem y9r:seqW (.tup ws)=some ws:=rfl
theorem y9s:seqW (.lst ws)=some ws:=rfl
theorem sc_i:scalW (.int i)=true:=rfl
theorem sc_b:scalW (.bl b)=true:=rfl
theorem sc_s:scalW (.str x)=true:=rfl
theorem sc_n:scalW .non=true:=rfl
theorem sl_l{lo hi:Option Int}:slW (.lst ws) lo hi=some (.lst (cutW ws lo hi)):=rfl
theorem at0{xs:List α}:atI xs 0=xs[0]?:=by
 cases xs with
 |nil=>rfl
 |cons a l=>exact q3q (j:=0) rfl
theorem at1{xs:List α}:atI xs 1=xs[1]?:=by
 cases xs with
 |nil=>rfl
 |cons a l=>
  cases l with
  |nil=>rfl
  |cons b l=>exact q3q (j:=1) rfl
theorem at2{xs:List α}:atI xs 2=xs[2]?:=by
 cases xs with
 |nil=>rfl
 |cons a l=>
  cases l with
  |nil=>rfl
  |cons b l=>
   cases l with
   |nil=>rfl
   |cons c l=>exact q3q (j:=2) rfl
theorem y62{xs:List α}{k:Int}(h0:0<=k):atI xs k=xs[k.toNat]?:=by
 unfold atI ixN;rw[if_pos h0]
 by_cases h:k<xs.length
 ·rw[if_pos h];rfl
 ·rw[if_neg h];exact(w1g (by omega)).symm
theorem x1f{a b:String}(h:Str.ofString a=Str.ofString b):a=b:=by
 rw[Str.ofString_eq_toList,Str.ofString_eq_toList]at h;have h1:(a.toList.map Char.toNat).toArray=(b.toList.map Char.toNat).toArray:=congrArg Str.cps h;have h2:a.toList.map Char.toNat=b.toList.map Char.toNat:=by simpa using congrArg Array.toList h1
 have h3:a.toList=b.toList:=by
  have inj:∀c d:Char,c.toNat=d.toNat->c=d:=fun c d e=>by
   apply Char.ext;exact UInt32.toNat_inj.mp e
  exact(w2n inj).mp h2
 exact String.toList_inj.mp h3
theorem y63{a b:String}:(Str.ofString a=Str.ofString b)=(a=b):=propext ⟨x1f,fun h=>by rw[h]⟩
end
noncomputable def tuprevW:W->Option W
 |.lst ws=>some (.tup ws.reverse)
 |_=>none
noncomputable def boolsW:List W->Option (List Bool)
 |[]=>some []
 |.bl b::ws=>(boolsW ws).map (b::·)
 |_=>none
noncomputable def all1:List W->Option W
 |[.lst ws]=>(boolsW ws).map fun bs=>.bl (bs.all id)
 |_=>none
noncomputable def max2:List W->Option W
 |[.int i,.int j]=>some (.int (if j>i then j else i))
 |_=>none
noncomputable def min2:List W->Option W
 |[.int i,.int j]=>some (.int (if j<i then j else i))
 |_=>none
noncomputable def int1:List W->Option W
 |[.int i]=>some (.int i)
 |[.bl b]=>some (.int (if b then 1 else 0))
 |_=>none
theorem q8a:∀{ws:List W}{bs:List Bool},boolsW ws=some bs->ws=bs.map .bl
 |[],bs,h=>by cases h;rfl
 |.bl b::ws,bs,h=>by
  obtain⟨cs,h1,rfl⟩:=w0g.mp (show(boolsW ws).map (b::·)=some bs from h);rw[q8a h1];rfl
 |.non::ws,bs,h=>by cases h
 |.int _::ws,bs,h=>by cases h
 |.str _::ws,bs,h=>by cases h
 |.tup _::ws,bs,h=>by cases h
 |.lst _::ws,bs,h=>by cases h
 |.exc _::ws,bs,h=>by cases h
theorem q8b:∀{bs:List Bool}{xs:List V},Reps K G (bs.map W.bl) xs->xs=bs.map V.bl
 |[],xs,h=>h
 |b::bs,xs,h=>by
  obtain⟨x,r,rfl,h1,h2⟩:=h;rw[q8b h2,show x=V.bl b from h1];rfl
theorem y64:OpN K (fun xs H Q=>∃p ys,xs=[.ref p]/\SqL K H p ys/\(∀y∈ys,∃b,y=.bl b)/\Q (.bl (ys.all fun y=>decide (y=.bl true))) H) all1:=by
 intro G H xs ws w Q s pr hf h;unfold all1 at hf;split at hf
 ·obtain⟨bs,hb,rfl⟩:=w0g.mp hf;have:=q8a hb;subst this;obtain⟨x,r,rfl,px,pr⟩:=pr;cases(show r=[]from pr);obtain⟨a,ys,rfl,ha,ra⟩:=px;have:=q8b ra;subst this;refine⟨a,_,rfl,s.seq ha,fun y hy=>?_,h G _ H (.refl s) ?_⟩
  ·obtain⟨b,_,rfl⟩:=w0q.mp hy;exact⟨b,rfl⟩
  ·show V.bl _=V.bl _;congr 1;rw[List.all_map];congr 1;funext b
   cases b<;>rfl
 ·cases hf
theorem y65:OpN K (fun xs H Q=>∃i j,xs=[.int i,.int j]/\Q (.int (if j<i then j else i)) H) min2:=by
 intro G H xs ws w Q s pr hf h;unfold min2 at hf;split at hf
 ·cases hf;obtain⟨x,r,rfl,px,y,r2,rfl,py,pr⟩:=pr;cases(show r2=[]from pr);cases px;cases py;exact⟨_,_,rfl,h G _ H (.refl s) rfl⟩
 ·cases hf
theorem y66:OpN K (fun xs H Q=>(∃i,xs=[.int i]/\Q (.int i) H)\/∃k,xs=[.bl k]/\Q (.int (if k then 1 else 0)) H) int1:=by
 intro G H xs ws w Q s pr hf h;unfold int1 at hf;split at hf
 ·cases hf;obtain⟨x,r,rfl,px,pr⟩:=pr;cases(show r=[]from pr);cases px;exact .inl ⟨_,rfl,h G _ H (.refl s) rfl⟩
 ·cases hf;obtain⟨x,r,rfl,px,pr⟩:=pr;cases(show r=[]from pr);cases px;exact .inr ⟨_,rfl,h G _ H (.refl s) rfl⟩
 ·cases hf
section
variable{a b c e:Expr}{p pos1 pos2:Pos}
theorem y67(hc:X.calm=true)(hm:X.mg "all"=none)(ha:DA Z X EE [e] dA)(hg:Gl X "all":=by rfl)(he:starEach [e] X.env=(false,eval e X.env)::starEach [] X.env:=by rfl)(hpl:(backTo pos (starEach [] X.env)).any (·.1)=false:=by rfl):DE Z X EE (.Call (.Name "all" p) [e] [] pos) (dFn all1 dA):=
 q76 (x71 hc) y64 PyProof.Rows.Boot.«all» hm ha hg (by decide) (by decide) he hpl
theorem q8z(hc:X.calm=true)(hm:X.mg "min"=none)(ha:DA Z X EE [a,b] dA)(hg:Gl X "min":=by rfl)(he:starEach [a,b] X.env=(false,eval a X.env)::starEach [b] X.env:=by rfl)(hpl:(backTo pos (starEach [b] X.env)).any (·.1)=false:=by rfl):DE Z X EE (.Call (.Name "min" p) [a,b] [] pos) (dFn min2 dA):=
 q76 (x40 hc) y65 PyProof.Rows.Boot.«min» hm ha hg (by decide) (by decide) he hpl
theorem x23(hm:X.mg "int"=none)(ha:DA Z X EE [e] dA)(hg:Gl X "int":=by rfl)(he:starEach [e] X.env=(false,eval e X.env)::starEach [] X.env:=by rfl)(hpl:(backTo pos (starEach [] X.env)).any (·.1)=false:=by rfl):DE Z X EE (.Call (.Name "int" p) [e] [] pos) (dFn int1 dA):=
 x5b x41 y66 PyProof.Rows.Boot.«int» hm ha hg (by decide) (by decide) he hpl
end
theorem x8u:tuprevW (.lst ws)=some (.tup ws.reverse):=rfl
theorem y68{i j:Int}:max2 [.int i,.int j]=some (.int (if j>i then j else i)):=rfl
theorem y69{i j:Int}:min2 [.int i,.int j]=some (.int (if j<i then j else i)):=rfl
theorem y9t{i:Int}:int1 [.int i]=some (.int i):=rfl
theorem y9u{b:Bool}:int1 [.bl b]=some (.int (if b then 1 else 0)):=rfl
theorem cast0:((0:Nat):Int)=0:=rfl
theorem cast1:((1:Nat):Int)=1:=rfl
theorem x5w{b:List S->SR}(I:Nat->List S->Prop):∀(ws:List W)(k:Nat)(e:List S),I k e->(∀(j:Nat)(w:W)(e:List S),ws[j]?=some w->I (k+j) e->∃e',b (e.set i (.fr w))=.nx e'/\I (k+j+1) e')->∃e',forD i b ws e=.nx e'/\I (k+ws.length) e'
 |[],k,e,h0,_=>⟨e,rfl,h0⟩
 |w::ws,k,e,h0,h=>by
  obtain⟨e1,h1,h2⟩:=h 0 w e rfl h0
  obtain⟨e2,h3,h4⟩:=x5w I ws (k+1) e1 h2 fun j u e hu hI=>by
   have z:=h (j+1) u e (by simpa using hu) (by rw[show k+(j+1)=k+1+j by omega];exact hI);rw[show k+(j+1)+1=k+1+j+1 by omega]at z;exact z
  refine⟨e2,?_,?_⟩
  ·rw[q39,h1,q6z,h3]
  ·rw[w0x,show k+(ws.length+1)=k+1+ws.length by omega];exact h4
theorem len_range{hi:Int}:(rangeW lo hi).length=(hi-lo).toNat:=by simp[rangeW]
theorem x5x{hi:Int}{j:Nat}(h:(rangeW lo hi)[j]?=some w):w=.int (lo+j)/\j<(hi-lo).toNat:=by
 unfold rangeW at h;rw[w0n]at h;obtain⟨k,h1,rfl⟩:=w0g.mp h;obtain⟨h2,h3⟩:=w0a.mp h1;simp at h2 h3;subst h3;exact⟨rfl,by omega⟩
theorem q4t{b:List S->SR}{hi:Int}(n:Nat)(hn:(hi-lo).toNat=n)(I:Nat->List S->Prop)(e:List S)(h0:I 0 e)(h:∀(j:Nat)(e:List S),j<n->I j e->∃e',b (e.set i (.fr (.int (lo+j))))=.nx e'/\I (j+1) e'):∃e',forD i b (rangeW lo hi) e=.nx e'/\I n e':=by
 obtain⟨e',h1,h2⟩:=x5w (b:=b) (i:=i) I (rangeW lo hi) 0 e h0 fun j w e hw hI=>by
  obtain⟨rfl,hj⟩:=x5x hw;rw[w3r]at hI |-
  exact h j e (by omega) hI
 rw[len_range,hn,w3r]at h2;exact⟨e',h1,h2⟩
noncomputable def SR.turnT(r:SR)(k:List S->SR):SR:=match r with
 |.nx e'=>k e'
 |.ct e'=>k e'
 |.bk e'=>.nx e'
 |.rt s e'=>.rt s e'
 |.ex c e'=>.ex c e'
 |.no=>.no
structure TabK(P:Program)(w:World)(K:PySem.W.Frag)(d:Addr)(tb:List (Str×Int)):Prop where
 tab:∀h,K.In h->PyProof.Rows.StrTab P w h d (PySem.W.kdpD tb)
 obj:∃o,K.lookup d=some o/\o.cls=.type "dict" /\ o.dict=none
noncomputable def putC(i:Nat)(e:List S)(b:Option Nat)(ws:List W)(w:W):Option Nat->SR
 |some j=>.nx (e.set i (.own b (ws.set j w)))
 |none=>.no
noncomputable def putB(i:Nat)(e:List S)(w:W):W->Option S->SR
 |.int k,some (.own b ws)=>putC i e b ws w (ixN ws.length k)
 |_,_=>.no
theorem x8v{k:Int}:putB i e w (.int k) (some (.own b ws))=putC i e b ws w (ixN ws.length k):=rfl
theorem x5y{j:Nat}:putC i e b ws w (some j)=.nx (e.set i (.own b (ws.set j w))):=rfl
noncomputable def extB(i:Nat)(e:List S)(b:Option Nat)(xs:List W):Option (List W)->SR
 |some ys=>if xs.length+ys.length<=16777216 then .nx (e.set i (.own b (xs++ys)))else .no
 |none=>.no
theorem x5z{xs ys:List W}:extB i e b xs (some ys)=if xs.length+ys.length<=16777216 then .nx (e.set i (.own b (xs++ys)))else .no:=rfl
noncomputable def forP(i j:Nat)(b:List S->SR):List (W×W)->List S->SR
 |[],e=>.nx e
 |p::ps,e=>(b ((e.set i (.fr p.1)).set j (.fr p.2))).turnT (forP i j b ps)
noncomputable def dForP(i j:Nat)(d:Den (List (W×W)))(b:List S->SR):List S->SR:=fun e=>(d e).stm fun ps e1=>forP i j b ps e1
noncomputable def compP(c:Den Bool)(d:Den W)(pe:List S):List (W×W)->Option (List W)
 |[]=>some []
 |p::ps=>match c (.fr p.1::.fr p.2::pe)with
  |.ok true e1=>match d e1 with
   |.ok y _=>(compP c d pe ps).map (y::·)
   |_=>none
  |.ok false _=>compP c d pe ps
  |_=>none
noncomputable def compPK(js:List Nat)(c:Den Bool)(d:Den W)(ps:List (W×W))(e1:List S):R (List W):=
 if ps.length<=16777216 then(match compP c d (pjS js (frzs js e1)) ps with
  |some out=>.ok out (frzs js e1)
  |none=>.no)else .no
noncomputable def dCompP(js:List Nat)(di:Den (List (W×W)))(c:Den Bool)(d:Den W):Den (List W):=fun e=>(di e).bind fun ps e1=>compPK js c d ps e1
structure Walk2(K:PySem.W.Frag)(G1:Hp)(J:It)(ps:List (W×W)):Prop where
 go:∀(i:Nat)(G H:Hp),Same G1 G->Same G H->i<ps.length->J.go i H
 yld:∀(i:Nat)(G H:Hp)(x:V)(H':Hp),Same G1 G->Same G H->J.yld i H x H'->∀u v,ps[i]?=some (u,v) ->
  Grow G H G H'/\∀(m n:Nat)(σ:St)(Q:St->Hp->Prop),(∀y z,Rep K G u y->Rep K G v z->Q ((σ.set m (some y)).set n (some z)) H')->gTup K 2 (gCons (gName m) (gCons (gName n) gNil)) x σ H' Q
 stop:∀(i:Nat)(G H:Hp),Same G1 G->Same G H->ps.length<=i->J.stop i H
def liftI(K:PySem.W.Frag)(Z:Zt)(EE:St->XK)(d:Den (List (W×W))):TI:=fun σ H R=>AtG K Z σ H fun G e=>(d e).holds (fun ps e1=>∀G1 H1 J,Rel K Z G1 σ H1 e1->Same G G1->Walk2 K G1 J ps->R J H1) (XH K Z EE σ G)
def DI(Z:Zt)(X:Cx)(EE:St->XK)(tg iter:Expr)(d:Den (List (W×W))):Prop:=PI X tg iter (liftI X.K Z EE d)
theorem PI.mono{tg iter:Expr}{wi wi':TI}(h:PI X tg iter wi)(m:∀σ H R,wi' σ H R->wi σ H R):PI X tg iter wi':=fun pins s σ H R I q=>h pins s σ H R I (m σ H R q)
theorem x50{j:Nat}{D:Ends}{Pv:St->Hp->Prop}{p:W×W}{x y:V}(r:Rel K Z G' σ H e)(s:Same G1 G')(pu:Rep K G' p.1 x)(pv:Rep K G' p.2 y)
  (h:PostS K Z EE D G1 (forP i j s1 (p::ps) e))(hP:∀G'' σ'' H'' e'',Rel K Z G'' σ'' H'' e''->Same G1 G''->PostS K Z EE D G1 (forP i j s1 ps e'')->Pv σ'' H''):
  liftS K Z EE s1 {D with nx:=Pv,ct:=Pv,bk:=D.nx} ((σ.set i (some x)).set j (some y)) H:=by
 refine⟨G',_,(r.set pu).set pv,?_⟩;unfold forP at h;cases q:s1 ((e.set i (.fr p.1)).set j (.fr p.2))with
 |nx e'=>rw[q]at h;exact fun G'' σ'' H'' r'' s''=>hP G'' σ'' H'' e' r'' (s.trans s'') h
 |ct e'=>rw[q]at h;exact fun G'' σ'' H'' r'' s''=>hP G'' σ'' H'' e' r'' (s.trans s'') h
 |bk e'=>rw[q]at h;exact fun G'' σ'' H'' r'' s''=>h G'' σ'' H'' r'' (s.trans s'')
 |rt t e'=>rw[q]at h;exact fun G'' σ'' v H'' r'' s'' p=>h G'' σ'' v H'' r'' (s.trans s'') p
 |ex c e'=>rw[q]at h;exact fun G'' σ'' H'' r'' s''=>h G'' σ'' H'' r'' (s.trans s'')
 |no=>rw[q]at h;exact h
theorem q8c{p:W×W}(h:ps[k]?=some p):ps.drop k=p::ps.drop (k+1):=by
 obtain⟨h1,h2⟩:=w0a.mp h;rw[w3d h1,h2]
theorem Rel.block2(r:Rel K Z G σ H e)(js:List Nat){u:W}{y x:V}(q:Rep K G u y)(p:Rep K G w x):Rel K ⟨H,G,[]⟩ G (some y::some x::pj js σ) H (.fr u::.fr w::pjS js e):=by
 have b:=r.block js p
 have hfr:∀(i:Nat)(s:S),(S.fr w::pjS js e)[i]?=some s->s=.no\/∃u,s=.fr u:=fun i s h=>by
  cases i with
  |zero=>cases h;exact .inr ⟨w,rfl⟩
  |succ k=>
   rw[w0z]at h;unfold pjS at h;rw[w0n]at h;obtain⟨j,h1,h2⟩:=w0g.mp h;unfold pj1 at h2;split at h2
   ·subst h2;exact .inr ⟨_,rfl⟩
   ·subst h2;exact .inl rfl
 refine⟨b.sub,fun i s h=>?_,?_,fun i j b1 b2 w1 w2 a h1 h2 _ _=>?_,b.ent,b.ion,b.gen⟩
 ·cases i with
  |zero=>cases h;exact⟨y,rfl,q⟩
  |succ i=>
   rw[w0z]at h;have z:=b.slot i s h;rcases hfr i s h with rfl|⟨u',rfl⟩
   ·trivial
   ·obtain⟨v,z1,z2⟩:=b.fr h;exact⟨v,by rw[w0z,z1];rfl,z2⟩
 ·have:=b.len;simp only[w0x]at this |-
  omega
 ·cases i with
  |zero=>cases h1
  |succ i=>
   rw[w0z]at h1;rcases hfr i _ h1 with z|⟨u',z⟩<;>cases z
theorem x8w{J:It}{out:List W}{Q:VK}{G0 H1:Hp}{e1:List S}(W0:Walk2 K G1 J ps)(r1:Rel K Z G1 σ H1 e1)(s1:Same G0 G1)(hl:ps.length<=16777216)
  (hz:∀p,H1 p=none->p∉Z.io)(hc:compP c d (pjS js e1) ps=some out)
  (h:∀G' a xs H',Rel K Z G' σ H' e1->Same G0 G'->H' a=some (.lst xs)->G' a=none->Z.H a=none->Free σ e1 a->Reps K G' out xs->Q (.ref a) H'):
  ∀D,H1 D=none->∃W:Nat->Nat->Hp->Prop,(∃m,W 0 m (upd H1 D (.lst [])))/\∀i m H2,W i m H2 ->
   (J.stop i H2/\Q (.ref D) H2)\/(J.go i H2/\∀x H3,J.yld i H2 x H3->gTup K 2 (gCons (gName 0) (gCons (gName 1) gNil)) x (List.replicate 2 none++pj js σ) H3 fun σ4 H4=>Kp (List.replicate 2 none++pj js σ) σ4/\cT K c σ4 H4 fun b H5=>
    if b=true then cE K d σ4 H5 fun y H6=>∃ys,H6 D=some (.lst ys)/\ys.length<sizeLine/\∃m',m'<m/\W (i+1) m' (upd H6 D (.lst (ys++[y])))else ∃m',m'<m/\W (i+1) m' H5):=by
 intro D hD
 refine⟨fun i m H2=>m=ps.length-i/\i<=ps.length/\∃G2 ys done rest,Rel K Z G2 σ H2 e1/\Same G1 G2/\H2 D=some (.lst ys)/\G2 D=none/\Reps K G2 done ys/\done.length<=i/\compP c d (pjS js e1) (ps.drop i)=some rest/\done++rest=out,
  ⟨ps.length,by omega,w1a _,G1,[],[],out,r1.grow (Grow.hid r1.sub hD _),.refl _,q0f,r1.sub.free hD,rfl,w0h _,hc,rfl⟩,?_⟩
 rintro i m H2 ⟨rfl,hi,G2,ys,done,rest,r2,s2,hd2,hg2,rp2,hdl,hc2,ho⟩;have hfree:Free σ e1 D:=q35 r1 hD;have hzh:Z.H D=none:=q20 r1 hD
 by_cases hlt:i<ps.length
 ·refine .inr ⟨W0.go i G2 H2 s2 r2.sub hlt,fun x H3 hy=>?_⟩
  have hp:ps[i]?=some ((ps[i]).1,(ps[i]).2):=by rw[w0d hlt]
  obtain⟨g3,hgo⟩:=W0.yld i G2 H2 x H3 s2 r2.sub hy _ _ hp;have r2':=r2.grow g3;have hd3:H3 D=some (.lst ys):=g3.hh _ _ hd2;rw[q8c hp]at hc2;refine hgo 0 1 _ _ fun yv zv py pz=>⟨Kp.two,⟨H3,G2,[]⟩,G2,.fr (ps[i]).1::.fr (ps[i]).2::pjS js e1,r2'.block2 js py pz,?_⟩
  unfold compP at hc2;cases qc:c (.fr (ps[i]).1::.fr (ps[i]).2::pjS js e1)with
  |no=>rw[qc]at hc2;cases hc2
  |ex _ _=>rw[qc]at hc2;cases hc2
  |ok k e2=>
   rw[qc]at hc2;intro G3 H5 r3 s3;have g3:=r3.toGrow s3;cases k with
   |false=>
    exact⟨ps.length-(i+1),by omega,rfl,hlt,G3,ys,done,rest,r2'.grow g3,s2.trans s3,g3.hh _ _ hd3,by rw[g3.new D (by rw[hd3];simp)];exact hg2,Reps.mono s3 _ rp2,by omega,hc2,ho⟩
   |true=>
    refine⟨⟨H3,G2,[]⟩,G3,e2,r3,?_⟩;dsimp only at hc2;cases qd:d e2 with
    |no=>rw[qd]at hc2;cases hc2
    |ex _ _=>rw[qd]at hc2;cases hc2
    |ok y e3=>
     rw[qd]at hc2;intro G4 v H6 r4 s4 p4;have g4:=r4.toGrow (s3.trans s4);obtain⟨rest',hr,rfl⟩:=w0g.mp hc2;have hd6:H6 D=some (.lst ys):=g4.hh _ _ hd3;have hg6:G4 D=none:=by rw[g4.new D (by rw[hd3];simp)];exact hg2
     refine⟨ys,hd6,?_,ps.length-(i+1),by omega,rfl,hlt,G4,ys++[v],done++[y],rest',(r2'.grow g4).mutFree hg6 hzh (hz D hD) hfree hd6,s2.trans (s3.trans s4),q0f,hg6,(Reps.mono (s3.trans s4) _ rp2).append (.one p4),by simp;omega,hr,by rw[w2q];exact ho⟩;rw[rp2.length,sizeLine_eq];omega
 ·have:i=ps.length:=by omega
  subst this;rw[w2j]at hc2;cases hc2;rw[w1i]at ho;subst ho;exact .inl ⟨W0.stop _ G2 H2 s2 r2.sub (by omega),h G2 D ys H2 r2 (s1.trans s2) hd2 hg2 hzh hfree rp2⟩
section
variable{elt iter e a:Expr}{body:List Stmt}{ifs:List Expr}{scope sc:Scope}{pt p3:Pos}{Nf N:List Str}{di:Den (List (W×W))}{d0:Den W}
theorem q61(i j:Nat)(hN:X.N.Nodup)(hp:PassesOwn (model X.prog X.w) X.A X.env X.xe)(hc:X.calm=true)(hl:DI Z X EE (.Tuple [.Name x p1,.Name y p2] kt p3) e di)(hb:DSs Z X EE body s1)
  (hi:X.N[i]?=some x:=by rfl)(hx:Loc X.env.scope x:=by walk_at "3")(hf:X.fn x=true\/X.env.scope.names.lookup x=some .local:=by walk_at "2")
  (hj:X.N[j]?=some y:=by rfl)(hy:Loc X.env.scope y:=by walk_at "3")(hf':X.fn y=true\/X.env.scope.names.lookup y=some .local:=by walk_at "2")
  (hn:(assignEach [.Name x p1,.Name y p2] X.env).length=2:=by rfl)(hst:(assignEach [.Name x p1,.Name y p2] X.env).findIdx? (·.1)=none:=by rfl)
  (g1:(assignEach [.Name x p1,.Name y p2] X.env).map (·.2)=assign (.Name x p1) X.env::(assignEach [.Name y p2] X.env).map (·.2):=by rfl)(g2:(assignEach [.Name y p2] X.env).map (·.2)=assign (.Name y p2) X.env::(assignEach [] X.env).map (·.2):=by rfl)
  (hs:∀x,foldedSetIterable e X.env x=pure x:=by intro _;rfl):
  DS Z X EE (.For (.Tuple [.Name x p1,.Name y p2] kt p3) e body [] pos) (dForP i j di s1):=by
 refine PS.mono (x0w hp hc hl (x4w hc (q5u (q3r i hN hi hx hf) (q5u (q3r j hN hj hy hf') x2t g2) g1) hn hst) hb hs) ?_;rintro D σ H ⟨G,e,rel,h⟩;refine⟨G,e,rel,(q02 h).imp (fun ps e1 h G1 H1 J r1 q1 W0=>?_) fun _ _ h=>h⟩
 have h:=PostS.trans q1 h;refine⟨fun k m σ' H'=>m=ps.length-k/\k<=ps.length/\∃G' e',Rel X.K Z G' σ' H' e'/\Same G1 G'/\PostS X.K Z EE D G1 (forP i j s1 (ps.drop k) e'),⟨ps.length,by omega,w1a _,G1,e1,r1,.refl _,h⟩,?_⟩
 rintro k m σ' H' ⟨rfl,hk,G',e',r',s',h'⟩
 by_cases hlt:k<ps.length
 ·refine .inr ⟨W0.go k G' H' s' r'.sub hlt,fun σ'' H''=>∃G' e',Rel X.K Z G' σ'' H'' e'/\Same G1 G'/\PostS X.K Z EE D G1 (forP i j s1 (ps.drop (k+1)) e'),?_,fun v H2 hy=>?_⟩
  ·rintro σ'' H'' ⟨G'',e'',r'',s'',h''⟩;exact⟨ps.length-(k+1),by omega,rfl,hlt,G'',e'',r'',s'',h''⟩
  ·have hp:ps[k]?=some ((ps[k]).1,(ps[k]).2):=by rw[w0d hlt]
   obtain⟨g3,hgo⟩:=W0.yld k G' H' v H2 s' r'.sub hy _ _ hp;rw[q8c hp]at h';exact hgo i j σ' _ fun y z py pz=>x50 (p:=((ps[k]).1,(ps[k]).2)) (r'.grow g3) s' py pz h' fun G'' σ'' H'' e'' r'' s'' h''=>⟨G'',e'',r'',s'',h''⟩
 ·have:k=ps.length:=by omega
  subst this;rw[w2j]at h';exact .inl ⟨W0.stop _ G' H' s' r'.sub (by omega),h' G' σ' H' r' s'⟩
theorem x36:∀σ H Q,liftF K Z EE (dCompP js di c d) σ H Q->tComp (liftI K Z EE di) 2 js (gTup K 2 (gCons (gName 0) (gCons (gName 1) gNil))) (cT K c) (cE K d) σ H Q:=by
 rintro σ H Q ⟨G,e,rel,h⟩;simp only[dCompP,R.holds_bind]at h;refine⟨G,e,rel,h.imp (fun ps e1 h G1 H1 J r1 s1 W0=>?_) fun _ _ h=>h⟩
 unfold compPK at h;split at h
 ·rename_i hl;split at h
  ·rename_i out ho;obtain⟨G2,s2,r2⟩:=r1.frzs js;have W1:Walk2 K G2 J ps:=⟨fun i G H a=>W0.go i G H (s2.trans a),fun i G H x H' a=>W0.yld i G H x H' (s2.trans a),fun i G H a=>W0.stop i G H (s2.trans a)⟩
   exact x8w W1 r2 (s1.trans s2) hl (ionone r2) ho h
  ·exact h.elim
 ·exact h.elim
theorem x1g(hc:X.calm=true)(hi:DI Z X EE (.Tuple [.Name x p1,.Name y p2] kt p3) iter di)(ok:compOk sc scope N Nf js=true)
  (ht:∀Z' cl C s₀ H₀ ex,DTs Z' (X.cp ([x,y]++Nf) scope cl C s₀ H₀ ex) (fun _=>E0) ifs c)(he:∀Z' cl C s₀ H₀ ex,DE Z' (X.cp ([x,y]++Nf) scope cl C s₀ H₀ ex) (fun _=>E0) elt d)
  (hg:∀cl C s₀ H₀ ex,PG (X.cp ([x,y]++Nf) scope cl C s₀ H₀ ex) (.Tuple [.Name x p1,.Name y p2] kt p3) (gTup X.K 2 (gCons (gName 0) (gCons (gName 1) gNil))))
  (hsc:X.env.scope=sc:=by rfl)(hN:X.N=N:=by rfl)(hs:∀x,foldedSetIterable iter X.env x=pure x:=by intro _;rfl):
  DF Z X EE (.ListComp elt [⟨.Tuple [.Name x p1,.Name y p2] kt p3,iter,ifs,0⟩] scope pos) (dCompP js di c d):=by
 exact PE.mono (x02 (Nl:=[x,y]) (tc:=cT X.K c) (te:=cE X.K d) hc hi ok hg (x0p ht) (x3z he) hsc hN hs) x36
noncomputable def pairsW:List W->Option (List (W×W))
 |[]=>some []
 |.tup [u,v]::ws=>(pairsW ws).map ((u,v)::·)
 |_=>none
noncomputable def srcP(d:Den W):Den (List (W×W)):=fun e=>(d e).bind fun w e1=>match seqW w with
 |some ws=>ofOpt (pairsW ws) e1
 |none=>.no
theorem q9t:∀{ws:List W}{ps:List (W×W)},pairsW ws=some ps->ws.length=ps.length/\∀(i:Nat) u v,ps[i]?=some (u,v)->ws[i]?=some (.tup [u,v])
 |[],ps,h=>by cases h;exact⟨rfl,fun i u v z=>by simp at z⟩
 |w::ws,ps,h=>by
  unfold pairsW at h;split at h
  ·rename_i z;cases z
  ·rename_i u v ws' z;cases z;obtain⟨q,hq,rfl⟩:=w0g.mp h;obtain⟨h1,h2⟩:=q9t hq;refine⟨by simp[h1],fun i u' v' z=>?_⟩
   cases i with
   |zero=>simp at z;simp[z.1,z.2]
   |succ i=>simp only[w0z]at z |-;exact h2 i _ _ z
  ·cases h
theorem q9u{J:It}{SQ:Hp->Prop}(W0:Walk J xs SQ)(rp:Reps K G1 ws xs)(hp:pairsW ws=some ps)(hSQ:∀G' H',Same G1 G'->Same G' H'->SQ H'):Walk2 K G1 J ps:=by
 obtain⟨hl,hg⟩:=q9t hp;have hx:=rp.length;refine⟨fun i G H a b h=>W0.go i H (hSQ G H a b) (by omega),fun i G H x H' a b hy u v h=>?_,fun i G H a b h=>W0.stop i H (hSQ G H a b) (by omega)⟩
 have hlt:i<ps.length:=(w0a.mp h).1;obtain⟨rfl,hx'⟩:=W0.yld i H x H' (hSQ G H a b) hy (by omega);refine⟨Grow.refl b,fun m n σ Q hQ=>?_⟩
 obtain⟨w,hw,pw⟩:=rp.getV hx';rw[hg i u v h]at hw;cases hw;have pw:=Rep.mono a _ pw;obtain⟨c,ys,rfl,hq,y1,q1,rfl,p1,y2,q2,rfl,p2,rfl⟩:=pw;exact⟨c,[y1,y2],rfl,b.tup hq,rfl,y1,[y2],rfl,y2,[],rfl,rfl,hQ y1 y2 p1 p2⟩
theorem q7k{tg l:Expr}(hl:DE Z X EE l d0):DI Z X EE tg l (srcP d0):=by
 refine PI.mono (q77 hl) ?_;rintro σ H RR ⟨G,e,rel,h⟩;simp only[srcP,R.holds_bind]at h;refine⟨G,e,rel,h.imp (fun w e1 h G1 v1 H1 r1 s1 p1=>?_) fun _ _ h=>h⟩
 split at h
 ·rename_i ws hw;obtain⟨ps,hp,h⟩:=ofOpt_holds.mp h;cases w with
  |tup us=>
   cases hw;obtain⟨a,xs,rfl,hq,rp⟩:=p1;exact⟨a,rfl,.inr ⟨⟨xs,r1.sub.tup hq⟩,h _ _ _ r1 s1 (q9u x08 rp hp fun G' H' s s'=>Same.tup s' (Same.tup s hq))⟩⟩
  |lst us=>
   cases hw;obtain⟨a,xs,rfl,hq,rp⟩:=p1;exact⟨a,rfl,.inl ⟨⟨xs,r1.sub.seq hq⟩,h _ _ _ r1 s1 (q9u x07 rp hp fun G' H' s s'=>Same.seq s' (Same.seq s hq))⟩⟩
  |_=>cases hw
 ·exact h.elim
theorem x51{t':Nat}{fp:List Addr}{b:Addr}{o:HO}(I:Inv X pins σ H s)(k:∀b o,b∉fp->s.heap.get? b=some o->h'.get? b=some o)(hf:∀b∈fp,FpOk X pins H b)(hp:s.heap.objs.size<=b)(new:ObjOk X.prog X.w (upd H b o) h' b o):Inv X pins σ (upd H b o) {s with heap:=h',toks:=t'}:=by
 have hn:H b=none:=I.hok.fresh hp;have ne:∀c u,H c=some u->c≠b:=fun c u e=>q0k e hn
 have nfp:∀c u,H c=some u->c∉fp:=fun c u e z=>by rw[(hf c z).1]at e;cases e
 have lt:∀c o,s.heap.get? c=some o->c≠b:=fun c o e=>w0o (w0m (Heap.lt_size e) hp)
 refine I.step (g':=s.gens) (d':=s.drawn) (ch:=fp) (fun c hc=>?_) (fun c o _ _ hc e _=>k c o hc e) (fun c o _ _ hc e _=>⟨o.slots,k c o hc e⟩) (fun c o _ e n=>by rw[q0c (lt c o e)];exact n)
  (fun c o hc e=>⟨o,k c o hc e⟩) (fun c xs e=>by rw[q0c (ne c _ e)];exact e) (fun c o u e=>by rw[q0c (ne c _ e)];exact e) (fun c ps e=>⟨#[],by rw[q0c (ne c _ e),e];simp⟩) (fun m hm=>?_) (fun c u e=>?_) I.bare
 ·obtain⟨f0,f1,f2,f3,f4,f5⟩:=hf c hc;exact⟨f3,f1,f4,f5⟩
 ·obtain⟨o,es,ep,ho,r⟩:=hm;exact⟨o,es,ep,k _ o (fun z=>(hf _ z).2.1 rfl) ho,r⟩
 ·by_cases hb:c=b
  ·subst hb;rw[q0f]at e;cases e;exact new
  ·rw[q0c hb]at e;refine(I.hok c u e).stay (fun d v hd q=>k d v ?_ q) (fun d q=>by rw[q0c (ne d _ q)];exact q) fun d xs _ q=>by rw[q0c (ne d _ q)];exact q
   rcases hd with z|z
   ·rw[z];exact nfp c u e
   ·exact nfp d _ z
end
theorem x52{p3:Pos}(hN:X.N.Nodup)(hc:X.calm=true)
  (hi:X.N[0]?=some x:=by rfl)(hx:Loc X.env.scope x:=by walk_at "3")(hf:X.fn x=true\/X.env.scope.names.lookup x=some .local:=by walk_at "2")
  (hj:X.N[1]?=some y:=by rfl)(hy:Loc X.env.scope y:=by walk_at "3")(hf':X.fn y=true\/X.env.scope.names.lookup y=some .local:=by walk_at "2")
  (hn:(assignEach [.Name x p1,.Name y p2] X.env).length=2:=by rfl)(hst:(assignEach [.Name x p1,.Name y p2] X.env).findIdx? (·.1)=none:=by rfl)
  (g1:(assignEach [.Name x p1,.Name y p2] X.env).map (·.2)=assign (.Name x p1) X.env::(assignEach [.Name y p2] X.env).map (·.2):=by rfl)(g2:(assignEach [.Name y p2] X.env).map (·.2)=assign (.Name y p2) X.env::(assignEach [] X.env).map (·.2):=by rfl):
  PG X (.Tuple [.Name x p1,.Name y p2] kt p3) (gTup X.K 2 (gCons (gName 0) (gCons (gName 1) gNil))):=
 x4w hc (q5u (q3r 0 hN hi hx hf) (q5u (q3r 1 hN hj hy hf') x2t g2) g1) hn hst
section
variable{di:Den (List (W×W))}{b:List S->SR}{j:Nat}{c:Prop} [Decidable c]{s t:SR}{k:List S->SR}{v:Value}{st:S}
theorem y2x:dForP i j di b e=(di e).stm fun ps e1=>forP i j b ps e1:=rfl
theorem x8x:(SR.nx e).turnT k=k e:=rfl
theorem x8y:(SR.ct e).turnT k=k e:=rfl
theorem x8z:(SR.bk e).turnT k=.nx e:=rfl
theorem x80:(SR.rt st e).turnT k=.rt st e:=rfl
theorem x81:(SR.ex v e).turnT k=.ex v e:=rfl
theorem x82:(SR.no).turnT k=.no:=rfl
theorem x53:(if c then s else t).turnT k=if c then s.turnT k else t.turnT k:=by split<;>rfl
noncomputable def srcPW(e:List S):Option (List W)->R (List (W×W))
 |some ws=>ofOpt (pairsW ws) e
 |none=>.no
theorem y7a:srcP d e=(d e).bind fun w e1=>srcPW e1 (seqW w):=by
 unfold srcP;congr 1
theorem x37:srcPW e (some ws)=ofOpt (pairsW ws) e:=rfl
theorem x83:compPK js cc d ps e=if ps.length<=16777216 then compR (frzs js e) (compP cc d (pjS js (frzs js e)) ps)else .no:=by
 unfold compPK compR;split
 ·cases compP cc d (pjS js (frzs js e)) ps<;>rfl
 ·rfl
theorem x84:dCompP js di cc d e=(di e).bind fun ps e1=>compPK js cc d ps e1:=rfl
theorem x38{pe:List S}{p:W×W}:compP cc d pe (p::ps)=(match cc (.fr p.1::.fr p.2::pe)with
  |.ok true e1=>(match d e1 with|.ok y _=>(compP cc d pe ps).map (y::·)|_=>none)
  |.ok false _=>compP cc d pe ps
  |_=>none):=rfl
theorem q9v{cc:Den Bool}{d:Den W}{pe:List S}{q:W×W->Bool}{g:W×W->W}:∀(ps:List (W×W)),(∀p∈ps,∃e1,cc (.fr p.1::.fr p.2::pe)=.ok (q p) e1/\(q p=true->∃e2,d e1=.ok (g p) e2))->compP cc d pe ps=some ((ps.filter q).map g)
 |[],_=>rfl
 |p::ps,h=>by
  obtain⟨e1,h1,h2⟩:=h p (by simp);have ih:=q9v (cc:=cc) (d:=d) (pe:=pe) (q:=q) (g:=g) ps fun u hu=>h u (by simp[hu])
  rw[x38,h1,ih];cases hq:q p with
  |true=>
   obtain⟨e2,h3⟩:=h2 hq;simp only[hq,h3,List.filter_cons,if_true];rfl
  |false=>simp[hq,List.filter_cons]
end
theorem x54(l:Addr)(items:Array Value)(n:Nat)(x:Int)(u:Tok)(dd:Option Addr)(sl:Array (Option Value))(hc0:¬(!Builtin.List.listFitsIndex x)=true)(hc1:¬items.size*x.toNat>(2^63-1) / 8)(hc2:¬Builtin.List.listTooLong (items.size*x.toNat)=true):
  Meets (Builtin.«list.__mul__» ⟨[.ref l,.int x u],[]⟩) (fun _ R s=>s.heap.get? l=some {cls:=.type "list", dict:=dd,data:=.seq items n,slots:=sl}/\R (.ok (.ret (Value.ref s.heap.objs.size))) {s with heap:=s.heap.push {cls:=Value.type "list", data:=Data.seq (List.foldl (fun x1 x2=>x1++x2) #[] (List.replicate (if items.isEmpty=true then 0 else x.toNat) items))},toks:=s.toks}):=
 .of_wp fun prog w A R s h=>by
  obtain⟨hp,g,d,tk,os⟩:=s;obtain⟨hl,h⟩:=h;have hsz:=PySem.AutoListH.joined_fits hc2
  wp_walk;refine wpAny_ite_false (decide_eq_false (w3s.mpr hsz)) ?_;wp_walk;exact⟨_,rfl,h⟩
theorem x55(a:Int)(t:Tok)(l:Addr)(items:Array Value)(n:Nat)(dd:Option Addr)(sl:Array (Option Value)):
  Meets (Builtin.«int.__rmul__» ⟨[.int a t,.ref l],[]⟩) (fun _ R s=>s.heap.get? l=some {cls:=.type "list", dict:=dd,data:=.seq items n,slots:=sl}/\R (.ok (.ret Value.notImplemented)) s):=
 .of_wp fun prog w A R s h=>by obtain⟨hp,g,d,tk,os⟩:=s;obtain⟨hl,h⟩:=h;wp_walk;exact⟨_,rfl,h⟩
def rRepS(K:PySem.W.Frag):R2:=fun x y H Q=>∃l k xs,x=.ref l/\y=.int k/\SqL K H l xs/\-(2^63)<=k/\k<2^63/\xs.length*k.toNat<=sizeLine /\
 ∀p,H p=none->Q (.ref p) (upd H p (.lst (List.replicate k.toNat xs).flatten))
theorem y2y:OpR X (binaryOp .Mult) (rRepS X.K):=by
 intro pins s σ H x y v u Q I rx ry h;obtain⟨l,k,xs,rfl,rfl,hH,h1,h2,hz,q⟩:=h;cases rx;obtain⟨t,rfl⟩:=ry;obtain⟨its,r,p1,_⟩:=I.list hH;obtain⟨⟨cls,dd,data,sl⟩,ho,hc,n,hd⟩:=id p1.isList;simp only at hc hd;subst hc hd;have hl:=r.length;have hlen:its.toArray.size*k.toNat<=sizeLine:=by rw[w0c,<- hl];exact hz
 have hcap:¬its.toArray.size*k.toNat>(2^63-1) / 8:=by
  have:(sizeLine:Nat)<=(2^63-1) / 8:=by decide
  omega
 have hfit:¬(!Builtin.List.listFitsIndex k)=true:=by
  rw[fitsIndex_both h1 h2];exact w1t
 have hlong:¬Builtin.List.listTooLong (its.toArray.size*k.toNat)=true:=by
  rw[notLongL hlen];exact w1t
 have hnew:List.foldl (fun x1 x2=>x1++x2) #[] (List.replicate (if its.toArray.isEmpty=true then 0 else k.toNat) its.toArray)=(List.replicate k.toNat its).flatten.toArray:=by
  have f0:∀m:Nat,List.foldl (fun x1 x2=>x1++x2) #[] (List.replicate m its.toArray)=(List.replicate m its).flatten.toArray:=fun m=>by
   have:=q9n its m [];rw[w2y]at this;exact this
  rw[f0];cases its with
  |nil=>simp
  |cons a r'=>rw[if_neg (by simp)]
 refine wpAny_binaryOp_repeat_ref (T:="list") (U:="int") (by decide) ⟨_,ho,rfl⟩ (fun s'=>typeIs_int s' k t) noFill_list_mul F.fills_int_mul F.slot_int_rmul repeat_list F.slot_int_index.lookup
  (PySem.call_meets F.slot_int_rmul (typeIs_int s k t) F.entry_int_rmul (F.args_int_rmul_2 _ _) (x55 k t l its.toArray n dd sl)
   ⟨ho,rfl,⟨_,ho,rfl⟩,PySem.call_meets F.slot_list_mul ⟨_,ho,rfl⟩ F.entry_list_mul (F.args_list_mul_2 _ _) (x54 l its.toArray n k t dd sl hfit hcap hlong) ⟨ho,?_⟩⟩)
 rw[hnew];exact⟨.ref _,_,I.lnew (t':=s.toks) (r.rep k.toNat) (by rw[y1a,w4d];exact hz),rfl,q _ I.fresh⟩
noncomputable def repW:W->W->Option W
 |.lst ws,.int k=>if okI k=true/\ws.length*k.toNat<=16777216 then some (.lst (List.replicate k.toNat ws).flatten)else none
 |_,_=>none
theorem x1h(r:Reps K G ws xs):∀k:Nat,Reps K G (List.replicate k ws).flatten (List.replicate k xs).flatten
 |0=>rfl
 |k+1=>by
  rw[w1c,w1c,w1p,w1p];exact r.append (x1h r k)
theorem y7b:Op2 K (rRepS K) repW:=by
 intro G H x y wx wy w Q s px py hf h;unfold repW at hf;split at hf
 ·rename_i ws k;split at hf
  ·rename_i hc;cases hf;cases(show y=V.int k from py);obtain⟨l,xs,rfl,hq,rp⟩:=px;have hb:=q6i hc.1;refine⟨l,k,xs,rfl,rfl,s.seq hq,by omega,by omega,by rw[sizeLine_eq,rp.length];exact hc.2,fun p hp=>?_⟩
   have g:Grow G H (upd G p (.lst (List.replicate k.toNat xs).flatten)) (upd H p (.lst (List.replicate k.toNat xs).flatten)):=Grow.laid s hp _;exact h _ _ _ g ⟨p,_,rfl,SqL.of q0f,Reps.mono g.gg _ (x1h rp _)⟩
  ·cases hf
 ·cases hf
section
variable{a b:Expr}
theorem x56(ha:DE Z X EE a da)(hb:DE Z X EE b db):DE Z X EE (.BinOp a .Mult b pos) (dOp repW da db):=q5v y2y y7b ha hb
end
theorem y7c{k:Int}:repW (.lst ws) (.int k)=if okI k=true/\ws.length*k.toNat<=16777216 then some (.lst (List.replicate k.toNat ws).flatten)else none:=rfl
section
variable{prog:Program}{w:World}{E:Value->Shared->Prop}
theorem x1i{b:Addr}{x:Value}{Q:Value->Shared->Prop}(gi:s.heap.IsTupleIter j b k)(gt:s.heap.IsTuple b vs)(gx:vs[k]?=some x)
  (hQ:∀h',h'.IsTupleIter j b (k+1)->Heap.SameBut j s.heap h'->Q x {s with heap:=h'}):wpAny (model prog w) A (Builtin.SmallTypes.nextOf (.ref j)) Q E s:=by
 obtain⟨o,ho,hc,hd⟩:=id gi;obtain⟨ot,hot,_,m,hdt⟩:=gt;unfold Builtin.SmallTypes.nextOf;refine wpAny_bind (wpAny_callSpecial?_slot (name:=Str.ofString "__next__") gi.typeIs F.slot_tuple_iterator_next (wpAny_call_entry F.slot_tuple_iterator_next gi.typeIs F.entry_tuple_iterator_next ?_ (F.args_tuple_iterator_next_1 _)));show wpAny _ _ (field (.ref j) 0 >>= _) _ _ s;refine wpAny_bind (wpAny_field ho hd (x:=.ref b) rfl ?_);show wpAny _ _ (if(Value.ref b==Value.none)=true then _ else _) _ _ s;rw[if_neg (show ¬((Value.ref b==Value.none)=true)from w1t)];show wpAny _ _ (field (.ref j) 1 >>= _) _ _ s;refine wpAny_bind (wpAny_field ho hd (x:=.int k 0) rfl ?_);show wpAny _ _ (seqItems? (.ref b) >>= _) _ _ s;refine wpAny_bind (wpAny_seqItems hot hdt ?_);simp only[w1x,gx];refine wpAny_bind (wpAny_setField ho hd (by simp) (wpAny_pure ⟨x,rfl,wpAny_pure (hQ _ ⟨_,Heap.get?_update_self _ ho (Obj.isFreed_of_fields (Obj.data_mapFields hd _)),(Obj.cls_mapFields ..).trans hc,by rw[Obj.data_mapFields hd];simp[rawInt]⟩ (Heap.SameBut.update ..))⟩))
theorem x2e{b:Addr}{Q:Value->Shared->Prop}(hh:A.handled=none)(gi:s.heap.IsTupleIter j b k)(gt:s.heap.IsTuple b vs)(gx:vs[k]?=none)
  (hE:∀h' e,Heap.ExtBut j s.heap h'->(∃o,h'.get? e=some o/\o.cls=.type "StopIteration")->E (.ref e) {s with heap:=h'}):wpAny (model prog w) A (Builtin.SmallTypes.nextOf (.ref j)) Q E s:=by
 obtain⟨o,ho,hc,hd⟩:=id gi;obtain⟨ot,hot,_,m,hdt⟩:=gt;unfold Builtin.SmallTypes.nextOf;refine wpAny_bind (wpAny_callSpecial?_slot (name:=Str.ofString "__next__") gi.typeIs F.slot_tuple_iterator_next (wpAny_call_entry F.slot_tuple_iterator_next gi.typeIs F.entry_tuple_iterator_next ?_ (F.args_tuple_iterator_next_1 _)));show wpAny _ _ (field (.ref j) 0 >>= _) _ _ s;refine wpAny_bind (wpAny_field ho hd (x:=.ref b) rfl ?_);show wpAny _ _ (if(Value.ref b==Value.none)=true then _ else _) _ _ s;rw[if_neg (show ¬((Value.ref b==Value.none)=true)from w1t)];show wpAny _ _ (field (.ref j) 1 >>= _) _ _ s;refine wpAny_bind (wpAny_field ho hd (x:=.int k 0) rfl ?_);show wpAny _ _ (seqItems? (.ref b) >>= _) _ _ s;refine wpAny_bind (wpAny_seqItems hot hdt ?_);simp only[w1x,gx];refine wpAny_bind (wpAny_rule (wpAny_bind (wpAny_setField ho hd (by simp) ?_)));show wpAny _ _ (newExc (.type "StopIteration") [] >>= _) _ _ _;refine wpAny_bind ?_;simp only[newExc,newTuple];refine wpAny_bind (wpAny_newObj_type ?_ (by size_fits));refine wpAny_bind (m:=firstArgMember _ _) (wpAny_of_eq (a:=Value.none) (by first|rfl|(simp only[firstArgMember];rfl)) (wpAny_newObj_type ?_ (by size_fits)));simp only[raiseNew];refine wpAny_bind (wpAny_handled ?_)
 first|rw[show A.in1.handled=none from hh]|rw[hh]
 refine wpAny_bind (wpAny_pure (wpAny_throw (hE _ _ (((Heap.SameBut.update ..).extBut.push _).push _) ⟨_,Heap.get?_push_size _ rfl,rfl⟩)))
def IsIt(t:Bool)(j b:Addr)(k:Nat)(h:Heap):Prop:=if t=true then h.IsTupleIter j b k else h.IsListIter j b k
def IsSq(t:Bool)(b:Addr)(vs:Array Value)(h:Heap):Prop:=if t=true then h.IsTuple b vs else h.IsList b vs
theorem IsIt.keep{t:Bool}{b:Addr}(x:IsIt t j b k h)(e:∀o,h.get? j=some o->h'.get? j=some o):IsIt t j b k h':=by
 cases t with
 |true=>obtain⟨o,ho,r⟩:=(show h.IsTupleIter j b k from x);exact⟨o,e o ho,r⟩
 |false=>obtain⟨o,ho,r⟩:=(show h.IsListIter j b k from x);exact⟨o,e o ho,r⟩
theorem IsIt.obj{t:Bool}{b:Addr}(x:IsIt t j b k h):∃o,h.get? j=some o/\∀v,o.data≠.cell v:=by
 cases t with
 |true=>obtain⟨o,ho,c,d⟩:=(show h.IsTupleIter j b k from x);exact⟨o,ho,fun v z=>by rw[d]at z;cases z⟩
 |false=>obtain⟨o,ho,c,d⟩:=(show h.IsListIter j b k from x);exact⟨o,ho,fun v z=>by rw[d]at z;cases z⟩
theorem IsSq.keep{t:Bool}{b:Addr}(x:IsSq t b vs h)(e:∀o,h.get? b=some o->h'.get? b=some o):IsSq t b vs h':=by
 cases t with
 |true=>obtain⟨o,ho,r⟩:=(show h.IsTuple b vs from x);exact⟨o,e o ho,r⟩
 |false=>obtain⟨o,ho,r⟩:=(show h.IsList b vs from x);exact⟨o,e o ho,r⟩
theorem q80{t:Bool}{b:Addr}{x:Value}{Q:Value->Shared->Prop}(gi:IsIt t j b k s.heap)(gt:IsSq t b vs s.heap)(gx:vs[k]?=some x)
  (hQ:∀h',IsIt t j b (k+1) h'->Heap.SameBut j s.heap h'->Q x {s with heap:=h'}):wpAny (model prog w) A (Builtin.SmallTypes.nextOf (.ref j)) Q E s:=by
 cases t with
 |true=>exact x1i gi gt gx hQ
 |false=>exact wpAny_nextOf_list_item gi gt gx hQ
theorem x57{t:Bool}{b:Addr}{Q:Value->Shared->Prop}(hh:A.handled=none)(gi:IsIt t j b k s.heap)(gt:IsSq t b vs s.heap)(gx:vs[k]?=none)
  (hE:∀h' e,Heap.ExtBut j s.heap h'->(∃o,h'.get? e=some o/\o.cls=.type "StopIteration")->E (.ref e) {s with heap:=h'}):wpAny (model prog w) A (Builtin.SmallTypes.nextOf (.ref j)) Q E s:=by
 cases t with
 |true=>exact x2e hh gi gt gx hE
 |false=>exact wpAny_nextOf_list_end hh gi gt gx hE
structure Apart(z I O i j a b:Addr):Prop where
 Iz:I≠z
 Oz:O≠z
 iz:i≠z
 jz:j≠z
 IO:I≠O
 Ii:I≠i
 Ij:I≠j
 Oi:O≠i
 Oj:O≠j
 ij:i≠j
 az:a≠z
 aO:a≠O
 ai:a≠i
 aj:a≠j
 bz:b≠z
 bO:b≠O
 bi:b≠i
 bj:b≠j
theorem y2z{z I O i b:Addr}{t u:Bool}{xs:Array Value}{x y p q:Value}{Q:Value->Shared->Prop}(D:Apart z I O i j a b)
  (gz:IsZip s.heap z I O .none)(gI:IsPair s.heap I (.ref i) (.ref j))(gO:IsPair s.heap O p q)
  (g1:IsIt t i a k s.heap)(g2:IsIt u j b k s.heap)(l1:IsSq t a xs s.heap)(l2:IsSq u b ys s.heap)(hx:xs[k]?=some x)(hy:ys[k]?=some y)
  (hQ:∀h',IsZip h' z I O (rawInt s.heap.objs.size)->IsPair h' O x y->IsIt t i a (k+1) h'->IsIt u j b (k+1) h'->IsPair h' s.heap.objs.size x y->h'.objs.size=s.heap.objs.size+1 ->
   (∀c o,c≠z->c≠O->c≠i->c≠j->s.heap.get? c=some o->h'.get? c=some o)->Q (.ref s.heap.objs.size) {s with heap:=h'}):
  wpAny (model prog w) A (Builtin.«zip.__next__» ⟨[.ref z],[]⟩) (fun fin s'=>∃v,fin=.done (.ret v)/\Q v s') E s:=by
 show wpAny _ _ (field (.ref z) 2 >>= _) _ _ _;refine wpAny_bind (wpAny_field gz rfl (x:=.bool false) rfl ?_);show wpAny _ _ (field (.ref z) 3 >>= _) _ _ _;refine wpAny_bind (wpAny_field gz rfl (x:=.ref I) rfl (wpAny_bind (wpAny_seqItems gI rfl ?_)));show wpAny _ _ (Builtin.SmallTypes.ownedTupleIsFree (.ref z) >>= _) _ _ _;refine wpAny_bind ?_;unfold Builtin.SmallTypes.ownedTupleIsFree;refine wpAny_bind (wpAny_field gz rfl (x:=.none) rfl (wpAny_pure ?_));simp only[if_true];refine wpAny_bind (wpAny_rule (wpAny_bind (wpAny_field gz rfl (x:=.ref O) rfl (wpAny_bind (wpAny_setField_rec gz (by simp) fun ha za sa=>?_)))))
 replace za:IsZip ha z I O .ellipsis:=za
 refine wpAny_bind ?_;simp only[List.zipIdx_cons,List.zipIdx_nil,w2d,w3u];refine wpAny_bind (wpAny_bind (wpAny_onRaise ?_));show wpAny _ _ (Builtin.SmallTypes.nextOf (.ref i) >>= _) _ _ _;refine wpAny_bind (q80 (s:={s with heap:=ha}) (g1.keep fun o e=>sa.extBut _ _ D.iz e) (l1.keep fun o e=>sa.extBut _ _ D.az e) hx fun hb ib sb=>wpAny_pure ?_)
 have Ob:IsPair hb O p q:=sb.extBut _ _ D.Oi (sa.extBut _ _ D.Oz gO);refine wpAny_bind (wpAny_seqItems Ob rfl (wpAny_bind (wpAny_updateSeq_pair Ob fun hc Oc sc=>?_)))
 replace Oc:IsPair hc O x q:=Oc
 refine wpAny_bind (wpAny_letGo (wpAny_pure (wpAny_bind (wpAny_bind (wpAny_onRaise ?_)))));show wpAny _ _ (Builtin.SmallTypes.nextOf (.ref j) >>= _) _ _ _;refine wpAny_bind (q80 (s:={s with heap:=hc}) (g2.keep fun o e=>sc.extBut _ _ D.Oj.symm (sb.extBut _ _ D.ij.symm (sa.extBut _ _ D.jz e))) (l2.keep fun o e=>sc.extBut _ _ D.bO (sb.extBut _ _ D.bi (sa.extBut _ _ D.bz e))) hy fun hd jd sd=>wpAny_pure ?_)
 have Od:IsPair hd O x q:=sd.extBut _ _ D.Oj Oc;refine wpAny_bind (wpAny_seqItems Od rfl (wpAny_bind (wpAny_updateSeq_pair Od fun he Oe se=>?_)))
 replace Oe:IsPair he O x y:=Oe
 refine wpAny_bind (wpAny_letGo (wpAny_pure (wpAny_pure (wpAny_bind (wpAny_seqItems Oe rfl (wpAny_bind (wpAny_newTuple ?_)))))));have sz:he.objs.size=s.heap.objs.size:=by rw[se.1,sd.1,sc.1,sb.1,sa.1]
 have ze:IsZip he z I O .ellipsis:=se.extBut _ _ D.Oz.symm (sd.extBut _ _ D.jz.symm (sc.extBut _ _ D.Oz.symm (sb.extBut _ _ D.iz.symm za)));have ke:∀c o,c≠z->c≠O->c≠i->c≠j->s.heap.get? c=some o->he.get? c=some o:=fun c o c1 c2 c3 c4 e=>se.extBut _ _ c2 (sd.extBut _ _ c4 (sc.extBut _ _ c2 (sb.extBut _ _ c3 (sa.extBut _ _ c1 e))))
 have ie:IsIt t i a (k+1) he:=ib.keep fun o e=>se.extBut _ _ D.Oi.symm (sd.extBut _ _ D.ij (sc.extBut _ _ D.Oi.symm e))
 have je:IsIt u j b (k+1) he:=jd.keep fun o e=>se.extBut _ _ D.Oj.symm e
 have zlt:z<he.objs.size:=Heap.lt_size ze;show wpAny _ _ (Builtin.SmallTypes.ownedTupleHandOut (.ref z) (.ref he.objs.size) >>= _) _ _ _;refine wpAny_bind ?_;unfold Builtin.SmallTypes.ownedTupleHandOut;have zf:IsZip (he.push {cls:=.type "tuple", data:=.seq #[x,y]}) z I O .ellipsis:=Heap.get?_push_of_some _ ze;refine wpAny_bind (wpAny_setField_rec zf (by simp) fun hg zg sg=>?_)
 replace zg:IsZip hg z I O (rawInt he.objs.size):=zg
 refine wpAny_setField_rec zg (by simp) fun hk zk sk=>?_
 replace zk:IsZip hk z I O (rawInt he.objs.size):=zk
 have up:∀c o,c≠z->he.get? c=some o->hk.get? c=some o:=fun c o c1 e=>sk.extBut _ _ c1 (sg.extBut _ _ c1 (Heap.get?_push_of_some _ e))
 have Tk:IsPair hk he.objs.size x y:=sk.extBut _ _ (w3p zlt) (sg.extBut _ _ (w3p zlt) (Heap.get?_push_size _ rfl));have nk:hk.objs.size=he.objs.size+1:=by rw[sk.1,sg.1,Heap.size_push]
 rw[sz]at zk Tk nk;refine wpAny_pure ⟨_,rfl,?_⟩;show Q (.ref he.objs.size) _;rw[sz];exact hQ hk zk (up _ _ D.Oz Oe) (ie.keep fun o e=>up _ o D.iz e) (je.keep fun o e=>up _ o D.jz e) Tk nk fun c o c1 c2 c3 c4 e=>up c o c1 (ke c o c1 c2 c3 c4 e)
theorem y7d{z I O i b:Addr}{t u:Bool}{xs:Array Value}{p q:Value}{Q:Fin->Shared->Prop}(hh:A.handled=none)(D:Apart z I O i j a b)
  (gz:IsZip s.heap z I O .none)(gI:IsPair s.heap I (.ref i) (.ref j))(gO:IsPair s.heap O p q)
  (g1:IsIt t i a k s.heap)(g2:IsIt u j b k s.heap)(l1:IsSq t a xs s.heap)(l2:IsSq u b ys s.heap)(hend:xs[k]?=none\/ys[k]?=none)
  (hE:∀h' e,(∀c o,c≠z->c≠O->c≠i->c≠j->s.heap.get? c=some o->h'.get? c=some o)->(∃o,h'.get? e=some o/\o.cls=.type "StopIteration")->E (.ref e) {s with heap:=h'}):
  wpAny (model prog w) A (Builtin.«zip.__next__» ⟨[.ref z],[]⟩) Q E s:=by
 show wpAny _ _ (field (.ref z) 2 >>= _) _ _ _;refine wpAny_bind (wpAny_field gz rfl (x:=.bool false) rfl ?_);show wpAny _ _ (field (.ref z) 3 >>= _) _ _ _;refine wpAny_bind (wpAny_field gz rfl (x:=.ref I) rfl (wpAny_bind (wpAny_seqItems gI rfl ?_)));show wpAny _ _ (Builtin.SmallTypes.ownedTupleIsFree (.ref z) >>= _) _ _ _;refine wpAny_bind ?_;unfold Builtin.SmallTypes.ownedTupleIsFree;refine wpAny_bind (wpAny_field gz rfl (x:=.none) rfl (wpAny_pure ?_));simp only[if_true];refine wpAny_bind (wpAny_rule (wpAny_bind (wpAny_field gz rfl (x:=.ref O) rfl (wpAny_bind (wpAny_setField_rec gz (by simp) fun ha za sa=>?_)))))
 replace za:IsZip ha z I O .ellipsis:=za
 refine wpAny_bind ?_;simp only[List.zipIdx_cons,List.zipIdx_nil,w2d,w3u];refine wpAny_bind (wpAny_bind (wpAny_onRaise ?_));show wpAny _ _ (Builtin.SmallTypes.nextOf (.ref i) >>= _) _ _ _;cases hx:xs[k]? with
 |none=>
  refine wpAny_bind (x57 (s:={s with heap:=ha}) hh (g1.keep fun o e=>sa.extBut _ _ D.iz e) (l1.keep fun o e=>sa.extBut _ _ D.az e) hx fun hb e sb ge=>?_)
  obtain⟨oe,hoe,hce⟩:=ge;have zb:IsZip hb z I O .ellipsis:=sb _ _ D.iz.symm za;have nz:e≠z:=fun x=>by subst x;rw[zb]at hoe;cases hoe;simp at hce
  refine wpAny_setField_rec zb (by simp) fun hc _ sc=>hE hc e (fun c o c1 _ c3 _ x=>sc.extBut _ _ c1 (sb _ _ c3 (sa.extBut _ _ c1 x))) ⟨oe,sc.extBut _ _ nz hoe,hce⟩
 |some x=>
  have hy:ys[k]?=none:=by rcases hend with h|h;rw[hx]at h;cases h;exact h
  refine wpAny_bind (q80 (s:={s with heap:=ha}) (g1.keep fun o e=>sa.extBut _ _ D.iz e) (l1.keep fun o e=>sa.extBut _ _ D.az e) hx fun hb ib sb=>wpAny_pure ?_)
  have Ob:IsPair hb O p q:=sb.extBut _ _ D.Oi (sa.extBut _ _ D.Oz gO);refine wpAny_bind (wpAny_seqItems Ob rfl (wpAny_bind (wpAny_updateSeq_pair Ob fun hc Oc sc=>?_)))
  refine wpAny_bind (wpAny_letGo (wpAny_pure (wpAny_bind (wpAny_bind (wpAny_onRaise ?_)))));show wpAny _ _ (Builtin.SmallTypes.nextOf (.ref j) >>= _) _ _ _;refine wpAny_bind (x57 (s:={s with heap:=hc}) hh (g2.keep fun o e=>sc.extBut _ _ D.Oj.symm (sb.extBut _ _ D.ij.symm (sa.extBut _ _ D.jz e))) (l2.keep fun o e=>sc.extBut _ _ D.bO (sb.extBut _ _ D.bi (sa.extBut _ _ D.bz e))) hy fun hd e sd ge=>?_)
  obtain⟨oe,hoe,hce⟩:=ge;have zd:IsZip hd z I O .ellipsis:=sd _ _ D.jz.symm (sc.extBut _ _ D.Oz.symm (sb.extBut _ _ D.iz.symm za));have nz:e≠z:=fun x=>by subst x;rw[zd]at hoe;cases hoe;simp at hce
  refine wpAny_setField_rec zd (by simp) fun he _ se=>hE he e (fun c o c1 c2 c3 c4 x=>se.extBut _ _ c1 (sd _ _ c4 (sc.extBut _ _ c2 (sb.extBut _ _ c3 (sa.extBut _ _ c1 x))))) ⟨oe,se.extBut _ _ nz hoe,hce⟩
theorem y20{z I O i b:Addr}{t u:Bool}{xs:Array Value}{x y p q:Value}{Q:Option Value->Shared->Prop}(D:Apart z I O i j a b)
  (gz:IsZip s.heap z I O .none)(gI:IsPair s.heap I (.ref i) (.ref j))(gO:IsPair s.heap O p q)
  (g1:IsIt t i a k s.heap)(g2:IsIt u j b k s.heap)(l1:IsSq t a xs s.heap)(l2:IsSq u b ys s.heap)(hx:xs[k]?=some x)(hy:ys[k]?=some y)
  (hQ:∀h',IsZip h' z I O (rawInt s.heap.objs.size)->IsPair h' O x y->IsIt t i a (k+1) h'->IsIt u j b (k+1) h'->IsPair h' s.heap.objs.size x y->h'.objs.size=s.heap.objs.size+1 ->
   (∀c o,c≠z->c≠O->c≠i->c≠j->s.heap.get? c=some o->h'.get? c=some o)->Q (some (.ref s.heap.objs.size)) {s with heap:=h'}):wpAny (model prog w) A (pyNext (.ref z)) Q E s:=by
 have hT:s.TypeIs (.ref z) "zip":=⟨_,gz,rfl⟩;unfold pyNext;exact wpAny_bind (wpAny_attempt (wpAny_callSpecial?_slot (name:=Str.ofString "__next__") hT F.slot_zip_next (wpAny_call_entry F.slot_zip_next hT F.entry_zip_next (y2z D gz gI gO g1 g2 l1 l2 hx hy fun h' a1 a2 a3 a4 a5 a6 a7=>wpAny_pure (hQ h' a1 a2 a3 a4 a5 a6 a7)) (F.args_zip_next_1 _))))
theorem y21{z I O i b:Addr}{t u:Bool}{xs:Array Value}{p q:Value}{Q:Option Value->Shared->Prop}(hh:A.handled=none)(D:Apart z I O i j a b)
  (gz:IsZip s.heap z I O .none)(gI:IsPair s.heap I (.ref i) (.ref j))(gO:IsPair s.heap O p q)
  (g1:IsIt t i a k s.heap)(g2:IsIt u j b k s.heap)(l1:IsSq t a xs s.heap)(l2:IsSq u b ys s.heap)(hend:xs[k]?=none\/ys[k]?=none)
  (hQ:∀h',(∀c o,c≠z->c≠O->c≠i->c≠j->s.heap.get? c=some o->h'.get? c=some o)->Q none {s with heap:=h'}):wpAny (model prog w) A (pyNext (.ref z)) Q E s:=by
 have hT:s.TypeIs (.ref z) "zip":=⟨_,gz,rfl⟩;unfold pyNext;refine wpAny_bind (wpAny_attempt (wpAny_callSpecial?_slot (name:=Str.ofString "__next__") hT F.slot_zip_next (wpAny_call_entry F.slot_zip_next hT F.entry_zip_next (y7d hh D gz gI gO g1 g2 l1 l2 hend fun h' e hk he=>?_) (F.args_zip_next_1 _))))
 obtain⟨o,ho,hc⟩:=he;exact wpAny_bind (wpAny_isInstance (T:="StopIteration") (b:=true) ⟨o,ho,hc⟩ isSubtype_stop (wpAny_pure (hQ _ hk)))
end
noncomputable def itT(t:Bool):String:=if t=true then "tuple_iterator" else "list_iterator"
noncomputable abbrev zq1(t:Bool)(h:Heap)(a:Addr):Heap:=h.push {cls:=.type (itT t),data:=.fields #[.ref a,.int 0 0]}
noncomputable abbrev zq2(t u:Bool)(h:Heap)(a b:Addr):Heap:=(zq1 t h a).push {cls:=.type (itT u),data:=.fields #[.ref b,.int 0 0]}
noncomputable abbrev zq3(t u:Bool)(h:Heap)(a b:Addr):Heap:=(zq2 t u h a b).push {cls:=.type "tuple", data:=.seq #[.ref h.objs.size,.ref (zq1 t h a).objs.size]}
noncomputable abbrev zq4(t u:Bool)(h:Heap)(a b:Addr):Heap:=(zq3 t u h a b).push {cls:=.type "tuple", data:=.seq #[.none,.none]}
noncomputable abbrev zq5(t u:Bool)(h:Heap)(a b:Addr):Heap:=(zq4 t u h a b).push {cls:=.type "zip", data:=.fields #[.none,.bool false,.bool false,.ref (zq2 t u h a b).objs.size,.ref (zq3 t u h a b).objs.size]}
theorem y7e(t u:Bool)(a b:Addr)(xs ys:Array Value):
  Meets (Builtin.«zip.__new__» ⟨[.type "zip", .ref a,.ref b],[]⟩) (fun _ R s=>IsSq t a xs s.heap/\IsSq u b ys s.heap/\R (.ok (.ret (.ref (zq4 t u s.heap a b).objs.size))) {s with heap:=zq5 t u s.heap a b}):=
 .of_wp fun prog w A R s hyp=>by
  obtain⟨hp,g,d,tk,os⟩:=s;obtain⟨g1,g2,h⟩:=hyp;have hsub:=sub_zip;have q2:IsSq u b ys (zq1 t hp a):=g2.keep fun o e=>Heap.get?_push_of_some _ e
  cases t with
  |false=>
   have p1:Heap.IsList (Shared.heap ⟨hp,g,d,tk,os⟩) a xs:=g1;cases u with
   |false=>
    have p2:Heap.IsList (Shared.heap ⟨hp.push {cls:=.type "list_iterator", data:=.fields #[.ref a,.int 0 0]},g,d,tk,os⟩) b ys:=q2
    wp_walk using wpAny_pyIter_list p1,wpAny_pyIter_list p2
    exact⟨_,rfl,h⟩
   |true=>
    have p2:Heap.IsTuple (Shared.heap ⟨hp.push {cls:=.type "list_iterator", data:=.fields #[.ref a,.int 0 0]},g,d,tk,os⟩) b ys:=q2
    wp_walk using wpAny_pyIter_list p1,wpAny_pyIter_tuple p2
    exact⟨_,rfl,h⟩
  |true=>
   have p1:Heap.IsTuple (Shared.heap ⟨hp,g,d,tk,os⟩) a xs:=g1;cases u with
   |false=>
    have p2:Heap.IsList (Shared.heap ⟨hp.push {cls:=.type "tuple_iterator", data:=.fields #[.ref a,.int 0 0]},g,d,tk,os⟩) b ys:=q2
    wp_walk using wpAny_pyIter_tuple p1,wpAny_pyIter_list p2
    exact⟨_,rfl,h⟩
   |true=>
    have p2:Heap.IsTuple (Shared.heap ⟨hp.push {cls:=.type "tuple_iterator", data:=.fields #[.ref a,.int 0 0]},g,d,tk,os⟩) b ys:=q2
    wp_walk using wpAny_pyIter_tuple p1,wpAny_pyIter_tuple p2
    exact⟨_,rfl,h⟩
section
variable{prog:Program}{w:World}{E:Value->Shared->Prop}
theorem x1j{t:Bool}{o:Obj}(e:h.get? j=some o)(c:o.cls=.type (itT t))(d:o.data=.fields #[.ref a,.int 0 0]):IsIt t j a 0 h:=by
 cases t with
 |true=>exact(show h.IsTupleIter j a 0 from⟨o,e,c,d⟩)
 |false=>exact(show h.IsListIter j a 0 from⟨o,e,c,d⟩)
theorem x58{t u:Bool}{b:Addr}{xs:Array Value}{Q:Value->Shared->Prop}(g1:IsSq t a xs s.heap)(g2:IsSq u b ys s.heap)
  (h:∀h',IsZip h' (s.heap.objs.size+4) (s.heap.objs.size+2) (s.heap.objs.size+3) .none->IsPair h' (s.heap.objs.size+2) (.ref s.heap.objs.size) (.ref (s.heap.objs.size+1)) ->
   IsPair h' (s.heap.objs.size+3) .none .none->IsIt t s.heap.objs.size a 0 h'->IsIt u (s.heap.objs.size+1) b 0 h'->(∀c o,s.heap.get? c=some o->h'.get? c=some o)->Q (.ref (s.heap.objs.size+4)) {s with heap:=h'}):
  wpAny (model prog w) A (call (.type "zip") [.ref a,.ref b]) Q E s:=by
 refine callType_new F.called_zip (by decide) (F.typeCall_zip_2 _ _) (F.newCall_zip_2 _ _) (fun obj=>F.args_object_init_3 obj _ _) F.entry_zip_new (y7e t u a b xs ys) ⟨g1,g2,?_⟩
 have n1:(zq1 t s.heap a).objs.size=s.heap.objs.size+1:=Heap.size_push ..;have n2:(zq2 t u s.heap a b).objs.size=s.heap.objs.size+2:=by rw[Heap.size_push,n1]
 have n3:(zq3 t u s.heap a b).objs.size=s.heap.objs.size+3:=by rw[Heap.size_push,n2]
 have n4:(zq4 t u s.heap a b).objs.size=s.heap.objs.size+4:=by rw[Heap.size_push,n3]
 have k5:(zq5 t u s.heap a b).get? (zq4 t u s.heap a b).objs.size=some _:=Heap.get?_push_size _ rfl;have k4:(zq5 t u s.heap a b).get? (zq3 t u s.heap a b).objs.size=some _:=Heap.get?_push_of_some _ (Heap.get?_push_size _ rfl);have k3:(zq5 t u s.heap a b).get? (zq2 t u s.heap a b).objs.size=some _:=Heap.get?_push_of_some _ (Heap.get?_push_of_some _ (Heap.get?_push_size _ rfl));have k2:(zq5 t u s.heap a b).get? (zq1 t s.heap a).objs.size=some _:=Heap.get?_push_of_some _ (Heap.get?_push_of_some _ (Heap.get?_push_of_some _ (Heap.get?_push_size _ rfl)));have k1:(zq5 t u s.heap a b).get? s.heap.objs.size=some _:=Heap.get?_push_of_some _ (Heap.get?_push_of_some _ (Heap.get?_push_of_some _ (Heap.get?_push_of_some _ (Heap.get?_push_size _ rfl))));have up:∀c o,s.heap.get? c=some o->(zq5 t u s.heap a b).get? c=some o:=fun c o e=>Heap.get?_push_of_some _ (Heap.get?_push_of_some _ (Heap.get?_push_of_some _ (Heap.get?_push_of_some _ (Heap.get?_push_of_some _ e))))
 show _/\_;rw[n2,n3,n4]at k5;rw[n1,n2]at k3;rw[n3]at k4;rw[n1]at k2;rw[n4];exact⟨⟨_,k5,rfl⟩,h _ k5 k3 k4 (x1j k1 rfl rfl) (x1j k2 rfl rfl) up⟩
end
section
variable{e1 e2:Expr}{pt:Pos}
def SqG(K:PySem.W.Frag)(t:Bool)(H:Hp)(a:Addr)(xs:List V):Prop:=if t=true then SqT K H a xs else SqL K H a xs
theorem q5o{t:Bool}(I:Inv X pins σ H s)(h:SqG X.K t H a xs):∃its:List Value,Vals xs its/\IsSq t a its.toArray s.heap:=by
 cases t with
 |true=>
  obtain⟨its,r,p,_⟩:=I.tuple h;exact⟨its,r,(show s.heap.IsTuple a its.toArray from p)⟩
 |false=>
  obtain⟨its,r,p,_⟩:=I.list h;exact⟨its,r,p.isList⟩
theorem x59{t:Bool}{ys:List V}(I:Inv X pins σ H s)(h:SqG X.K t H a xs)(h':SqG X.K t H a ys):xs=ys:=by
 cases t with
 |true=>exact I.tuple_inj h h'
 |false=>exact I.list_inj h h'
theorem IsSq.obj{t:Bool}(x:IsSq t a vs h):∃o,h.get? a=some o/\o.cls=.type (if t=true then "tuple" else "list"):=by
 cases t with
 |true=>obtain⟨o,ho,c,_⟩:=(show h.IsTuple a vs from x);exact⟨o,ho,c⟩
 |false=>obtain⟨o,ho,c,_⟩:=(show h.IsList a vs from x);exact⟨o,ho,c⟩
theorem x2f{t':Nat}{fp:List Addr}(I:Inv X pins σ H s)(k:∀b o,b∉fp->s.heap.get? b=some o->h'.get? b=some o)(hf:∀b∈fp,FpOk X pins H b):Inv X pins σ H {s with heap:=h',toks:=t'}:=by
 have nfp:∀c u,H c=some u->c∉fp:=fun c u e z=>by rw[(hf c z).1]at e;cases e
 refine I.step (g':=s.gens) (d':=s.drawn) (ch:=fp) (fun c hc=>?_) (fun c o _ _ hc e _=>k c o hc e) (fun c o _ _ hc e _=>⟨o.slots,k c o hc e⟩) (fun c o _ e n=>n)
  (fun c o hc e=>⟨o,k c o hc e⟩) (fun c xs e=>e) (fun c o u e=>e) (fun c ps e=>⟨#[],by rw[e];simp⟩) (fun m hm=>?_) (fun c u e=>?_) I.bare
 ·obtain⟨f0,f1,f2,f3,f4,f5⟩:=hf c hc;exact⟨f3,f1,f4,f5⟩
 ·obtain⟨o,es,ep,ho,r⟩:=hm;exact⟨o,es,ep,k _ o (fun z=>(hf _ z).2.1 rfl) ho,r⟩
 ·refine(I.hok c u e).stay (fun d v hd q=>k d v ?_ q) (fun d q=>q) fun d xs _ q=>q
  rcases hd with z|z
  ·rw[z];exact nfp c u e
  ·exact nfp d _ z
noncomputable def Itz(K:PySem.W.Frag)(t u:Bool)(a b:Addr):It:=
  ⟨fun i H=>∃xs ys x y,SqG K t H a xs/\SqG K u H b ys/\xs[i]?=some x/\ys[i]?=some y,
   fun i H v H'=>∃c x y,v=.ref c/\H c=none/\(∀xs,SqG K t H a xs->xs[i]?=some x)/\(∀ys,SqG K u H b ys->ys[i]?=some y)/\H'=upd H c (.tup [x,y]),
   fun i H=>∃xs ys,SqG K t H a xs/\SqG K u H b ys/\(xs.length<=i\/ys.length<=i)⟩
theorem x85{w:World}(t u:Bool)(a b z I O i j:Addr)(D:Apart z I O i j a b):
  Turn P w K (.Tuple elts kt pt) (Itz K t u a b) [z,I,O,i,j] z (fun k h=>IsZip h z I O .none/\IsPair h I (.ref i) (.ref j)/\(∃p q,IsPair h O p q)/\IsIt t i a k h/\IsIt u j b k h) where
 mem:=by simp
 obj:=fun k h ⟨s1,s2,⟨p,q,s3⟩,s4,s5⟩ c hc=>by
  simp only[w0p,w2a,or_false]at hc;rcases hc with rfl|rfl|rfl|rfl|rfl
  ·exact⟨_,s1,fun v z=>by cases z⟩
  ·exact⟨_,s2,fun v z=>by cases z⟩
  ·exact⟨_,s3,fun v z=>by cases z⟩
  ·exact s4.obj
  ·exact s5.obj
 keep:=fun k h h' ⟨s1,s2,⟨p,q,s3⟩,s4,s5⟩ f=>⟨f z (by simp) _ s1,f I (by simp) _ s2,⟨p,q,f O (by simp) _ s3⟩,s4.keep fun o e=>f i (by simp) o e,s5.keep fun o e=>f j (by simp) o e⟩
 item:=by
  intro X hP hw hK hc k pins s σ H E Iv hf st hg;subst hP hw hK;obtain⟨s1,s2,⟨p,q,s3⟩,s4,s5⟩:=st;obtain⟨xs,ys,x,y,q1,q2,hx,hy⟩:=hg;obtain⟨is1,r1,p1⟩:=q5o Iv q1;obtain⟨is2,r2,p2⟩:=q5o Iv q2;obtain⟨ux,hux,rux⟩:=r1.get hx;obtain⟨uy,huy,ruy⟩:=r2.get hy;refine y20 D s1 s2 s3 s4 s5 p1 p2 (x:=ux) (y:=uy) (by simpa using hux) (by simpa using huy) fun h1 z1 o1 i1 j1 t1 n1 k1=>⟨_,rfl,?_⟩
  refine wpAny_letOwnedTupleGo_zip z1 fun h2 z2 b2=>?_
  have b2:Heap.SameBut z h1 h2:=b2;have zlt:z<s.heap.objs.size:=Heap.lt_size s1;have hfr:H s.heap.objs.size=none:=Iv.hok.fresh (w0h _);have t2:IsPair h2 s.heap.objs.size ux uy:=(b2.2 _ (w3p zlt)).trans t1;have I1:IsPair h1 I (.ref i) (.ref j):=k1 I _ D.Iz D.IO D.Ii D.Ij s2;refine⟨.ref s.heap.objs.size,upd H s.heap.objs.size (.tup [x,y]),?_,rfl,⟨_,x,y,rfl,hfr,fun xs' h'=>by rw[x59 Iv h' q1];exact hx,fun ys' h'=>by rw[x59 Iv h' q2];exact hy,rfl⟩,⟨z2,(b2.2 _ D.Iz).trans I1,⟨ux,uy,(b2.2 _ D.Oz).trans o1⟩,i1.keep fun o e=>(b2.2 _ D.iz).trans e,j1.keep fun o e=>(b2.2 _ D.jz).trans e⟩,fun c hc=>?_⟩
  ·show L2.Inv X pins σ _ {s with heap:=h2,toks:=s.toks};refine x51 (fp:=[z,I,O,i,j]) Iv (fun c o hc q=>?_) hf (w0h _) ⟨?_,[ux,uy],.cons rux (.cons ruy .nil),⟨_,t2,rfl,?_⟩,⟨_,t2,rfl⟩⟩
   ·simp only[w0p,w2a,or_false,not_or]at hc;exact(b2.2 c hc.1).trans (k1 c o hc.1 hc.2.2.1 hc.2.2.2.1 hc.2.2.2.2 q)
   ·rw[sizeLine_eq];simp
   ·exact⟨_,rfl⟩
  ·have:c≠s.heap.objs.size:=by
    obtain⟨o,q,_⟩:∃o,s.heap.get? c=some o/\True:=by
     simp only[w0p,w2a,or_false]at hc;rcases hc with rfl|rfl|rfl|rfl|rfl
     ·exact⟨_,s1,trivial⟩
     ·exact⟨_,s2,trivial⟩
     ·exact⟨_,s3,trivial⟩
     ·obtain⟨o,e,_⟩:=s4.obj;exact⟨o,e,trivial⟩
     ·obtain⟨o,e,_⟩:=s5.obj;exact⟨o,e,trivial⟩
    exact w0o (Heap.lt_size q)
   rw[q0c this];exact(hf c hc).1
 done:=by
  intro X hP hw hK hc k pins s σ H E Iv hf st hg;subst hP hw hK;obtain⟨s1,s2,⟨p,q,s3⟩,s4,s5⟩:=st;obtain⟨xs,ys,q1,q2,hlen⟩:=hg;obtain⟨is1,r1,p1⟩:=q5o Iv q1;obtain⟨is2,r2,p2⟩:=q5o Iv q2;have l1:=r1.length;have l2:=r2.length;refine y21 (Iv.ok.hd hc) D s1 s2 s3 s4 s5 p1 p2 (by rcases hlen with h|h;left;simp;omega;right;simp;omega) fun h' k1=>⟨rfl,?_⟩
  have hfp:∀c∈[z,I,O,i,j],FpOk X pins H c:=hf;refine x2f (fp:=[z,I,O,i,j]) (t':=s.toks) Iv (fun c o hc q=>?_) hfp
  simp only[w0p,w2a,or_false,not_or]at hc;exact k1 c o hc.1 hc.2.2.1 hc.2.2.2.1 hc.2.2.2.2 q
 self:=fun _ _ _ _ _ ⟨s1,_⟩ h=>wpAny_pyIter_zip s1 h
end
theorem x6a(n a b:Nat)(ha:a<n)(hb:b<n):Apart (n+4) (n+2) (n+3) n (n+1) a b where
 Iz:=by show ¬(n+2:Nat)=n+4;omega
 Oz:=by show ¬(n+3:Nat)=n+4;omega
 iz:=by show ¬(n:Nat)=n+4;omega
 jz:=by show ¬(n+1:Nat)=n+4;omega
 IO:=by show ¬(n+2:Nat)=n+3;omega
 Ii:=by show ¬(n+2:Nat)=n;omega
 Ij:=by show ¬(n+2:Nat)=n+1;omega
 Oi:=by show ¬(n+3:Nat)=n;omega
 Oj:=by show ¬(n+3:Nat)=n+1;omega
 ij:=by show ¬(n:Nat)=n+1;omega
 az:=by show ¬(a:Nat)=n+4;omega
 aO:=by show ¬(a:Nat)=n+3;omega
 ai:=by show ¬(a:Nat)=n;omega
 aj:=by show ¬(a:Nat)=n+1;omega
 bz:=by show ¬(b:Nat)=n+4;omega
 bO:=by show ¬(b:Nat)=n+3;omega
 bi:=by show ¬(b:Nat)=n;omega
 bj:=by show ¬(b:Nat)=n+1;omega
section
variable{a1 a2:Expr}{pt:Pos}
def iZip(K:PySem.W.Frag)(ta:TA):TI:=fun σ H R=>ta σ H fun vs H1=>∃t u a b,vs=[.ref a,.ref b]/\(∃xs,SqG K t H1 a xs)/\(∃ys,SqG K u H1 b ys)/\R (Itz K t u a b) H1
theorem y7f{ta:TA}{p:Pos}(hg:Gl X "zip")(hm:X.mg "zip"=none)(ha:PA X [a1,a2] ta)(hs:starEach [a1,a2] X.env=[(false,eval a1 X.env),(false,eval a2 X.env)]:=by rfl)(hs2:starEach [a2] X.env=[(false,eval a2 X.env)]:=by rfl):
  PI X (.Tuple elts kt pt) (.Call (.Name "zip" p) [a1,a2] [] pos) (iZip X.K ta):=by
 intro pins s σ H R I h;refine PyProof.Rows.Call_ (q4y I hg hm PyProof.Rows.boot_zip (PyProof.Rows.callWith_type1 (thn (ha pos pins s σ H _ I h) fun us s1 ⟨vs,H1,I1,r1,q1⟩=>?_) (by rw[hs,hs2]) (by rw[hs2];rfl)))
 obtain⟨t,u,a,b,e,⟨xs,hx⟩,⟨ys,hy⟩,q⟩:=q1;subst e;cases r1 with
 |cons r rr=>
  cases rr with
  |cons r' rr=>
   cases rr;cases r;cases r';obtain⟨is1,v1,p1⟩:=q5o I1 hx;obtain⟨is2,v2,p2⟩:=q5o I1 hy;obtain⟨oa,ea,_⟩:=p1.obj;obtain⟨ob,eb,_⟩:=p2.obj;have la:=Heap.lt_size ea;have lb:=Heap.lt_size eb;refine x58 p1 p2 fun h' z1 i1 o1 k1 k2 up=>?_
   refine wpAny_pyIter_zip z1 ?_
   have D:Apart (s1.heap.objs.size+4) (s1.heap.objs.size+2) (s1.heap.objs.size+3) s1.heap.objs.size (s1.heap.objs.size+1) a b:=by
    have la':(a:Nat)<s1.heap.objs.size:=la;have lb':(b:Nat)<s1.heap.objs.size:=lb;generalize s1.heap.objs.size=n at la' lb';exact x6a n a b la' lb'
   refine⟨s1.heap.objs.size+4,[s1.heap.objs.size+4,s1.heap.objs.size+2,s1.heap.objs.size+3,s1.heap.objs.size,s1.heap.objs.size+1],_,_,H1,rfl,I1.kept (t':=s1.toks) up,x85 t u a b _ _ _ _ _ D,⟨z1,i1,⟨_,_,o1⟩,k1,k2⟩,fun c hc=>?_,q⟩
   simp only[w0p,w2a,or_false]at hc;rcases hc with rfl|rfl|rfl|rfl|rfl<;>exact I1.fpOk (by omega) (I1.hok.fresh (by omega))
noncomputable def srcZ(dA:Den (List W)):Den (List (W×W)):=fun e=>(dA e).bind fun ws e1=>match ws with
 |[x,y]=>match seqW x,seqW y with
  |some us,some vs=>.ok (us.zip vs) e1
  |_,_=>.no
 |_=>.no
theorem x24(h:seqW w=some us)(p:Rep K G w v):∃t a xs,v=.ref a/\SqG K t G a xs/\Reps K G us xs:=by
 cases w with
 |tup l=>
  cases h;obtain⟨a,xs,rfl,hq,rp⟩:=p;exact⟨true,a,xs,rfl,hq,rp⟩
 |lst l=>
  cases h;obtain⟨a,xs,rfl,hq,rp⟩:=p;exact⟨false,a,xs,rfl,hq,rp⟩
 |_=>cases h
theorem q1s{t:Bool}(s:Same G H)(h:SqG K t G a xs):SqG K t H a xs:=by
 cases t with
 |true=>exact s.tup h
 |false=>exact s.seq h
theorem x6b{t u:Bool}{b:Addr}{vs:List W}{ys:List V}(r1:Reps K G1 us xs)(r2:Reps K G1 vs ys)(h1:SqG K t G1 a xs)(h2:SqG K u G1 b ys):Walk2 K G1 (Itz K t u a b) (us.zip vs):=by
 have l1:=r1.length;have l2:=r2.length;have lz:(us.zip vs).length=min us.length vs.length:=w2z ..;refine⟨fun i G H s s' h=>⟨xs,ys,xs[i]'(by omega),ys[i]'(by omega),q1s s' (q1s s h1),q1s s' (q1s s h2),by simp,by simp⟩,fun i G H x H' s s' hy p q h=>?_,fun i G H s s' h=>⟨xs,ys,q1s s' (q1s s h1),q1s s' (q1s s h2),by omega⟩⟩
 obtain⟨c,x1,y1,rfl,hn,hx1,hy1,rfl⟩:=hy;obtain⟨hu,hv⟩:=w2h.mp h;obtain⟨w1,hw1,pw1⟩:=r1.getV (hx1 xs (q1s s' (q1s s h1)));obtain⟨w2,hw2,pw2⟩:=r2.getV (hy1 ys (q1s s' (q1s s h2)));rw[hu]at hw1;rw[hv]at hw2;cases hw1;cases hw2;exact⟨Grow.hid s' hn _,fun m n σ Q hQ=>⟨c,[x1,y1],rfl,SqT.of q0f,rfl,x1,[y1],rfl,y1,[],rfl,rfl,hQ _ _ (Rep.mono s _ pw1) (Rep.mono s _ pw2)⟩⟩
theorem x1k{p:Pos}(hm:X.mg "zip"=none)(ha:DA Z X EE [a1,a2] dA)(hg:Gl X "zip":=by rfl)(hs:starEach [a1,a2] X.env=[(false,eval a1 X.env),(false,eval a2 X.env)]:=by rfl)(hs2:starEach [a2] X.env=[(false,eval a2 X.env)]:=by rfl):
  DI Z X EE (.Tuple elts kt pt) (.Call (.Name "zip" p) [a1,a2] [] pos) (srcZ dA):=by
 refine PI.mono (y7f hg hm ha hs hs2) ?_;rintro σ H RR ⟨G,e,rel,h⟩;simp only[srcZ,R.holds_bind]at h;refine⟨G,e,rel,h.imp (fun ws e1 h G1 vs H1 r1 s1 p1=>?_) fun _ _ h=>h⟩
 split at h
 ·rename_i w1 w2;split at h
  ·rename_i us ws hu hw;obtain⟨y1,r,rfl,q1,y2,r',rfl,q2,q3⟩:=p1;cases(show r'=[]from q3);obtain⟨t,a,xs,rfl,hx,rx⟩:=x24 hu q1;obtain⟨u,b,ys,rfl,hy,ry⟩:=x24 hw q2;exact⟨t,u,a,b,rfl,⟨xs,q1s r1.sub hx⟩,⟨ys,q1s r1.sub hy⟩,h _ _ _ r1 s1 (x6b rx ry hx hy)⟩
  ·exact h.elim
 ·exact h.elim
end
section
variable{vs:List W}
noncomputable def srcZW(e:List S):List W->R (List (W×W))
 |[x,y]=>match seqW x,seqW y with
  |some us,some vs=>.ok (us.zip vs) e
  |_,_=>.no
 |_=>.no
theorem y7g:srcZ dA e=(dA e).bind fun ws e1=>srcZW e1 ws:=by
 unfold srcZ;congr 1
theorem x86:srcZW e [.tup us,.tup vs]=.ok (us.zip vs) e:=rfl
theorem x87:srcZW e [.lst us,.lst vs]=.ok (us.zip vs) e:=rfl
theorem x88:srcZW e [.tup us,.lst vs]=.ok (us.zip vs) e:=rfl
theorem x89:srcZW e [.lst us,.tup vs]=.ok (us.zip vs) e:=rfl
end
noncomputable def dMut0(i:Nat)(f:List W->List W):List S->SR:=fun e=>match e[i]? with
 |some (.own b ws)=>.nx (e.set i (.own b (f ws)))
 |_=>.no
theorem Reps.rev:∀{ws:List W}{xs:List V},Reps K G ws xs->Reps K G ws.reverse xs.reverse
 |[],xs,h=>by cases(show xs=[]from h);exact rfl
 |w::ws,xs,h=>by
  obtain⟨v,vs,rfl,p,r⟩:=h;rw[w1y,w1y];exact(Reps.rev r).append (.one p)
section
variable{p:Pos}
theorem y7h(i:Nat){apos cpos:Pos}(hN:X.N[i]?=some x:=by rfl)(hv:Vis X.env.scope x:=by walk_at "1")(hd:(x==("__debug__":Str))=false:=by decide)(hcd:(x==("__classdict__":Str))=false:=by decide)
  (hbase:attributeBase (.Name x p) "reverse" X.env (eval (.Name x p) X.env)=eval (.Name x p) X.env:=by rfl)(hline:(apos.endLine==cpos.line)=true:=by rfl)(hsw:swapsWith (.Call (.Attribute (.Name x p) "reverse" apos) [] [] cpos) none pos.line X.env=pure false:=by rfl):
  DS Z X EE (.Expr (.Call (.Attribute (.Name x p) "reverse" apos) [] [] cpos) pos) (dMut0 i List.reverse):=by
 refine PS.mono (q6u (y46 PySem.F.plainAttrs_list PySem.F.slot_list_reverse PySem.F.type_list_reverse x3v (pv i hN hv hd hcd) hbase hline) hsw) ?_;rintro D σ H ⟨G,e,rel,h⟩;unfold dMut0 at h;split at h
 ·rename_i b ws he;obtain⟨a,xs,h1,h2,h3,h4,h5⟩:=rel.own he;refine⟨.ref a,h1,.inl ⟨rfl,xs,SqL.of h2⟩,a,xs,rfl,rfl,h2,?_⟩;exact h G σ _ (rel.mut he h1 (Reps.rev h5)) (.refl _)
 ·exact h.elim
end
noncomputable def mut0K(i:Nat)(f:List W->List W)(e:List S):Option S->SR
 |some (.own b ws)=>.nx (e.set i (.own b (f ws)))
 |_=>.no
theorem y22{f:List W->List W}:dMut0 i f e=mut0K i f e e[i]?:=by
 unfold dMut0 mut0K;cases e[i]? with
 |none=>rfl
 |some s=>cases s<;>rfl
theorem x9a{f:List W->List W}:mut0K i f e (some (.own b ws))=.nx (e.set i (.own b (f ws))):=rfl
noncomputable def hide1:S->S
 |.own _ ws=>.fr (.lst ws)
 |.dic kvs=>.fr (.dic kvs)
 |.thr us ws vs=>.fr (.tup (us++.lst ws::vs))
 |.nest wss=>.fr (.lst (wss.map W.lst))
 |.x (.old w)=>.fr w
 |.x (.new w)=>.fr w
 |.x (.acc ws)=>.fr (.lst ws)
 |.x (.thro us ws vs)=>.fr (.tup (us++.lst ws::vs))
 |.x (.tn us wss)=>.fr (.tup (us++[.lst (wss.map W.lst)]))
 |.x (.pt _ _ _)=>.no
 |.dw sh ks ws=>.fr (.dw false sh ks ws)
 |s=>s
theorem NestIn.reps(sg:Same G G')(hf:∀l o ys,FzAt Z G H l o ys->G' l=some (.frz o (.lst ys))):∀{ls:List Addr}{wss:List (List W)},NestIn K Z G H ls wss->Reps K G' (wss.map W.lst) (ls.map V.ref)
 |[],[],_=>rfl
 |l::ls,ws::wss,⟨⟨o,ys,h1,h4⟩,h⟩=>⟨.ref l,ls.map V.ref,rfl,⟨l,ys,rfl,.inl (.inr ⟨o,hf l o ys h1⟩),Reps.mono sg ws h4⟩,h.reps sg hf⟩
 |[],_::_,h=>h.elim
 |_::_,[],h=>h.elim
noncomputable def hideS(e:List S):List S:=e.map hide1
noncomputable def borrowR(e:List S):R W->R W
 |.ok w _=>if scalW w=true then .ok w e else .no
 |.ex c _=>.ex c e
 |.no=>.no
noncomputable def dBorrow(d:Den W):Den W:=fun e=>borrowR e (d (hideS e))
noncomputable def borrowT(e:List S):R Bool->R Bool
 |.ok b _=>.ok b e
 |.ex c _=>.ex c e
 |.no=>.no
noncomputable def dBorrowT(d:Den Bool):Den Bool:=fun e=>borrowT e (d (hideS e))
theorem Rel.hide(r:Rel K Z G σ H e):Rel K ⟨H,H,[]⟩ H σ H (hideS e):=by
 have g:∀(i:Nat)(s:S),(hideS e)[i]?=some s->∃s0,e[i]?=some s0/\s=hide1 s0:=fun i s h=>by
  unfold hideS at h;rw[w0n]at h;obtain⟨s0,h1,h2⟩:=w0g.mp h;exact⟨s0,h1,h2.symm⟩
 refine⟨.refl _,fun i s h=>?_,by unfold hideS;rw[w0b];exact r.len,fun i j b b' ws ws' a h1 _ _ _=>?_,fun a o h _=>h,(fun a h=>nomatch h),fun a _=>rfl⟩
 ·obtain⟨s0,h0,rfl⟩:=g i s h;have q:=r.slot i s0 h0;cases s0 with
  |no=>trivial
  |fr w=>
   obtain⟨u,q1,q2⟩:=q;exact⟨u,q1,Rep.mono r.sub w q2⟩
  |own b ws=>
   obtain⟨a,xs,q1,q2,q3,q4,q5⟩:=q;exact⟨.ref a,q1,a,xs,rfl,SqL.of q2,Reps.mono r.sub ws q5⟩
  |dic kvs=>
   obtain⟨a,q1,q2,_⟩:=q;exact⟨.ref a,q1,a,rfl,q2⟩
  |thr us ws vs=>
   obtain⟨t,l,o,xs,ys,zs,q1,q2,q3,_,_,q6,q7,q8⟩:=q;exact⟨.ref t,q1,t,_,rfl,SqT.of (r.sub _ _ q2),(Reps.mono r.sub us q6).append ⟨.ref l,zs,rfl,⟨l,ys,rfl,.inl (.inr ⟨o,q3⟩),Reps.mono r.sub ws q7⟩,Reps.mono r.sub vs q8⟩⟩
  |nest wss=>
   obtain⟨a,ls,q1,q2,_,q4⟩:=q;exact⟨.ref a,q1,a,_,rfl,SqL.of (r.sub _ _ q2),q4.reps r.sub fun l o ys z=>z.1⟩
  |x k=>
   cases k with
   |old w=>obtain⟨u,q1,_,q2⟩:=q;exact⟨u,q1,Rep.mono r.sub w q2⟩
   |new w=>obtain⟨u,q1,q2⟩:=q;exact⟨u,q1,Rep.mono r.sub w (RepN.rep w q2)⟩
   |acc ws=>obtain⟨a,o,xs,q1,q2,q3⟩:=q;exact⟨.ref a,q1,a,xs,rfl,.inl (.inr ⟨o,q2.1⟩),Reps.mono r.sub ws (RepNs.reps ws q3)⟩
   |thro us ws vs=>
    obtain⟨t,l,o,xs,ys,zs,q1,_,q2,q3,_,q6,q7,q8⟩:=q;exact⟨.ref t,q1,t,_,rfl,SqT.of (r.sub _ _ q2),(Reps.mono r.sub us q6).append ⟨.ref l,zs,rfl,⟨l,ys,rfl,.inl (.inr ⟨o,q3.1⟩),Reps.mono r.sub ws q7⟩,Reps.mono r.sub vs q8⟩⟩
   |tn us wss=>
    obtain⟨t,l,o,ls,xs,q1,q2,q3,_,q5,q6⟩:=q;exact⟨.ref t,q1,t,_,rfl,SqT.of (r.sub _ _ q2),(Reps.mono r.sub us q5).append ⟨.ref l,[],rfl,⟨l,_,rfl,.inl (.inr ⟨o,q3.1⟩),q6.reps r.sub fun l o ys z=>z.1⟩,rfl⟩⟩
   |pt _ _ _=>trivial
  |dw sh ks ws=>
   obtain⟨a,kvs,kas,q1,q2,_,_,q5,q6,q7⟩:=q;exact⟨.ref a,q1,a,kvs,kas,rfl,q2,q5,q6.mono r.sub,Reps.mono r.sub ws q7⟩
 ·obtain⟨s0,_,h2⟩:=g i _ h1;cases s0 with
  |x k=>cases k<;>cases h2
  |_=>cases h2
theorem Rel.back{G2 H2:Hp}{e2:List S}(r:Rel K Z G σ H e)(r2:Rel K ⟨H,H,[]⟩ G2 σ H2 e2):Rel K Z G σ H2 e:=by
 have hh:Same H H2:=fun a o h=>r2.ent a o h (fun z=>nomatch z)
 exact r.grow ⟨hh,.refl _,fun a o h=>hh a o (r.sub a o h),fun _ _=>rfl⟩
theorem x9b(h:scalW w=true)(p:Rep K G w v):Rep K G' w v:=by
 cases w with
 |non=>exact p
 |bl b=>exact p
 |int b=>exact p
 |str b=>exact p
 |_=>cases h
section
variable{e:Expr}
theorem q4l(he:∀Z',DE Z' X EE e d):DE Z X EE e (dBorrow d):=by
 intro pins s σ H Q I hq;obtain⟨G,e0,rel,h⟩:=hq;refine he ⟨H,H,[]⟩ pins s σ H Q I ⟨H,hideS e0,rel.hide,?_⟩;unfold dBorrow borrowR at h;cases q:d (hideS e0)with
 |ok w e2=>
  rw[q]at h;dsimp only at h;split at h
  ·rename_i hs;intro G2 v H2 r2 s2 p;exact h G v H2 (rel.back r2) (.refl _) (x9b hs p)
  ·exact h.elim
 |ex k e2=>
  rw[q]at h;intro G2 H2 r2 s2;exact h G H2 (rel.back r2) (.refl _)
 |no=>rw[q]at h;exact h.elim
theorem q6n(he:∀Z',DT Z' X EE e c):DT Z X EE e (dBorrowT c):=by
 intro pins s σ H Q I hq;obtain⟨G,e0,rel,h⟩:=hq;refine he ⟨H,H,[]⟩ pins s σ H Q I ⟨H,hideS e0,rel.hide,?_⟩;unfold dBorrowT borrowT at h;cases q:c (hideS e0)with
 |ok w e2=>
  rw[q]at h;intro G2 H2 r2 s2;exact h G H2 (rel.back r2) (.refl _)
 |ex k e2=>
  rw[q]at h;intro G2 H2 r2 s2;exact h G H2 (rel.back r2) (.refl _)
 |no=>rw[q]at h;exact h.elim
end
section
variable{e':List S}{v:Value}{k:Bool}{s:S}{p:Prop} [Decidable p]
theorem x6c:dBorrow d e=borrowR e (d (hideS e)):=rfl
theorem x39{d:Den Bool}:dBorrowT d e=borrowT e (d (hideS e)):=rfl
theorem x6d:borrowR e (.ok w e')=if scalW w=true then .ok w e else .no:=rfl
theorem x6e:borrowR e (.ex v e')=.ex v e:=rfl
theorem x4a:borrowT e (.ok k e')=.ok k e:=rfl
theorem x4b:borrowT e (.ex v e')=.ex v e:=rfl
theorem x4c{x y:R W}:borrowR e (if p then x else y)=if p then borrowR e x else borrowR e y:=by split<;>rfl
theorem x2g{x y:R Bool}:borrowT e (if p then x else y)=if p then borrowT e x else borrowT e y:=by split<;>rfl
theorem x9c:hideS []=[]:=rfl
theorem x6f:hideS (s::e)=hide1 s::hideS e:=rfl
theorem x9d:hide1 (.own b ws)=.fr (.lst ws):=rfl
theorem y23:hide1 (.fr w)=.fr w:=rfl
theorem y24:hide1 .no=.no:=rfl
end
end D
namespace L2
open PySem PySem.Spec PyProof.Rows
structure FlyA(outer:List Env)(H H':Hp)(h h':Heap)(e:Addr)(cls:Value)(B:Heap):Prop where
 stay:B.StaysIn h'
 bare:B.get? e=none
 ff:h'.FunFrames B outer
 tr:∃a0 fl,h'.TracedAtW B e cls a0 fl
 old:∀b o,h.get? b=some o->H b=none->b∉frs outer->B.get? b=some o
 trk:∀b u o,H' b=some u->h'.get? b=some o->B.get? b=some o
 all:∀b o,h.get? b=some o->b∈frs outer\/∃o',B.get? b=some o'
 new:h.get? e=none
end L2
namespace D
open PySem L2
variable{e:List S}
noncomputable def compX(c:Den Bool)(d:Den W)(pe:List S):List W->Option (Value ⊕ List W)
 |[]=>some (.inr [])
 |w::ws=>match c (.fr w::pe)with
  |.ok true e1=>match d e1 with
   |.ok y _=>(compX c d pe ws).map (Sum.map id (y::·))
   |.ex k _=>some (.inl k)
   |.no=>none
  |.ok false _=>compX c d pe ws
  |.ex k _=>some (.inl k)
  |.no=>none
noncomputable def compXR(e:List S):Option (Value ⊕ List W)->R (List W)
 |some (.inr out)=>.ok out e
 |some (.inl k)=>.ex k e
 |none=>.no
noncomputable def compKX(js:List Nat)(c:Den Bool)(d:Den W)(ws:List W)(e1:List S):R (List W):=
 if ws.length<=16777216 then compXR (frzs js e1) (compX c d (pjS js (frzs js e1)) ws)else .no
theorem x9e{js:List Nat}{cc:Den Bool}{d:Den W}{ws:List W}:compKX js cc d ws e=if ws.length<=16777216 then compXR (frzs js e) (compX cc d (pjS js (frzs js e)) ws)else .no:=rfl
theorem x6g{out:List W}:compXR e (some (.inr out))=.ok out e:=rfl
theorem x6h{k:Value}:compXR e (some (.inl k))=.ex k e:=rfl
section
variable{X:Cx}{Z:Zt}{EE:St->XK}{elt iter a b:Expr}{ifs:List Expr}{scope sc:Scope}{pos pt:Pos}{x:Str}{Nf N:List Str}{js:List Nat}{di:Den W}{dA:Den (List W)}{c:Den Bool}{d:Den W}
theorem y7i{ws:List W}{P:List W->List S->Prop}{Ex:Value->List S->Prop}{e1:List S}(h:(compKX js c d ws e1).holds P Ex):ws.length<=16777216/\∃out,compX c d (pjS js (frzs js e1)) ws=some out/\Sum.elim (fun k=>Ex k (frzs js e1)) (fun o=>P o (frzs js e1)) out:=by
 unfold compKX at h;split at h
 ·rename_i hl;cases ho:compX c d (pjS js (frzs js e1)) ws with
  |none=>rw[ho]at h;exact h.elim
  |some out=>rw[ho]at h;exact⟨hl,out,rfl,by cases out<;>exact h⟩
 ·exact h.elim
end
end D
namespace L2
open PySem PySem.Spec PyProof.Rows
variable{A:Around}{prog:Program}{s:Shared}{E:Value->Shared->Prop}{w:World}
def Rise(t:SetTable):Prop:=t.place.toList.Pairwise (·<·)/\t.dummies=#[]
noncomputable def valI:Value->Int
 |.int n _=>n
 |_=>0
structure SetData(prog:Program)(w:World)(es:Array (Int×Value))(t:SetTable)(S:List Int):Prop where
 el:ElemsOf (intKind prog w) es.toList
 sz:es.size<scanBound
 fit:t.fits es.size=true
 rise:Rise t
 led:t.led=!w.params.followText "set-order"
 whole:∀e∈es.toList,∃n k,e.2=Value.int n k
 perm:(es.toList.map fun e=>valI e.2).Perm S
namespace SI
theorem own:Manifest.owners.lookup (String.ofList ['r','o','t','a','r','e','t','i','_','t','e','s'].reverse)=some Manifest.sig_set_iterator:=by kernel_rfl
theorem next:Slot "set_iterator" "__next__" "set_iterator.__next__":=.of (owner:="set_iterator") (n:="__next__") (by rw[typeLookup_type,builtinLookup_eq_fast];kernel_rfl) (by decide +kernel) (by decide +kernel) (by decide +kernel) (by first|exact .inl (by decide +kernel)|exact .inr (by decide +kernel)) (by rw[isSubtype_type];kernel_rfl)
theorem iter:Slot "set_iterator" "__iter__" "set_iterator.__iter__":=.of (owner:="set_iterator") (n:="__iter__") (by rw[typeLookup_type,builtinLookup_eq_fast];kernel_rfl) (by decide +kernel) (by decide +kernel) (by decide +kernel) (by first|exact .inl (by decide +kernel)|exact .inr (by decide +kernel)) (by rw[isSubtype_type];kernel_rfl)
end SI
open PySem PySem.Spec PyProof.Rows
end L2
namespace D
open PySem L2
variable{X:Cx}{dA:Den (List W)}{a e:Expr}{p pos:Pos}{EE:St->XK}{Z:Zt}
def rCat0(K:PySem.W.Frag):R2:=fun x y H Q=>∃a b ys,x=.ref a/\y=.ref b/\SqT K H a []/\SqT K H b ys/\Q (.ref b) H
open PyProof.Rows in
theorem op_cat0:OpR X (binaryOp .Add) (rCat0 X.K):=by
 intro pins s σ H x y v u Q I rx ry h;obtain⟨a,b,ys,rfl,rfl,ha,hb,q⟩:=h;cases rx;cases ry;obtain⟨its,r1,p1,_⟩:=I.tuple ha;obtain⟨its2,r2,p2,_⟩:=I.tuple hb;cases r1;obtain⟨⟨cls,dd,data,sl⟩,ho,hc,n,hd⟩:=id p1;obtain⟨⟨cls2,dd2,data2,sl2⟩,ho2,hc2,n2,hd2⟩:=id p2;simp only at hc hd hc2 hd2;subst hc hd hc2 hd2;exact concat_meets ⟨_,ho,rfl⟩ ⟨_,ho2,rfl⟩ noFill_tuple_add seq_tuple_add PySem.F.slot_tuple_add PySem.F.entry_tuple_add (PySem.F.args_tuple_add_2 _ _) (tuple_addW0 a b _ _ n n2 dd dd2 sl sl2 rfl) ⟨ho,ho2,.ref b,H,I,rfl,q⟩
noncomputable def addX:W->W->Option W
 |.tup xs,.tup ys=>if xs.length+ys.length<=16777216 then some (.tup (xs++ys))else none
 |x,y=>addW x y
theorem y25{xs ys:List W}:addX (.tup xs) (.tup ys)=if xs.length+ys.length<=16777216 then some (.tup (xs++ys))else none:=rfl
theorem y26{i j:Int}:addX (.int i) (.int j)=some (.int (i+j)):=rfl
theorem y27{xs ys:List W}:addX (.lst xs) (.lst ys)=if xs.length+ys.length<=16777216 then some (.lst (xs++ys))else none:=rfl
theorem y28{x y:Str}:addX (.str x) (.str y)=if x.length+y.length<=16777216 then some (.str (x++y))else none:=rfl
theorem y29{K:PySem.W.Frag}:Op2 K (fun x y H Q=>rCat0 K x y H Q\/(rI0 (fun i j=>.int (i+j)) x y H Q\/((∃i j,x=.str i/\y=.str j/\i.length+j.length<=sizeLine/\Q (.str (i++j)) H)\/(rCatT K x y H Q\/rCatS K x y H Q)))) addX:=by
 intro G H x y wx wy w Q s px py hf h;unfold addX at hf;split at hf
 ·rename_i xs ys;split at hf
  ·rename_i hl
   by_cases h0:xs=[]
   ·subst h0;cases hf;obtain⟨a,vs,rfl,hq,rp⟩:=px;obtain⟨b,us,rfl,hq2,rp2⟩:=py;cases(show vs=[]from rp);exact .inl ⟨a,b,us,rfl,rfl,s.tup hq,s.tup hq2,h G _ H (.refl s) ⟨b,us,rfl,hq2,rp2⟩⟩
   ·exact .inr (x5f G H x y (.tup xs) (.tup ys) w Q s px py (by show(if xs≠[]/\xs.length+ys.length<=16777216 then some (W.tup (xs++ys))else none)=some w;rw[if_pos ⟨h0,hl⟩];exact hf) h)
  ·cases hf
 ·exact .inr (x5f G H x y _ _ w Q s px py hf h)
section
variable{b:Expr}{da db:Den W}
theorem q08(ha:DE Z X EE a da)(hb:DE Z X EE b db):DE Z X EE (.BinOp a .Add b pos) (dOp addX da db):=q5v (op_cat0.or (op_add.or (op_add_str.or (op_catT.or y1o)))) y29 ha hb
end
mutual
noncomputable def toD:W->Option PyData
 |.non=>some .none
 |.bl b=>some (.bool b)
 |.int i=>some (.int i)
 |.str x=>some (.str x)
 |.tup ws=>(toDs ws).map .tuple
 |.lst ws=>(toDs ws).map .list
 |.exc _=>none
 |.dic _=>none
 |.dw _ _ _ _=>none
 |.fn _ _ _=>none
noncomputable def toDs:List W->Option (List PyData)
 |[]=>some []
 |w::ws=>match toD w,toDs ws with
  |some d,some ds=>some (d::ds)
  |_,_=>none
end
section
variable{pins:List (Addr×Obj)}{σ:St}{H G:Hp}{s:Shared}
mutual
theorem q9w(I:Inv X pins σ H s)(sg:Same G H):∀(w:W){v:V}{u:Value}{d:PyData},Rep X.K G w v->RelV v u->toD w=some d->∃as,Reads s.heap u d as
 |.non,v,u,d,p,r,h=>by
  cases(show v=.non from p);cases(show u=Value.none from r);cases h;exact⟨_,.none⟩
 |.bl b,v,u,d,p,r,h=>by
  cases(show v=.bl b from p);cases(show u=Value.bool b from r);cases h;exact⟨_,.bool b⟩
 |.int i,v,u,d,p,r,h=>by
  cases(show v=.int i from p);obtain⟨t,rfl⟩:=(show ∃t,u=Value.int i t from r);cases h;exact⟨_,.int i t⟩
 |.str x,v,u,d,p,r,h=>by
  cases(show v=.str x from p);obtain⟨t,rfl⟩:=(show ∃t,u=Value.str x t from r);cases h;exact⟨_,.str x t⟩
 |.tup ws,v,u,d,p,r,h=>by
  obtain⟨a,xs,rfl,hq,rp⟩:=p;cases(show u=Value.ref a from r);obtain⟨ds,h1,rfl⟩:=w0g.mp (show(toDs ws).map PyData.tuple=some d from h);obtain⟨its,rv,⟨o,ho,hc,n,hd⟩,_⟩:=I.tuple (sg.tup hq);obtain⟨as,ra⟩:=q50 I sg ws rp rv h1;exact⟨_,.tuple ho hc hd (by simpa using ra)⟩
 |.lst ws,v,u,d,p,r,h=>by
  obtain⟨a,xs,rfl,hq,rp⟩:=p;cases(show u=Value.ref a from r);obtain⟨ds,h1,rfl⟩:=w0g.mp (show(toDs ws).map PyData.list=some d from h);obtain⟨its,rv,pl,_⟩:=I.list (sg.seq hq);obtain⟨o,ho,hc,n,hd⟩:=pl.isList;obtain⟨as,ra⟩:=q50 I sg ws rp rv h1;exact⟨_,.list ho hc hd (by simpa using ra)⟩
 |.exc c,v,u,d,p,r,h=>by cases h
 |.dic c,v,u,d,p,r,h=>by cases h
 |.dw _ _ _ _,v,u,d,p,r,h=>by cases h
 |.fn _ _ _,v,u,d,p,r,h=>by cases h
theorem q50(I:Inv X pins σ H s)(sg:Same G H):∀(ws:List W){xs:List V}{its:List Value}{ds:List PyData},Reps X.K G ws xs->Vals xs its->toDs ws=some ds->∃as,ReadsAll s.heap its ds as
 |[],xs,its,ds,p,r,h=>by
  cases(show xs=[]from p);cases r;cases h;exact⟨_,.nil⟩
 |w::ws,xs,its,ds,p,r,h=>by
  obtain⟨x,xr,rfl,p1,p2⟩:=p;cases r with
  |cons r1 r2=>
   unfold toDs at h;split at h
   ·rename_i d0 ds0 h1 h2;cases h;obtain⟨as,q1⟩:=q9w I sg w p1 r1 h1;obtain⟨bs,q2⟩:=q50 I sg ws p2 r2 h2;exact⟨_,.cons q1 q2⟩
   ·cases h
end
end
theorem noDicts:∀(w:W){d:PyData},toD w=some d->d.hasDict=false
 |.non,d,h=>by cases h;rfl
 |.bl b,d,h=>by cases h;rfl
 |.int i,d,h=>by cases h;rfl
 |.str x,d,h=>by cases h;rfl
 |.tup ws,d,h=>by
  obtain⟨ds,h1,rfl⟩:=w0g.mp (show(toDs ws).map PyData.tuple=some d from h);exact go ws h1
 |.lst ws,d,h=>by
  obtain⟨ds,h1,rfl⟩:=w0g.mp (show(toDs ws).map PyData.list=some d from h);exact go ws h1
 |.exc c,d,h=>by cases h
 |.dic c,d,h=>by cases h
 |.dw _ _ _ _,d,h=>by cases h
 |.fn _ _ _,d,h=>by cases h
where
 go:∀(ws:List W){ds:List PyData},toDs ws=some ds->PyData.hasDictAll ds=false
 |[],ds,h=>by cases h;rfl
 |w::ws,ds,h=>by
  unfold toDs at h;split at h
  ·rename_i d0 ds0 h1 h2;cases h;show(PyData.hasDict d0||PyData.hasDictAll ds0)=false;rw[noDicts w h1,go ws h2];rfl
  ·cases h
theorem x4d(hu:X.A.units+150<cLine)(hg:X.A.guards=some []):CallR X (.builtin "repr") (fun xs H Q=>∃x w d G,xs=[x]/\Same G H/\Rep X.K G w x/\(∃a,x=.ref a)/\toD w=some d/\d.showable=true/\d.depth<=100/\d.shown.length<=sizeLine/\Q (.str d.shown) H):=by
 intro pins s σ H xs us Q I r h;obtain⟨x,w,d,G,rfl,sg,p,⟨a,rfl⟩,hd,h1,h2,h3,q⟩:=h;obtain⟨u,rfl,rx⟩:=vals1 r;obtain⟨as,rr⟩:=q9w I sg w p rx hd;cases(show u=Value.ref a from rx);refine repr_of_reads' rr h1 (PyData.noDict_hsm (noDicts w hd)) hg (by omega) (fun _ _ e=>e) (fun h' u' tk hk=>?_) h3
 exact⟨.str d.shown,H,I.kept (t':=tk) hk,⟨u',rfl⟩,q⟩
noncomputable def repr1:List W->Option W
 |[.tup ws]=>(toD (.tup ws)).bind fun d=>if d.showable=true/\d.depth<=100/\d.shown.length<=16777216 then some (.str d.shown)else none
 |[.lst ws]=>(toD (.lst ws)).bind fun d=>if d.showable=true/\d.depth<=100/\d.shown.length<=16777216 then some (.str d.shown)else none
 |_=>none
theorem y3a{K:PySem.W.Frag}:OpN K (fun xs H Q=>∃x w d G,xs=[x]/\Same G H/\Rep K G w x/\(∃a,x=.ref a)/\toD w=some d/\d.showable=true/\d.depth<=100/\d.shown.length<=sizeLine/\Q (.str d.shown) H) repr1:=by
 intro G H xs ws w Q s pr hf h;unfold repr1 at hf;split at hf
 ·obtain⟨x,r,rfl,px,pr⟩:=pr;cases(show r=[]from pr);obtain⟨d,hd,hf⟩:=w1e.mp hf;split at hf
  ·rename_i hc;cases hf;exact⟨x,_,d,G,rfl,s,px,(by obtain⟨a,_,e,_⟩:=px;exact⟨a,e⟩),hd,hc.1,hc.2.1,by rw[sizeLine_eq];exact hc.2.2,h G _ H (.refl s) rfl⟩
  ·cases hf
 ·obtain⟨x,r,rfl,px,pr⟩:=pr;cases(show r=[]from pr);obtain⟨d,hd,hf⟩:=w1e.mp hf;split at hf
  ·rename_i hc;cases hf;exact⟨x,_,d,G,rfl,s,px,(by obtain⟨a,_,e,_⟩:=px;exact⟨a,e⟩),hd,hc.1,hc.2.1,by rw[sizeLine_eq];exact hc.2.2,h G _ H (.refl s) rfl⟩
  ·cases hf
 ·cases hf
theorem x25(hu:X.A.units+150<cLine)(hgd:X.A.guards=some [])(hm:X.mg "repr"=none)(ha:DA Z X EE [e] dA)(hg:Gl X "repr":=by rfl)(he:starEach [e] X.env=(false,eval e X.env)::starEach [] X.env:=by rfl)(hpl:(backTo pos (starEach [] X.env)).any (·.1)=false:=by rfl):DE Z X EE (.Call (.Name "repr" p) [e] [] pos) (dFn repr1 dA):=
 q76 (x4d hu hgd) y3a PyProof.Rows.Boot.«repr» hm ha hg (by decide) (by decide) he hpl
mutual
noncomputable def plainW:W->Bool
 |.non=>true
 |.bl _=>true
 |.int i=>decide (0<=i/\i<32)
 |.tup ws=>plainWs ws
 |.lst ws=>plainWs ws
 |_=>false
noncomputable def plainWs:List W->Bool
 |[]=>true
 |w::ws=>plainW w&&plainWs ws
end
mutual
noncomputable def wgt:W->Nat
 |.int i=>(PyData.int i).weight
 |.tup ws=>wgts ws
 |.lst ws=>wgts ws
 |_=>0
noncomputable def wgts:List W->Nat
 |[]=>0
 |w::ws=>wgt w+1+wgts ws
end
theorem q5e:∀bs:List Bool,plainWs (bs.map .bl)=true/\depWs (bs.map .bl)=0/\wgts (bs.map .bl)=bs.length
 |[]=>⟨rfl,rfl,rfl⟩
 |b::bs=>by
  obtain⟨h1,h2,h3⟩:=q5e bs;refine⟨h1,?_,?_⟩
  ·show max 0 (depWs (bs.map .bl))=0;omega
  ·show 0+1+wgts (bs.map .bl)=_;rw[h3,w0x];omega
open PySem L2 PySem.Spec PyProof.Rows
end D
namespace L2
open PySem PySem.Spec PyProof.Rows
section
variable{κ:Type} [DecidableEq κ]
noncomputable def valV(kvs:List (κ×V))(k:κ):Option V:=(kvs.find? fun kv=>decide (kv.1=k)).map (·.2)
noncomputable def putK(kvs:List (κ×V))(k:κ)(v:V):List (κ×V):=
 if(kvs.any fun kv=>decide (kv.1=k))=true then kvs.map (fun kv=>if kv.1=k then(kv.1,v)else kv)else kvs++[(k,v)]
theorem q51{p:κ×V}{r:List (κ×V)}{k:κ}(e:p.1=k):valV (p::r) k=some p.2:=by simp[valV,w2e,e]
theorem q43{p:κ×V}{r:List (κ×V)}{k:κ}(e:¬p.1=k):valV (p::r) k=valV r k:=by simp[valV,w2e,e]
theorem q7l(k:κ):∀kvs:List (κ×V),(kvs.any fun kv=>decide (kv.1=k))=(valV kvs k).isSome
 |[]=>rfl
 |p::r=>by
  rw[w3z]
  by_cases e:p.1=k
  ·simp only[q51 e,decide_eq_true e,Bool.true_or,Option.isSome_some]
  ·rw[q43 e,decide_eq_false e,Bool.false_or];exact q7l k r
theorem q7a(kvs:List (κ×V))(k:κ)(v:V):(putK kvs k v).length<=kvs.length+1:=by
 unfold putK;split
 ·rw[w0b];omega
 ·rw[w0v,w0x,List.length_nil];omega
theorem x9f{kvs:List (κ×V)}{k:κ}(v:V)(h:valV kvs k=none):putK kvs k v=kvs++[(k,v)]:=by
 unfold putK;rw[q7l,h];exact if_neg (by decide)
theorem RelO.isSome_eq{o:Option V}{u:Option Value}(r:RelO o u):o.isSome=u.isSome:=by
 cases o with
 |none=>cases u with
  |none=>rfl
  |some _=>exact(show False from r).elim
 |some _=>cases u with
  |none=>exact(show False from r).elim
  |some _=>rfl
theorem KV.val{kvs:List (κ×V)}{vs:List (κ×Value)}(r:KV kvs vs)(k:κ):RelO (valV kvs k) (valueAt vs k):=by
 unfold KV at r
 induction r with
 |nil=>exact True.intro
 | @cons p q ps qs h t ih=>
  obtain⟨h1,h2⟩:=h
  by_cases e:p.1=k
  ·have e':q.1=k:=h1.symm.trans e;have b:valueAt (q::qs) k=some q.2:=by simp[valueAt,w2e,e']
   rw[q51 e,b];exact h2
  ·have e':¬q.1=k:=fun z=>e (h1.trans z)
   have b:valueAt (q::qs) k=valueAt qs k:=by simp[valueAt,w2e,e']
   rw[q43 e,b];exact ih
theorem KV.any{kvs:List (κ×V)}{vs:List (κ×Value)}(r:KV kvs vs)(k:κ):(kvs.any fun kv=>decide (kv.1=k))=vs.any fun kv=>decide (kv.1=k):=by
 unfold KV at r
 induction r with
 |nil=>rfl
 |cons h t ih=>rw[w3z,w3z,ih,h.1]
theorem KV.repl{kvs:List (κ×V)}{vs:List (κ×Value)}(r:KV kvs vs)(k:κ){y:V}{u:Value}(ry:RelV y u):
  KV (kvs.map fun kv=>if kv.1=k then(kv.1,y)else kv) (vs.map fun kv=>if kv.1=k then(kv.1,u)else kv):=by
 unfold KV at r |-
 induction r with
 |nil=>exact .nil
 | @cons p q ps qs h t ih=>
  rw[w0r,w0r];refine .cons ?_ ih;obtain⟨h1,h2⟩:=h
  by_cases e:p.1=k
  ·rw[if_pos e,if_pos (h1.symm.trans e)];exact⟨h1,ry⟩
  ·rw[if_neg e,if_neg (fun z=>e (h1.trans z))];exact⟨h1,h2⟩
theorem KV.put{kvs:List (κ×V)}{vs:List (κ×Value)}(r:KV kvs vs)(k:κ){y:V}{u:Value}(ry:RelV y u):KV (putK kvs k y) (stored vs k u):=by
 unfold putK stored;rw[r.any k]
 by_cases e:(vs.any fun kv=>decide (kv.1=k))=true
 ·rw[if_pos e,if_pos e];exact r.repl k ry
 ·rw[if_neg e,if_neg e];exact Paired.snoc r ⟨rfl,ry⟩
theorem KV.length{kvs:List (κ×V)}{vs:List (κ×Value)}(r:KV kvs vs):kvs.length=vs.length:=Paired.length r
end
variable{a b:Addr}{A:Around}{X:Cx}{H H':Hp}{k:Kx}{pins:List (Addr×Obj)}{xs:List (Kx×Addr×Value)}{kvs:List (Kx×V)}{kas:List Addr}{pos:Pos}{P:Program}{sh:Sh}{s:Shared}{σ:St}{y:V}{u:Value}{E:Value->Shared->Prop}{w:World}
theorem x4e{k:Key}(r:RelV (kV k) u):(mixKind P w).is k u=true:=by
 cases k with
 |inl i=>obtain⟨t,e⟩:=(show ∃t,u=Value.int i t from r);subst e;exact x2a P w i t
 |inr x=>obtain⟨t,e⟩:=(show ∃t,u=Value.str x t from r);subst e;exact x2b P w x t
abbrev KT(sh:Sh)(H:Hp):List (Kx×V)->List (Kx×Addr×Value)->Prop:=Paired fun p q=>p.1=q.1/\(KRep H p.1 (.ref q.2.1)/\Conf p.1 sh/\p.1.depth<=7)/\RelV p.2 q.2.2
theorem KT.val(r:KT sh H kvs xs)(k:Kx):RelO (valV kvs k) ((atKey xs k).map (·.2)):=by
 induction r with
 |nil=>exact True.intro
 | @cons p q ps qs h t ih=>
  obtain⟨h1,_,h2⟩:=h
  by_cases e:p.1=k
  ·have e':q.1=k:=h1.symm.trans e;have b:atKey (q::qs) k=some q.2:=by simp[atKey,w2e,e']
   rw[q51 e,b];exact h2
  ·have e':¬q.1=k:=fun z=>e (h1.trans z)
   have b:atKey (q::qs) k=atKey qs k:=by simp[atKey,w2e,e']
   rw[q43 e,b];exact ih
theorem KT.repl(r:KT sh H kvs xs)(k:Kx)(ry:RelV y u):
  KT sh H (kvs.map fun kv=>if kv.1=k then(kv.1,y)else kv) (xs.map (putAt k u)):=by
 induction r with
 |nil=>exact .nil
 | @cons p q ps qs h t ih=>
  rw[w0r,w0r];refine .cons ?_ ih;obtain⟨h1,h2,h3⟩:=h;unfold putAt
  by_cases e:p.1=k
  ·rw[if_pos e,if_pos (h1.symm.trans e)];exact⟨h1,h2,ry⟩
  ·rw[if_neg e,if_neg (fun z=>e (h1.trans z))];exact⟨h1,h2,h3⟩
theorem KT.put(r:KT sh H kvs xs)(k:Kx)(hb:KRep H k (.ref b)/\Conf k sh/\k.depth<=7)(ry:RelV y u):
  KT sh H (putK kvs k y) (storedH xs k b u):=by
 have e:(kvs.any fun kv=>decide (kv.1=k))=(atKey xs k).isSome:=by
  rw[q7l,(r.val k).isSome_eq,w3f]
 unfold putK storedH;rw[e]
 by_cases q:(atKey xs k).isSome=true
 ·rw[if_pos q,if_pos q];exact r.repl k ry
 ·rw[if_neg q,if_neg q];exact Paired.snoc r ⟨rfl,hb,ry⟩
noncomputable def putAd(kvs:List (Kx×V))(kas:List Addr)(k:Kx)(b:Addr):List Addr:=if(valV kvs k).isSome=true then kas else kas++[b]
theorem KT.putAd(r:KT sh H kvs xs)(ka:xs.map (·.2.1)=kas)(k:Kx):(storedH xs k b u).map (·.2.1)=L2.putAd kvs kas k b:=by
 unfold storedH L2.putAd;rw[(r.val k).isSome_eq,w3f]
 by_cases q:(atKey xs k).isSome=true
 ·rw[if_pos q,if_pos q,w1v,<- ka];refine w2k fun x _=>?_
  show(putAt k u x).2.1=x.2.1;unfold putAt;split<;>rfl
 ·rw[if_neg q,if_neg q,w0l,ka];rfl
theorem KT.keeps(r:KT sh H kvs xs)(ht:∀b u,TupLike u->H b=some u->H' b=some u):KT sh H' kvs xs:=
 Paired.mapP r fun _ _ z=>⟨z.1,⟨KRep.keeps ht _ z.2.1.1,z.2.1.2⟩,z.2.2⟩
section
variable{h:Heap}
theorem y0r{u:HO}(ok:HOk P w H h)(e:Rd H a u):ObjOk P w H h a u:=e.ok ok
theorem x0q{kvs:List (Key×V)}(ok:HOk P w H h)(e:Rd H a (.dK kvs)):kvs.length<=sizeLine/\(a==sysModules)=false/\∃vs,KV kvs vs/\h.DictOf (mixKind P w) a vs:=
 show ObjOk P w H h a (.dK kvs)from y0r ok e
theorem y9v{kvs:List (Key×V)}(ok:HOk P w H h)(e:H a=some (.dK kvs)):kvs.length<=sizeLine/\(a==sysModules)=false/\∃vs,KV kvs vs/\h.DictOf (mixKind P w) a vs:=x0q ok (.inl e)
theorem IsTup.seq{h:Heap}{its:List Value}(p:IsTup h a its.toArray):∃o n,h.get? a=some o/\o.cls=.type "tuple" /\ o.data=.seq its.toArray n:=by
 obtain⟨o,h1,h2,n,h3⟩:=p;exact⟨o,n,h1,h2,h3⟩
mutual
theorem KRep.is(ok:HOk P w H h):∀(k:Kx){x:V}{v:Value},KRep H k x->RelV x v->KIs h k v
 |.bl b,x,v,e,r=>by cases(show x=.bl b from e);exact r
 |.int b,x,v,e,r=>by cases(show x=.int b from e);exact r
 |.str b,x,v,e,r=>by cases(show x=.str b from e);exact r
 |.tup ks,x,v,e,r=>by
  obtain⟨a,xs,rfl,q,rs⟩:=e;cases(show v=Value.ref a from r);obtain⟨_,its,rv,p,_⟩:=(show ObjOk P w H h a (.tup xs)from Rd.ok q ok);obtain⟨o,n,h1,h2,h3⟩:=IsTup.seq p;exact⟨a,o,its.toArray,n,rfl,h1,h2,h3,by simpa using KReps.are ok ks rs rv⟩
theorem KReps.are(ok:HOk P w H h):∀(ks:List Kx){xs:List V}{vs:List Value},KReps H ks xs->Vals xs vs->KAre h ks vs
 |[],xs,vs,e,r=>by
  cases(show xs=[]from e);cases r;rfl
 |k::ks,xs,vs,e,r=>by
  obtain⟨x,r0,rfl,h1,h2⟩:=e;cases r with
  |cons q t=>exact⟨_,_,rfl,KRep.is ok k h1 q,KReps.are ok ks h2 t⟩
end
theorem q6o(ok:HOk P w H h)(e:KRep H k (.ref a)/\Conf k sh/\k.depth<=7):(treeKind P w sh).is h k a:=⟨KRep.is ok k e.1 rfl,e.2⟩
theorem x0r(ok:HOk P w H h)(e:Rd H a (.dT sh kvs kas)):kvs.length<=sizeLine/\(a==sysModules)=false /\
  ∃xs,KT sh H kvs xs/\xs.map (·.2.1)=kas/\h.DictOfH (treeKind P w sh) a xs:=by
 obtain⟨z,y,xs,r,ka,o,es,ep,h1,h2,h3,h4,h5⟩:=(show ObjOk P w H h a (.dT sh kvs kas)from y0r ok e);refine⟨z,y,xs,r,ka,o,es,ep,h1,h2,h3,h4,fun x hx=>?_,h5⟩
 have all:∀{l:List (Kx×V)}{m:List (Kx×Addr×Value)},KT sh H l m->∀x∈m,(treeKind P w sh).is h x.1 x.2.1:=by
  intro l m q
  induction q with
  |nil=>intro x hx;exact nomatch hx
  | @cons p q ps qs hq t ih=>
   intro x hx;rcases w0p.mp hx with e|hx
   ·subst e;exact q6o ok (by rw[<- hq.1];exact hq.2.1)
   ·exact ih x hx
 exact all r x hx
theorem y0s(ok:HOk P w H h)(e:H a=some (.dT sh kvs kas)):kvs.length<=sizeLine/\(a==sysModules)=false /\
  ∃xs,KT sh H kvs xs/\xs.map (·.2.1)=kas/\h.DictOfH (treeKind P w sh) a xs:=x0r ok (.inl e)
end
def DGet(H:Hp)(a:Addr)(y:V)(r:Option V):Prop:=
 (∃kvs k,Rd H a (.dK kvs)/\y=kV k/\r=valV kvs k)\/∃sh kvs kas k b,Rd H a (.dT sh kvs kas)/\y=.ref b/\(KRep H k (.ref b)/\Conf k sh/\k.depth<=7)/\r=valV kvs k
def DPut(H:Hp)(a:Addr)(y v:V)(H':Hp):Prop:=
 (∃kvs k,H a=some (.dK kvs)/\y=kV k/\kvs.length<sizeLine/\H'=upd H a (.dK (putK kvs k v))) \/
 ∃sh kvs kas k b,H a=some (.dT sh kvs kas)/\y=.ref b/\(KRep H k (.ref b)/\Conf k sh/\k.depth<=7)/\kvs.length<sizeLine/\H'=upd H a (.dT sh (putK kvs k v) (putAd kvs kas k b))
theorem DGet.t(e:Rd H a (.dT sh kvs kas))(eb:KRep H k (.ref b)/\Conf k sh/\k.depth<=7):DGet H a (.ref b) (valV kvs k):=.inr ⟨sh,kvs,kas,k,b,e,rfl,eb,rfl⟩
theorem DPut.t{v:V}(e:H a=some (.dT sh kvs kas))(eb:KRep H k (.ref b)/\Conf k sh/\k.depth<=7)(hl:kvs.length<sizeLine):
  DPut H a (.ref b) v (upd H a (.dT sh (putK kvs k v) (putAd kvs kas k b))):=.inr ⟨sh,kvs,kas,k,b,e,rfl,eb,hl,rfl⟩
section
variable{v:V}{r:Value}{o:Option V}
theorem Inv.big(I:Inv X pins σ H s):sysModules<s.heap.objs.size:=by
 have h:mainGlobals<s.heap.objs.size:=(I.mod.glob.keeps I.bk).lt;exact Nat.lt_trans (by decide) h
theorem q7m(hu:A.units+20<cLine):(treeKind P w sh).room A.in1:=by
 show A.in1.units+8<cLine;rw[Around.in1_units];omega
theorem x6i{Q:Value->Shared->Prop}(hu:A.units+20<cLine)(I:Inv X pins σ H s)(g:DGet H a y (some v))(ry:RelV y u)(h:∀w' s',Inv X pins σ H s'->RelV v w'->Q w' s'):
  wpAny (model X.prog X.w) A (getItem (.ref a) u) Q E s:=by
 rcases g with⟨kvs,k,e,ey,l⟩|⟨sh,kvs,kas,k,b,e,ey,eb,l⟩
 ·subst ey;obtain⟨z,hd,vs,rel,dd⟩:=x0q I.hok e;obtain⟨w',hw,rw'⟩:=RelO.some_of (v:=v) (o:=valueAt vs k) (by rw[l];exact rel.val k);exact wpAny_getItem_of (x4e ry) dd.mapOf hw (h w' _ (I.tok _) rw')
 ·subst ey;cases(show u=Value.ref b from ry);obtain⟨z,hd,xs,rel,_,dd⟩:=x0r I.hok e;obtain⟨w',hw,rw'⟩:=RelO.some_of (v:=v) (o:=(atKey xs k).map (·.2)) (by rw[l];exact rel.val k);obtain⟨p,hp,hp2⟩:=w0g.mp hw;refine wpAny_getItem_heap (q7m hu) (q6o I.hok eb) dd hp ?_;rw[hp2];exact h w' _ (I.tok _) rw'
theorem y3b{Q:Value->Shared->Prop}(hu:A.units+20<cLine)(I:Inv X pins σ H s)(g:DGet H a y o)(ry:RelV y u)(h:∀s',Inv X pins σ H s'->Q (.bool (!o.isSome)) s'):
  wpAny (model X.prog X.w) A (compareOp .NotIn u (.ref a)) Q E s:=by
 rcases g with⟨kvs,k,e,ey,l⟩|⟨sh,kvs,kas,k,b,e,ey,eb,l⟩
 ·subst ey;obtain⟨z,hd,vs,rel,dd⟩:=x0q I.hok e;refine wpAny_notIn_of (x4e ry) hd dd.mapOf ?_;rw[<- (rel.val k).isSome_eq,<- l];exact h _ (I.tok _)
 ·subst ey;cases(show u=Value.ref b from ry);obtain⟨z,hd,xs,rel,_,dd⟩:=x0r I.hok e;refine wpAny_notIn_heap (q7m hu) (q6o I.hok eb) hd dd ?_;have q:=(rel.val k).isSome_eq;rw[w3f]at q;rw[<- q,<- l];exact h _ (I.tok _)
theorem q81{h':Heap}{t':Nat}{ob:HO}(I:Inv X pins σ H s)(mu:Mut (H a))(hs:Heap.SameBut a s.heap h')(he:∃q,h'.get? a=some q)(new:ObjOk X.prog X.w (upd H a ob) h' a ob):
  Inv X pins σ (upd H a ob) {s with heap:=h',toks:=t'}:=
 I.write (x:=a) (e:=a) mu (.inl rfl) (fun b q hb z=>(hs.2 b hb).trans z) he new
theorem y7j{h':Heap}{kvs:List (Key×V)}{vs:List (Key×Value)}(z:kvs.length<=sizeLine)(hd:(a==sysModules)=false)(rel:KV kvs vs)(dd:h'.DictOf (mixKind P w) a vs):
  ObjOk P w H' h' a (.dK kvs):=⟨z,hd,vs,rel,dd⟩
theorem x6j{Q:Unit->Shared->Prop}(hu:A.units+20<cLine)(I:Inv X pins σ H s)(g:DPut H a y v H')(ry:RelV y u)(rv:RelV v r)(h:∀s',Inv X pins σ H' s'->Q () s'):
  wpAny (model X.prog X.w) A (setItem (.ref a) u r) Q E s:=by
 rcases g with⟨kvs,k,e,ey,l,eH⟩|⟨sh,kvs,kas,k,b,e,ey,eb,l,eH⟩
 ·subst ey eH;obtain⟨z,hd,vs,rel,dd⟩:=y9v I.hok e;have hz:vs.length<=sizeLine:=by rw[<- rel.length];exact z
  have hl:(putK kvs k v).length<=sizeLine:=by have:=q7a kvs k v;omega
  refine wpAny_setItem_pairs (hsz:=hz) (x4e ry) dd fun h' dd' hs=>h _ ?_
  have he:∃q,h'.get? a=some q:=let ⟨q,_,_,hq,_⟩:=dd';⟨q,hq⟩;exact q81 I (by rw[e];exact True.intro) hs he (y7j hl hd (rel.put k rv) dd')
 ·subst ey eH;cases(show u=Value.ref b from ry);obtain⟨z,hd,xs,rel,ka,dd⟩:=y0s I.hok e;have hz:xs.length<=sizeLine:=by rw[<- Paired.length rel];exact z
  have hl:(putK kvs k v).length<=sizeLine:=by have:=q7a kvs k v;omega
  refine wpAny_setItem_heap (hsz:=hz) (q7m hu) (q6o I.hok eb) dd fun h' dd' hs=>h _ ?_
  obtain⟨q,es,ep,hq,h2,h3,h4,_,h5⟩:=dd';refine q81 I (by rw[e];exact True.intro) hs ⟨q,hq⟩ ⟨hl,hd,_,(rel.put k eb rv).keeps fun c u ys ec=>?_,rel.putAd ka k,q,es,ep,hq,h2,h3,h4,h5⟩
  rw[q0c (q0q ec e (fun z=>by subst z;exact ys))]
  exact ec
end
def NoSl(i:Expr):Prop:=∀ov iv,subscripted i false ov iv=operate [ov,iv] (getItem ov iv)
theorem y3c{prog:Program}{env:Env}{value slice:Expr}{T id:String}{Q:Value->Shared->Prop}
  (hl:typeLookup (.type T) "__getitem__"=pure (some (.builtin id)))(hs:NoSl slice)
  (h:wpAny (model prog w) A (eval value env) (fun o s₁=>wpAny (model prog w) A (eval slice env) (fun i s₂=>s₂.TypeIs o T/\wpAny (model prog w) A (getItem o i) Q E s₂) E s₁) E s):
  wpAny (model prog w) A (eval (.Subscript value slice pos) env) Q E s:=by
 refine Subscript_ (wpAny_mono h (fun o s₁ h₁=>wpAny_mono h₁ (fun i s₂ h₂=>?_) fun _ _ x=>x) fun _ _ x=>x)
 obtain⟨hT,h₂⟩:=h₂;unfold subscriptTail;refine wpAny_bind ?_;rw[getitemInPython_of_ne hT.not_modules];refine wpAny_bind (wpAny_specialOf hT hl ?_)
 have fin:wpAny (model prog w) A (subscripted slice false o i) (fun r s₃=>wpAny (model prog w) A (letTemporaryGo value o r >>= fun _=>pure r) Q E s₃) E s₂:=by
  rw[hs o i];exact wpAny_operating (wpAny_mono h₂ (fun r s₃ h₃=>wpAny_bind (wpAny_letTemporaryGo (wpAny_pure h₃))) fun _ _ x=>x)
 first
  |exact wpAny_pure (wpAny_bind fin)
  |exact wpAny_bind (wpAny_pure (wpAny_bind fin))
  |exact wpAny_bind fin
theorem x2h{o:Option V}(I:Inv X pins σ H s)(g:DGet H a y o):s.TypeIs (.ref a) "dict":=by
 rcases g with⟨kvs,k,e,_,_⟩|⟨sh,kvs,kas,k,b,e,_,_,_⟩
 ·obtain⟨_,_,vs,_,dd⟩:=x0q I.hok e;exact dd.typeIs
 ·obtain⟨_,_,xs,_,_,dd⟩:=x0r I.hok e;exact dd.typeIs
def tDGet(td ty:TE):TE:=fun σ H Q=>td σ H fun x H1=>ty σ H1 fun y H2=>∃a v,x=.ref a/\DGet H2 a y (some v)/\Q v H2
def tDNotIn(ty td:TE):TE:=fun σ H Q=>ty σ H fun y H1=>td σ H1 fun x H2=>∃a o,x=.ref a/\DGet H2 a y o/\Q (.bl (!o.isSome)) H2
def sDPut(td ty tv:TE):TS:=fun D σ H=>tv σ H fun v H1=>td σ H1 fun x H2=>ty σ H2 fun y H3=>∃a H4,x=.ref a/\DPut H3 a y v H4/\D.nx σ H4
section
variable{o i e value:Expr}{pos' tpos:Pos}{td ty tv:TE}
theorem y3d(hu:X.A.units+20<cLine)(ho:PE X o td)(hi:PE X i ty)(hs:NoSl i):PE X (.Subscript o i pos) (tDGet td ty):=by
 intro pins s σ H Q I h;refine y3c PySem.F.slot_dict_getitem.lookup hs (thn (ho pins s σ H _ I h) fun u s1 ⟨x,H1,I1,rx,q1⟩=>thn (hi pins s1 σ H1 _ I1 q1) fun iv s2 ⟨y,H2,I2,ry,a,v,ex,g,q2⟩=>?_)
 subst ex;obtain rfl:u=Value.ref a:=rx;exact⟨x2h I2 g,x6i hu I2 g ry fun w' s3 I3 rw'=>⟨v,H2,I3,rw',q2⟩⟩
theorem x6k(hu:X.A.units+20<cLine)(hi:PE X i ty)(ho:PE X o td):PC X .NotIn i o (tDNotIn ty td):=by
 intro pins s σ H Q I h;refine thn (hi pins s σ H _ I h) fun iv s1 ⟨y,H1,I1,ry,q1⟩=>thn (ho pins s1 σ H1 _ I1 q1) fun u s2 ⟨x,H2,I2,rx,a,ov,ex,g,q2⟩=>?_
 subst ex;obtain rfl:u=Value.ref a:=rx;exact y3b hu I2 g ry fun s3 I3=>⟨.bl (!ov.isSome),H2,I3,rfl,q2⟩
theorem y3e(hu:X.A.units+20<cLine)(ho:PE X o td)(hi:PE X i ty)(hv:PE X value tv)(hs:swapsWith value (some (.Subscript o i pos')) pos.line X.env=pure false):
  PS X (.Assign [.Subscript o i pos'] value pos) (sDPut td ty tv):=by
 intro pins s σ H D I h;refine wpAny_Assign_Subscript (thn (hv pins s σ H _ I h) fun r s1 ⟨v,H1,I1,rv,q1⟩=>thn (ho pins s1 σ H1 _ I1 q1) fun u s2 ⟨x,H2,I2,rx,q2⟩=>thn (hi pins s2 σ H2 _ I2 q2) fun iv s3 ⟨y,H3,I3,ry,a,H4,ex,g,q3⟩=>?_) hs
 subst ex;obtain rfl:u=Value.ref a:=rx;exact x6j hu I3 g ry rv fun s4 I4=>⟨σ,H4,I4,q3⟩
end
theorem x1l(h:Heap)(hb:sysModules<h.objs.size):ObjOk P w H (h.push {cls:=.type "dict", data:=.dict #[]}) h.objs.size (.dT sh [] []):=
 ⟨w1a _,beq_eq_false_iff_ne.mpr (Ne.symm (w0o hb)),[],.nil,rfl,_,#[],0,Heap.get?_push_size _ rfl,⟨rfl,rfl,rfl⟩,rfl,rfl,List.nodup_nil⟩
def tDNewT(sh:Sh):TE:=fun _ H Q=>∀p,H p=none->Q (.ref p) (upd H p (.dT sh [] []))
theorem x9g{sh:Sh}:PE X (.Dict [] [] pos) (tDNewT sh):=fun pins s σ H Q I h=>
 wpAny_Dict_empty ⟨.ref s.heap.objs.size,_,I.laid (a:=s.heap.objs.size) (o:=.dT sh [] []) (t':=s.toks) (fun _ _ q=>Heap.get?_push_of_some _ q) (w0h _) (x1l s.heap I.big),rfl,h _ (I.hok.fresh (w0h _))⟩
section
variable{o:Obj}{kvs:List (Key×V)}
theorem Inv.swapAt{u u':HO}(I:Inv X pins σ H s)(e:H a=some u)(ht:¬TupLike u)(hb:∀ps,u≠.tbl ps)(hf:∀o v,X.H₀ a≠some (.frz o v))(hw:∀x,u≠.own x)(ok:HOk X.prog X.w H s.heap->ObjOk X.prog X.w (upd H a u') s.heap a u'):Inv X pins σ (upd H a u') s:=by
 have up:∀b,H b=none->upd H a u' b=none:=fun b n=>by
  rw[q0c (fun z=>by subst z;rw[e]at n;cases n)];exact n
 refine⟨I.ok,I.os,I.bare,⟨I.base.keep,I.base.slot,fun b ob q n hx=>up b (I.base.free b ob q n hx),I.base.there,fun b xs q=>?_,fun b ob v q=>?_,fun b ps q=>?_⟩,I.loc,I.cell,up _ I.free,fun x c q=>up c (I.freeC x c q),fun p hp=>?_,fun b v q=>?_,I.len⟩
 ·have z:=I.base.tups b xs q
  by_cases hb':b=a
  ·subst hb';rw[e]at z;exact absurd (show TupLike u by rw[Option.some.inj z];exact True.intro) ht
  ·rw[q0c hb'];exact z
 ·by_cases hb':b=a
  ·subst hb';exact absurd q (hf ob v)
  ·rw[q0c hb'];exact I.base.frzs b ob v q
 ·obtain⟨more,z⟩:=I.base.tbls b ps q
  by_cases hb':b=a
  ·subst hb';rw[e]at z;exact absurd (Option.some.inj z) (hb _)
  ·exact⟨more,by rw[q0c hb'];exact z⟩
 ·obtain⟨q1,q2,q3⟩:=I.pin p hp;exact⟨q1,up _ q2,q3⟩
 ·by_cases hb':b=a
  ·subst hb';rw[q0f]at q;cases q;exact ok I.hok
  ·rw[q0c hb']at q;refine(I.hok b v q).stay (fun _ _ _ z=>z) (fun c z=>?_) fun c xs tl z=>?_
   ·rw[q0c (fun y=>by subst y;rw[e]at z;exact hw _ (Option.some.inj z))];exact z
   ·rw[q0c (fun y=>by subst y;rw[e]at z;exact ht ((Option.some.inj z) ▸ tl))];exact z
end
section
variable{o:Obj}{xs:List V}
theorem Inv.freezeL(I:Inv X pins σ H s)(e:H a=some (.lst xs))(q:s.heap.get? a=some o):Inv X pins σ (upd H a (.frz o (.lst xs))) s:=
 I.swapAt e (fun z=>z) (fun _ z=>nomatch z) (fun ob v z=>by have:=I.base.frzs a ob v z;rw[e]at this;cases this) (fun _ z=>nomatch z) fun ok=>⟨q,(ok a _ e).stay (fun _ _ _ z=>z) (fun c z=>by rw[q0c (q0q z e (fun y=>nomatch y))];exact z) fun c xs tl z=>by rw[q0c (q0q z e (fun y=>by subst y;exact tl))];exact z⟩
theorem Inv.meltL(I:Inv X pins σ H s)(e:H a=some (.frz o (.lst xs)))(hf:∀o v,X.H₀ a≠some (.frz o v)):Inv X pins σ (upd H a (.lst xs)) s:=
 I.swapAt e (fun z=>z) (fun _ z=>nomatch z) hf (fun _ z=>nomatch z) fun ok=>(ok a _ e).2.stay (fun _ _ _ z=>z) (fun c z=>by rw[q0c (q0q z e (fun y=>nomatch y))];exact z) fun c xs tl z=>by rw[q0c (q0q z e (fun y=>by subst y;exact tl))];exact z
end
theorem y3f{l:Expr}{tl:TE}(hl:PE X l tl):PE X l (fun σ H Q=>tl σ H fun v H1=>∃a xs,v=.ref a/\H1 a=some (.lst xs)/\∀o,Q v (upd H1 a (.frz o (.lst xs)))):=by
 intro pins s σ H Q I h;refine thn (hl pins s σ H _ I h) fun v s1 ⟨x,H1,I1,r1,q1⟩=>?_
 obtain⟨a,xs,rfl,e,q⟩:=q1;obtain⟨its,_,⟨o,n,g,_⟩,_⟩:=I1.list (SqL.of e);exact⟨.ref a,_,I1.freezeL e g,r1,q o⟩
end L2
namespace D
open PySem L2 PySem.Spec PyProof.Rows
open PyProof.Rows (envOfC)
section
variable{P:Program}{w:World}{K:PySem.W.Frag}{mg:Str->Option Value}{base:Heap}
theorem conZ{x:Str}{st:Stmt}{N ps:List Str}{k:Nat}{F:List W->FR}(A:At K mg x st ps)(sc:FnScope N ps (defScope st))(len:∀ws,F ws≠.no->ws.length=ps.length)
  (hb:∀ws,F ws≠.no->∀(f:Addr)(cdv:Value)(A:Around)(outer:List Env)(s:Shared)(H:Hp)(E:XK)(Z:Zt),Room k (A.deeper (envOfC x (defScope st) s.heap.objs.size f cdv))->(Z.H=H/\Z.io=[]) ->
   ∃d,DSs Z (cxOf (CX1 P w) P w K mg base N x (defScope st) f cdv A outer s H E) (fun _=>E) (defBody st) d/\(d (init N.length ws)).fn=F ws):Cal P w K mg base (k+1) x ps (spF K F):=by
 refine A.cal sc (fun vs H Q E h=>?_) (fun f cdv A outer s H vs Q E hr h=>?_)
 ·obtain⟨G,ws,hn,r⟩:=q5k h;rw[r.length];exact len ws hn
 ·obtain⟨G,ws,sg,rp,h⟩:=h;have hn:F ws≠.no:=fun z=>by rw[z]at h;exact h
  obtain⟨d,hd,he⟩:=hb ws hn f cdv A outer s H E ⟨H,G,[]⟩ hr ⟨rfl,rfl⟩;exact⟨_,hd,G,init N.length ws,q36 sg rp,q5l he h⟩
end
section
variable{X:Cx}{Z:Zt}{EE:L2.St->XK}{a b c e:Expr}{es:List Expr}{da db d:Den W}{dF dA:Den (List W)}{x:Str}{pos p tpos:Pos}
noncomputable def isT:S->Bool
 |.thr _ _ _=>true
 |.nest _=>true
 |.x (.acc _)=>true
 |.x (.thro _ _ _)=>true
 |.x (.tn _ _)=>true
 |.x (.pt _ _ _)=>true
 |_=>false
end
section
variable{e e':List S}{ws us vs:List W}{v:Value}
theorem x6l{wss:List (List W)}:hide1 (.nest wss)=.fr (.lst (wss.map W.lst)):=rfl
theorem x9h:hide1 (.thr us ws vs)=.fr (.tup (us++.lst ws::vs)):=rfl
end
end D
namespace L2
open PySem PySem.Spec PyProof.Rows
section
variable{X:Cx}
noncomputable def insV{α:Type}(xs:List α)(k:Nat)(y:α):List α:=xs.take k++y::xs.drop k
def rInsert:V->List V->Hp->VK->Prop:=fun x vs H Q=>∃l xs i y,x=.ref l/\vs=[.int i,y]/\H l=some (.lst xs)/\0<=i/\i<2^63/\xs.length<sizeLine/\Q .non (upd H l (.lst (insV xs (min i.toNat xs.length) y)))
theorem Vals.takeN{xs:List V}{us:List Value}(r:Vals xs us):∀k,Vals (xs.take k) (us.take k):=by
 induction r with
 |nil=>intro k;simp;exact .nil
 |cons h t ih=>
  intro k;cases k with
  |zero=>exact .nil
  |succ k=>exact .cons h (ih k)
theorem Vals.dropN{xs:List V}{us:List Value}(r:Vals xs us):∀k,Vals (xs.drop k) (us.drop k):=by
 induction r with
 |nil=>intro k;simp;exact .nil
 |cons h t ih=>
  intro k;cases k with
  |zero=>exact .cons h t
  |succ k=>exact ih k
theorem x6m:MtM X "list.insert" rInsert:=by
 intro pins s σ H x vs v us Q I rx rv h;obtain⟨l,xs,i,y,rfl,rfl,hH,h1,h2,hz,q⟩:=h;cases rx;obtain⟨u,w,rfl,ru,rw'⟩:=rv.two;obtain⟨t,rfl⟩:=ru;obtain⟨z,its,n,r,hl,e⟩:=I.lstM hH
 have hk:(if i<0 then(i+(its.toArray.size:Int)).toNat else min i.toNat its.toArray.size)=min i.toNat xs.length:=by
  rw[if_neg (by omega),w0c,hl]
 refine call_meets F.slot_list_insert ⟨_,e,rfl⟩ F.entry_list_insert (F.args_list_insert_3 _ _ _)
  (AutoSeq1.list_insert_list_int_val_1 l its.toArray n i t w (by rw[fitsIndex_both (by omega) h2];decide) (by rw[w0c];omega)) ⟨e,?_⟩
 refine⟨.non,_,I.lset (its':=insV its (min i.toNat xs.length) w) hH e ?_ ((r.takeN _).append (.cons rw' (r.dropN _))) ?_,rfl,q⟩
 ·show(its.toArray.extract 0 (if i<0 then(i+(its.toArray.size:Int)).toNat else min i.toNat its.toArray.size)).push w++its.toArray.extract (if i<0 then(i+(its.toArray.size:Int)).toNat else min i.toNat its.toArray.size)=_;rw[hk];apply Array.toList_inj.mp;simp[insV];rw[w3m (by simp)]
 ·simp only[w0v,w0x,w2i,w2s];omega
def rMelt(X:Cx)(r:V->List V->Hp->VK->Prop):V->List V->Hp->VK->Prop:=fun x vs H Q=>∃l o ys,x=.ref l/\H l=some (.frz o (.lst ys))/\(∀o v,X.H₀ l≠some (.frz o v))/\r x vs (upd H l (.lst ys)) Q
theorem y3g{id:String}{r:V->List V->Hp->VK->Prop}(h:MtM X id r):MtM X id (rMelt X r):=by
 intro pins s σ H x vs v us Q I rx rv hq;obtain⟨l,o,ys,rfl,e,hf,q⟩:=hq;exact h pins s σ _ _ vs v us Q (I.meltL e hf) rx rv q
def rSetM(X:Cx):V->V->V->Hp->(Hp->Prop)->Prop:=fun o i v H Q=>∃l ob ys,o=.ref l/\H l=some (.frz ob (.lst ys))/\(∀o v,X.H₀ l≠some (.frz o v))/\rSetL o i v (upd H l (.lst ys)) Q
theorem x9i:PSet X (rSetM X):=by
 intro pins s σ H o i v ov iv u Q I ro ri rv hq;obtain⟨l,ob,ys,rfl,e,hf,q⟩:=hq;exact x7v pins s σ _ _ i v ov iv u Q (I.meltL e hf) ro ri rv q
end
def tTry2(K:PySem.W.Frag)(c1 c2:Addr)(i1 i2 n:Nat)(tb:(St->XK)->TS)(th1 th2:TS):TS:=fun D σ H=>
 tb (fun σ' cls _ H'=>(exmOne K cls (.ref c1)=some true/\∀e,H' e=none ->
   th1 {nx:=fun _ H''=>D.nx (List.replicate n none) H'',rt:=D.rt,bk:=fun _ H''=>D.bk (List.replicate n none) H'',ct:=fun _ H''=>D.ct (List.replicate n none) H''} (σ'.set i1 (some (.ref e))) (upd H' e (excO e cls))) \/
  (exmOne K cls (.ref c1)=some false/\exmOne K cls (.ref c2)=some true/\∀e,H' e=none ->
   th2 {nx:=fun _ H''=>D.nx (List.replicate n none) H'',rt:=D.rt,bk:=fun _ H''=>D.bk (List.replicate n none) H'',ct:=fun _ H''=>D.ct (List.replicate n none) H''} (σ'.set i2 (some (.ref e))) (upd H' e (excO e cls)))) D σ H
theorem y3h{X:Cx}{body suite suite2:List Stmt}{b₀ b2:Stmt}{c n c2 n2:Str}{i i2:Nat}{Cc C2:Addr}{np hpos np2 hpos2 pos:Pos}{tb:(St->XK)->TS}{th th2:TS}
  (hg:Gl X c)(hm:X.mg c=some (.ref Cc))(hN:X.N.Nodup)(hi:X.N[i]?=some n)(hx:X.env.scope.names.lookup n=some .local)
  (hg2:Gl X c2)(hm2:X.mg c2=some (.ref C2))(hi2:X.N[i2]?=some n2)(hx2:X.env.scope.names.lookup n2=some .local)
  (hb:∀(EE:St->XK)(pn:List (Addr×Obj))(xe:Value->Shared->Prop),PassX (CX1 X.prog X.w) (X.tr pn xe) EE->PSs (X.tr pn xe) body (tb EE))
  (hh:∀e:Addr,PSs (X.hn e) (b₀::suite) th)(hh2:∀e:Addr,PSs (X.hn e) (b2::suite2) th2)
  (hs:X.stack=X.env::X.outer:=by rfl)(hf:X.env.frame=some X.env.locals:=by rfl)(hdb:(c==("__debug__":Str))=false:=by decide)(hdb2:(c2==("__debug__":Str))=false:=by decide):
  PS X (.Try body [.ExceptHandler (some (.Name c np)) (some n) (b₀::suite) hpos,.ExceptHandler (some (.Name c2 np2)) (some n2) (b2::suite2) hpos2] [] [] pos) (tTry2 X.K Cc C2 i i2 X.N.length tb th th2):=by
 intro pins s σ H D I h;refine wpAny_Try_except (wpAny_mono (hb _ (X.pn++pins) _ ?pass [] s σ H D (I.tr _) h) (fun f s1 q=>?_) fun _ _ z=>z)
 case pass=>
  intro pins' σ' H1 s1 ev s2 I1 hx1;obtain⟨e,cls,H2,B,rfl,hos,hgn,un,hok,fly,hE⟩:=hx1;have I0:Inv X pins σ' H1 s1:=I1.untr;have un:Un (frs X.stack) [] H1 H2 s1.heap s2.heap:=un;have fly:Fly X.stack H1 H2 s1.heap s2.heap e cls B:=fly;have hfr:=fly.free hok;obtain⟨a0,fl⟩:=fly.fl;have fl':Heap.FlyingW B (X.env::X.outer) e cls a0 s2.heap:=hs ▸ fl;have fr':X.A.frames=some (X.env::X.outer):=hs ▸ I0.ok.frames;have noch:∀b∈([]:List Addr),(b∈X.ex\/X.s₀.heap.objs.size<=b)/\b≠X.env.locals/\(∀x c,X.env.cells.lookup x=some c->c≠b)/\∀p∈X.pn++pins,p.1≠b:=fun b z=>nomatch z
  have land:∀h5 tk,Heap.FlyingW B (X.env::X.outer) e cls a0 h5->s2.heap.UpToSlots h5->Inv X pins σ' H2 {s2 with heap:=h5,toks:=tk}:=fun h5 tk fl5 up5=>by
   have fl5':Heap.FlyingW B X.stack e cls a0 h5:=hs.symm ▸ fl5;exact I0.call' (s':={s2 with heap:=h5,toks:=tk}) (ch:=[]) hos (fly.un un fl5' up5) (fly.hok hok fl5') hgn noch
  refine wpAny_looks_onW (base:=B) fr' hf fl' fun h₄ held up₄=>?_
  refine wpAny_landsW held fun h₅ fl₅ up₅'=>?_
  have up₅:s2.heap.UpToSlots h₅:=up₄.trans up₅';have I5:=land h₅ s2.toks fl₅ up₅;obtain⟨ob,hob,hoc⟩:=fl₅.there;have LT:PySem.W.Looks (model X.prog X.w) h₅ (typeOf (.ref e)) cls:=hoc ▸ (PySem.W.Looks.ld hob).andThen .now
  have suite1:∀{n:Str}{i:Nat}{b₀:Stmt}{suite:List Stmt}{hpos:Pos}{th:TS},X.N[i]?=some n->X.env.scope.names.lookup n=some .local->(∀e:Addr,PSs (X.hn e) (b₀::suite) th) ->
    (th {nx:=fun _ H''=>D.nx (List.replicate X.N.length none) H'',rt:=D.rt,bk:=fun _ H''=>D.bk (List.replicate X.N.length none) H'',ct:=fun _ H''=>D.ct (List.replicate X.N.length none) H''} (σ'.set i (some (.ref e))) (upd H2 e (excO e cls))) ->
    codeAny (model X.prog X.w) (X.A.mark (some (.ref e))) (.handlers (.ref e) [.ExceptHandler none (some n) (b₀::suite) hpos] X.env) (fun r s₂=>match r with
     |.ok f=>wpAny (model X.prog X.w) X.A (do bindName X.env n .none;unbindBehindTheSuite X.env n hpos) (fun _ s₃=>SP X pins D f s₃) X.xe s₂
     |.error x=>cameBackBy (model X.prog X.w) X.A X.env X.xe x s₂) {s2 with heap:=h₅}:=by
   intro n i b₀ suite hpos th hi hx hh hE;refine codeAny_handlers_suite_as ?_;refine lands_againW fl₅ fun h₆ fl₆ up₆'=>?_
   have up₆:s2.heap.UpToSlots h₆:=up₅.trans up₆';obtain⟨oe,ws,hoe,hoec,hoed,_⟩:=fl₆.first
   have fl6':Heap.FlyingW B X.stack e cls a0 h₆:=hs.symm ▸ fl₆
   have I7:Inv X pins σ' (upd H2 e (excO e cls)) {s2 with heap:=h₆}:=
    I0.call' (s':={s2 with heap:=h₆}) (ch:=[]) hos ((fly.un un fl6' up₆).taken fly.new hfr) ((fly.hok hok fl6').taken hfr (y1d ⟨oe,ws,hoe,hoec,hoed⟩)) hgn noch
   refine q7d (X:=X.hn e) (I7.hn e) hN hi (.inl hx) (v:=.ref e) rfl (fun s8 I8=>?_) (.inr hx)
   refine wpAny_mono (hh e pins s8 _ _ _ I8 hE) (fun f s9 q=>?_) fun _ _ z=>z.elim
   show wpAny _ _ _ _ _ _
   have go:∀{σ9:St}{H9:Hp},Inv (X.hn e) pins σ9 H9 s9->∀R:Unit->Shared->Prop,(∀s',Inv X pins (List.replicate X.N.length none) H9 s'->R () s')->wpAny (model X.prog X.w) X.A (do bindName X.env n .none;unbindBehindTheSuite X.env n hpos) R X.xe s9:=fun {σ9 H9} I9 R hR=>by
    obtain⟨m9,hn9,_⟩:=I9.loc;refine wpAny_nameGoes (env:=X.env) hx hn9 (by rw[I0.ok.kind];rfl) fun h' m' hn' hsb=>hR _ ?_
    exact(I9.unhn I0.ok).forget hsb hn'
   cases f with
   |next=>obtain⟨σ9,H9,I9,q⟩:=q;exact go I9 _ fun s' I'=>⟨_,H9,I',q⟩
   |brk=>obtain⟨σ9,H9,I9,q⟩:=q;exact go I9 _ fun s' I'=>⟨_,H9,I',q⟩
   |cont=>obtain⟨σ9,H9,I9,q⟩:=q;exact go I9 _ fun s' I'=>⟨_,H9,I',q⟩
   |ret u=>obtain⟨v,σ9,H9,I9,r,q⟩:=q;exact go I9 _ fun s' I'=>⟨v,_,H9,I',r,q⟩
  refine wpAny_handleBy_cons (codeAny_handlers_test ?_) (by intro q;cases q);refine q34 (X:=X.hn e) (I5.hn e) hg hm ?_ hdb;rcases hE with⟨hmt,hE⟩|⟨hmt,hmt2,hE⟩
  ·refine(exm_one (M:=model X.prog X.w) I5.kIn LT hmt).at ?_;exact suite1 hi hx hh (hE e hfr)
  ·refine(exm_one (M:=model X.prog X.w) I5.kIn LT hmt).at ?_;show wpAny _ _ _ _ _ _;refine wpAny_handleBy_cons (codeAny_handlers_test ?_) (by intro q;cases q);refine q34 (X:=X.hn e) (I5.hn e) hg2 hm2 ?_ hdb2;refine(exm_one (M:=model X.prog X.w) I5.kIn LT hmt2).at ?_;exact suite1 hi2 hx2 hh2 (hE e hfr)
 ·cases f with
  |next=>obtain⟨σ',H',I',q⟩:=q;exact wpAny_execs_nil ⟨σ',H',I'.untr,q⟩
  |brk=>obtain⟨σ',H',I',q⟩:=q;exact⟨σ',H',I'.untr,q⟩
  |cont=>obtain⟨σ',H',I',q⟩:=q;exact⟨σ',H',I'.untr,q⟩
  |ret u=>obtain⟨v,σ',H',I',r,q⟩:=q;exact⟨v,σ',H',I'.untr,r,q⟩
end L2
namespace D
open PySem L2 PySem.Spec PyProof.Rows
section
variable{K:PySem.W.Frag}{Z:Zt}{G H:Hp}{ls:List Addr}{wss:List (List W)}
theorem NestIn.mem:∀{ls:List Addr}{wss:List (List W)},NestIn K Z G H ls wss->∀l∈ls,∃o ys,FzAt Z G H l o ys
 |[],_,_,_,hl=>nomatch hl
 |l::ls,ws::wss,⟨⟨o,ys,h1,_⟩,h⟩,c,hc=>by
  rcases w0p.mp hc with rfl|hc
  ·exact⟨o,ys,h1⟩
  ·exact h.mem c hc
 |_::_,[],h,_,_=>h.elim
theorem NestIn.snoc{a:Addr}{ws:List W}(hn:∃o ys,FzAt Z G H a o ys/\Reps K G ws ys):∀{ls:List Addr}{wss:List (List W)},NestIn K Z G H ls wss->NestIn K Z G H (ls++[a]) (wss++[ws])
 |[],[],_=>⟨hn,trivial⟩
 |_::_,_::_,⟨h1,h⟩=>⟨h1,h.snoc hn⟩
 |[],_::_,h=>h.elim
 |_::_,[],h=>h.elim
theorem NestIn.len:∀{ls:List Addr}{wss:List (List W)},NestIn K Z G H ls wss->ls.length=wss.length
 |[],[],_=>rfl
 |_::_,_::_,⟨_,h⟩=>by rw[w0x,w0x,h.len]
 |[],_::_,h=>h.elim
 |_::_,[],h=>h.elim
theorem NestIn.at:∀{ls:List Addr}{wss:List (List W)}{j:Nat}{ws:List W},NestIn K Z G H ls wss->wss[j]?=some ws->∃l o ys,ls[j]?=some l/\FzAt Z G H l o ys/\Reps K G ws ys
 |l::ls,_::wss,0,_,⟨⟨o,ys,h1,h2⟩,_⟩,e=>by cases e;exact⟨l,o,ys,rfl,h1,h2⟩
 |_::ls,_::wss,j+1,_,⟨_,h⟩,e=>by
  obtain⟨l,o,ys,h1,h2⟩:=h.at e;exact⟨l,o,ys,h1,h2⟩
 |[],[],_,_,_,e=>by simp at e
 |[],_::_,_,_,h,_=>h.elim
 |_::_,[],_,_,h,_=>h.elim
def LsIn(K:PySem.W.Frag)(G H:Hp):List Addr->List (List W)->Prop
 |[],[]=>True
 |l::ls,ws::wss=>(∃ys,(H l=some (.lst ys)\/∃o,H l=some (.frz o (.lst ys)))/\Reps K G ws ys)/\LsIn K G H ls wss
 |[],_::_=>False
 |_::_,[]=>False
theorem NestIn.toLs{H':Hp}:∀{ls:List Addr}{wss:List (List W)},NestIn K Z G H ls wss->(∀l∈ls,H' l=H l)->LsIn K G H' ls wss
 |[],[],_,_=>trivial
 |l::ls,_::wss,⟨⟨o,ys,h1,h2⟩,h⟩,e=>⟨⟨ys,.inr ⟨o,by rw[e l (by simp)];exact h1.1⟩,h2⟩,h.toLs fun l hl=>e l (by simp[hl])⟩
 |[],_::_,h,_=>h.elim
 |_::_,[],h,_=>h.elim
theorem NestIn.lsSet{a:Addr}{ws':List W}{ys':List V}(rp:Reps K G ws' ys'):∀{ls:List Addr}{wss:List (List W)}{j:Nat},NestIn K Z G H ls wss->ls.Nodup->ls[j]?=some a->LsIn K G (upd H a (.lst ys')) ls (wss.set j ws')
 |l::ls,_::wss,0,⟨_,h⟩,hn,e=>by
  cases e;refine⟨⟨ys',.inl q0f,rp⟩,h.toLs fun c hc=>q0c fun z=>?_⟩
  subst z;exact(w1f.mp hn).1 hc
 |l::ls,_::wss,j+1,⟨⟨o,ys,h1,h2⟩,h⟩,hn,e=>by
  have hj:ls[j]?=some a:=e;refine⟨⟨ys,.inr ⟨o,?_⟩,h2⟩,h.lsSet rp (w1f.mp hn).2 hj⟩;rw[q0c];exact h1.1;rintro rfl;exact(w1f.mp hn).1 (w0i hj)
 |[],[],_,_,_,e=>by simp at e
 |[],_::_,_,h,_,_=>h.elim
 |_::_,[],_,h,_,_=>h.elim
theorem LsIn.some{H:Hp}:∀{ls:List Addr}{wss:List (List W)},LsIn K G H ls wss->∀l∈ls,H l≠none
 |[],_,_,_,hl=>nomatch hl
 |l::ls,_::wss,⟨⟨ys,h1,_⟩,h⟩,c,hc=>by
  rcases w0p.mp hc with rfl|hc
  ·rcases h1 with h1|⟨o,h1⟩<;>rw[h1]<;>exact fun z=>nomatch z
  ·exact h.some c hc
 |_::_,[],h,_,_=>h.elim
theorem LsIn.reps{H G':Hp}(sg:Same G G'):∀{ls:List Addr}{wss:List (List W)},LsIn K G H ls wss->(∀l∈ls,G' l=H l)->Reps K G' (wss.map W.lst) (ls.map V.ref)
 |[],[],_,_=>rfl
 |l::ls,ws::wss,⟨⟨ys,h1,h2⟩,h⟩,e=>by
  refine⟨.ref l,ls.map V.ref,rfl,⟨l,ys,rfl,?_,Reps.mono sg ws h2⟩,h.reps sg fun l hl=>e l (by simp[hl])⟩
  have e0:=e l (by simp);rcases h1 with h1|⟨o,h1⟩
  ·exact SqL.of (by rw[e0,h1])
  ·exact .inl (.inr ⟨o,by rw[e0,h1]⟩)
 |[],_::_,h,_=>h.elim
 |_::_,[],h,_=>h.elim
end
section
variable{K:PySem.W.Frag}{Z:Zt}{G H:Hp}{σ:L2.St}{e:List S}
theorem Rel.nest(r:Rel K Z G σ H e){i:Nat}{wss:List (List W)}(h:e[i]?=some (.nest wss)):∃a ls,σ[i]?=some (some (.ref a))/\G a=some (.lst (ls.map V.ref))/\ls.Nodup/\NestIn K Z G H ls wss:=by
 obtain⟨a,ls,h1,h2,h3,h4⟩:=r.slot i _ h;refine⟨a,ls,?_,h2,h3,h4⟩;cases q:σ[i]? with
 |none=>rw[q]at h1;cases h1
 |some z=>rw[q]at h1;rw[show z=some (V.ref a)from h1]
theorem Rel.opened(r:Rel K Z G σ H e){i:Nat}{wss wss':List (List W)}{a:Addr}{ls:List Addr}{H':Hp}(he:e[i]?=some (.nest wss))(hv:σ[i]?=some (some (.ref a)))(ha:G a=some (.lst (ls.map V.ref)))(hin:NestIn K Z G H ls wss)
  (hT:∀s∈e.set i .no,isT s=false)(hH:∀c,c∉ls->H' c=H c)(hin':LsIn K G H' ls wss'):∃G',Same G G'/\Rep K G' (.lst (wss'.map W.lst)) (.ref a)/\Rel K Z G' σ H' (e.set i (.fr (.lst (wss'.map W.lst)))):=by
 classical
 have out:∀c u,G c=some u->c∉ls:=fun c u h hc=>by
  obtain⟨o,ys,h1⟩:=hin.mem c hc;rw[h1.2.1]at h;cases h
 have sg:Same G (fun c=>if c∈ls then H' c else G c):=fun c u h=>by
  show(if c∈ls then H' c else G c)=some u;rw[if_neg (out c u h)];exact h
 have inn:∀c,c∉ls->(fun c=>if c∈ls then H' c else G c) c=G c:=fun c hc=>if_neg hc
 have rp:Rep K (fun c=>if c∈ls then H' c else G c) (.lst (wss'.map W.lst)) (.ref a):=⟨a,_,rfl,SqL.of (sg _ _ ha),hin'.reps sg fun l hl=>if_pos hl⟩
 have hi:i<e.length:=(w0a.mp he).1
 have lt:∀c o,H c=some o->(∀ob ys,o≠.frz ob (.lst ys))->c∉ls:=fun c o h hne hc=>by
  obtain⟨ob,ys,h1⟩:=hin.mem c hc;rw[h1.1]at h;cases h;exact hne _ _ rfl
 refine⟨_,sg,rp,fun c u z=>?_,fun j s z=>?_,by simpa using r.len,fun j k b1 b2 w1 w2 c z1 z2 z3 z4=>?_,fun c u z n=>?_,fun c z=>?_,fun c z=>?_⟩
 ·by_cases hc:c∈ls
  ·rw[show(if c∈ls then H' c else G c)=H' c from if_pos hc]at z;exact z
  ·rw[show(if c∈ls then H' c else G c)=G c from if_neg hc]at z;rw[hH c hc];exact r.sub c u z
 ·by_cases hj:j=i
  ·subst hj;rw[w0f hi]at z;cases z;exact⟨.ref a,by rw[hv];rfl,rp⟩
  ·rw[w0e (fun z=>hj z.symm)]at z
   have hns:isT s=false:=hT s (w0i (i:=j) (by rw[w0e (fun z=>hj z.symm)];exact z))
   have y:=r.slot j s z;cases s with
   |no=>trivial
   |fr w=>
    obtain⟨u,y1,y2⟩:=y;exact⟨u,y1,Rep.mono sg w y2⟩
   |own b ws=>
    obtain⟨c,xs,y1,y2,y3,y4,y5⟩:=y;have hc:=lt c _ y2 (fun _ _ z=>nomatch z)
    exact⟨c,xs,y1,by rw[hH c hc];exact y2,(inn c hc).trans y3,y4,Reps.mono sg ws y5⟩
   |dic kvs=>
    obtain⟨c,y1,y2,y3,y4⟩:=y;have hc:=lt c _ y2 (fun _ _ z=>by cases kvs<;>cases z)
    exact⟨c,y1,by rw[hH c hc];exact y2,(inn c hc).trans y3,y4⟩
   |thr _ _ _=>cases hns
   |nest _=>cases hns
   |x k=>
    cases k with
    |old w=>obtain⟨u,h1,h2,h3⟩:=y;exact⟨u,h1,h2,Rep.mono sg w h3⟩
    |new w=>obtain⟨u,h1,h2⟩:=y;exact⟨u,h1,RepN.move sg (fun _ _ _ z=>z) w h2⟩
    |_=>cases hns
   |dw sh ks ws=>
    refine DwOk.move y sg fun c kv ka k1 k2 k3=>?_
    have hc:=lt c _ k1 (fun _ _ z=>nomatch z)
    exact⟨by rw[hH c hc];exact k1,by show(if c∈ls then H' c else G c)=none;rw[if_neg hc];exact k2,k3⟩
 ·have old:∀(k:Nat)(bb:Option Nat)(ww:List W),(e.set i (S.fr (.lst (wss'.map W.lst))))[k]?=some (.own bb ww)->e[k]?=some (.own bb ww):=fun k bb ww z=>by
   by_cases hk:k=i
   ·subst hk;rw[w0f hi]at z;cases z
   ·rw[w0e (fun z=>hk z.symm)]at z;exact z
  exact r.dis _ _ _ _ _ _ _ (old _ _ _ z1) (old _ _ _ z2) z3 z4
 ·have hc:c∉ls:=fun hc=>by
   obtain⟨_,_,h1⟩:=hin.mem c hc;rw[h1.2.2]at z;cases z
  rw[hH c hc];exact r.ent c u z n
 ·by_cases hc:c∈ls
  ·exact hin'.some c hc
  ·rw[hH c hc];exact r.ion c z
 ·have hc:c∉ls:=fun hc=>by
   obtain⟨_,_,h1⟩:=hin.mem c hc;exact z h1.2.2
  show(if c∈ls then H' c else G c)=Z.G c;rw[if_neg hc];exact r.gen c z
theorem Rel.setNest(r:Rel K Z G σ H e){i:Nat}{wss:List (List W)}{v:V}(q:NestOk K Z G H wss (some v)):Rel K Z G (σ.set i (some v)) H (e.set i (.nest wss)):=by
 refine⟨r.sub,fun j s z=>?_,by simpa using r.len,fun j k b1 b2 w1 w2 c z1 z2 z3 z4=>?_,r.ent,r.ion,r.gen⟩
 ·by_cases hj:j=i
  ·subst hj
   have hi:j<e.length:=by
    have:=(w0a.mp z).1;simpa using this
   rw[w0f hi]at z;cases z;rw[w0f (by rw[<- r.len];exact hi)];exact q
  ·rw[w0e (fun z=>hj z.symm)]at z |-
   exact r.slot j s z
 ·have old:∀(k:Nat)(bb:Option Nat)(ww:List W),(e.set i (S.nest wss))[k]?=some (.own bb ww)->k≠i/\e[k]?=some (.own bb ww):=fun k bb ww z=>by
   by_cases hk:k=i
   ·subst hk
    have hi:k<e.length:=by
     have:=(w0a.mp z).1;simpa using this
    rw[w0f hi]at z;cases z
   ·rw[w0e (fun z=>hk z.symm)]at z;exact⟨hk,z⟩
  obtain⟨n1,q1⟩:=old _ _ _ z1;obtain⟨n2,q2⟩:=old _ _ _ z2;rw[w0e (fun z=>n1 z.symm)]at z3
  rw[w0e (fun z=>n2 z.symm)]at z4
  exact r.dis _ _ _ _ _ _ _ q1 q2 z3 z4
end
variable{c1 c2:Addr}{X:Cx}{d dA:Den (List W)}{d2:Den W}{G H:Hp}{a:Int}{EE:L2.St->XK}{wss:List (List W)}{ls:List Addr}{js:List Nat}{e:List S}{h1 h2:List S->SR}{ws:List W}{f:List W->List W->Option (List W)}{i i1 i2 n:Nat}{pos:Pos}{K:PySem.W.Frag}{Z:Zt}
noncomputable def compN(d:Den (List W))(pe:List S):List W->Option (List (List W))
 |[]=>some []
 |w::ws=>match d (.fr w::pe)with
  |.ok y _=>(compN d pe ws).map (y::·)
  |_=>none
noncomputable def nestK(i:Nat)(e:List S):Option (List (List W))->SR
 |some out=>.nx (e.set i (.nest out))
 |none=>.no
noncomputable def nestW(i:Nat)(js:List Nat)(d:Den (List W))(e:List S):Option (List W)->SR
 |some ws=>if ws.length<=16777216 then nestK i (frzs js e) (compN d (pjS js (frzs js e)) ws)else .no
 |none=>.no
noncomputable def dSetN(i:Nat)(js:List Nat)(di:Den W)(d:Den (List W)):List S->SR:=fun e=>(di e).stm fun w e1=>nestW i js d e1 (seqW w)
def cF(K:PySem.W.Frag)(d:Den (List W)):TE:=fun σ H Q=>∃Z',liftF K Z' (fun _=>E0) d σ H Q
def cFz(K:PySem.W.Frag)(d:Den (List W)):TE:=fun σ H Q=>cF K d σ H fun v H1=>∃a xs,v=.ref a/\H1 a=some (.lst xs)/\∀o,Q v (upd H1 a (.frz o (.lst xs)))
section
variable{G1 H1:Hp}{σ:L2.St}{e1:List S}
theorem x26{J:It}{xs:List V}{SQ:Hp->Prop}{out:List (List W)}{Q:VK}{G0:Hp}(W0:Walk J xs SQ)(r1:Rel K Z G1 σ H1 e1)(s1:Same G0 G1)(rp:Reps K G1 ws xs)(hSQ:∀G' H',Same G1 G'->Same G' H'->SQ H')(hl:ws.length<=16777216)
  (hz:∀p,H1 p=none->p∉Z.io)(hc:compN d (pjS js e1) ws=some out)
  (h:∀G' a ls H',Rel K Z G' σ H' e1->Same G0 G'->H' a=some (.lst (ls.map V.ref))->G' a=none->Z.H a=none->Free σ e1 a->ls.Nodup->NestIn K Z G' H' ls out->Q (.ref a) H'):
  ∀D,H1 D=none->∃W:Nat->Nat->Hp->Prop,(∃m,W 0 m (upd H1 D (.lst [])))/\∀i m H2,W i m H2 ->
   (J.stop i H2/\Q (.ref D) H2)\/(J.go i H2/\∀x H3,J.yld i H2 x H3->gName 0 x (List.replicate 1 none++pj js σ) H3 fun σ4 H4=>Kp (List.replicate 1 none++pj js σ) σ4/\cT K dYes σ4 H4 fun b H5=>
    if b=true then cFz K d σ4 H5 fun y H6=>∃ys,H6 D=some (.lst ys)/\ys.length<sizeLine/\∃m',m'<m/\W (i+1) m' (upd H6 D (.lst (ys++[y])))else ∃m',m'<m/\W (i+1) m' H5):=by
 intro D hD;have hlen:=rp.length
 refine⟨fun i m H2=>m=ws.length-i/\i<=ws.length/\∃G2 ls done rest,Rel K Z G2 σ H2 e1/\Same G1 G2/\H2 D=some (.lst (ls.map V.ref))/\G2 D=none/\ls.Nodup/\NestIn K Z G2 H2 ls done/\ls.length=i/\compN d (pjS js e1) (ws.drop i)=some rest/\done++rest=out,
  ⟨ws.length,by omega,w1a _,G1,[],[],out,r1.grow (Grow.hid r1.sub hD _),.refl _,q0f,r1.sub.free hD,.nil,trivial,rfl,hc,rfl⟩,?_⟩
 rintro i m H2 ⟨rfl,hi,G2,ls,done,rest,r2,s2,hd2,hg2,hnd,hin,hll,hc2,ho⟩;have hfree:Free σ e1 D:=q35 r1 hD;have hzh:Z.H D=none:=q20 r1 hD
 by_cases hlt:i<ws.length
 ·refine .inr ⟨W0.go i H2 (hSQ G2 H2 s2 r2.sub) (by omega),fun x H3 hy=>?_⟩
  obtain⟨rfl,hx⟩:=W0.yld i H2 x H3 (hSQ G2 H2 s2 r2.sub) hy (by omega);obtain⟨w,hw,pw⟩:=rp.getV hx;rw[q6k hw]at hc2;refine⟨Kp.one,⟨H3,G2,[]⟩,G2,.fr w::pjS js e1,r2.block js (Rep.mono s2 w pw),?_⟩;intro G3 H5 r3 s3;rw[if_pos rfl];refine⟨⟨H3,G2,[]⟩,G3,.fr w::pjS js e1,r3,?_⟩;unfold compN at hc2;cases qd:d (.fr w::pjS js e1)with
  |no=>rw[qd]at hc2;cases hc2
  |ex _ _=>rw[qd]at hc2;cases hc2
  |ok y e3=>
   rw[qd]at hc2;intro G4 a xs H6 r4 s4 q1 q2 q3 q4 p4;have q3:H3 a=none:=q3;refine⟨a,xs,rfl,q1,fun o=>?_⟩
   have g4:=r4.toGrow (s3.trans s4);obtain⟨rest',hr,rfl⟩:=w0g.mp hc2;have hDa:D≠a:=q0k hd2 q3;have hd6:H6 D=some (.lst (ls.map V.ref)):=g4.hh _ _ hd2;have hg6:G4 D=none:=by rw[g4.new D (by rw[hd2];simp)];exact hg2
   have r6:=((r2.grow g4).mutFree (o:=.frz o (.lst xs)) q2 (q20 r2 q3) (ionone r2 a q3) (q35 r2 q3) q1);have hd7:(upd H6 a (.frz o (.lst xs))) D=some (.lst (ls.map V.ref)):=by rw[q0c hDa];exact hd6
   have r7:=r6.mutFree (o:=.lst (ls.map V.ref++[.ref a])) hg6 hzh (hz D hD) hfree hd7
   have hnew:∀c∈ls,c≠a/\c≠D:=fun c hcl=>by
    obtain⟨oc,yc,h1⟩:=hin.mem c hcl;exact⟨q0k h1.1 q3,q0q h1.1 hd2 (fun z=>nomatch z)⟩
   refine⟨ls.map V.ref,hd7,by rw[w0b,sizeLine_eq];omega,ws.length-(i+1),by omega,rfl,hlt,G4,ls++[a],done++[y],rest',?_,s2.trans (s3.trans s4),?_,hg6,?_,?_,by simp[hll],hr,by rw[w2q];exact ho⟩
   ·exact r7
   ·rw[q0f,w0l];rfl
   ·rw[w3g];refine⟨hnd,by simp,fun c hc d hd=>?_⟩
    rw[w0k.mp hd];exact(hnew c hc).1
   ·refine NestIn.snoc ⟨o,xs,⟨by rw[q0c (fun z=>hDa z.symm),q0f],q2,q20 r2 q3⟩,p4⟩ ?_
    refine hin.move (s3.trans s4) fun l ob ys k1 k2 k3=>⟨?_,by rw[g4.new l (by rw[k1];simp)];exact k2,k3⟩
    rw[q0c (q0q k1 hd2 (fun z=>nomatch z)),q0c (q0k k1 q3)]
    exact g4.hh _ _ k1
 ·have:i=ws.length:=by omega
  subst this;rw[w2j]at hc2;cases hc2;rw[w1i]at ho;subst ho;exact .inl ⟨W0.stop _ H2 (hSQ G2 H2 s2 r2.sub) (by omega),h G2 D ls H2 r2 (s1.trans s2) hd2 hg2 hzh hfree hnd hin⟩
end
section
variable{elt iter:Expr}{scope sc:Scope}{pt:Pos}{x:Str}{Nf N:List Str}{di:Den W}
theorem y3i(i:Nat){y:Str}{py spos:Pos}(hNd:X.N.Nodup)(hc:X.calm=true)(hi:DE Z X EE iter di)(ok:compOk sc scope N Nf js=true)
  (he:∀Z' cl C s₀ H₀ ex,DF Z' (X.cp ([x]++Nf) scope cl C s₀ H₀ ex) (fun _=>E0) elt d)
  (hg:∀cl C s₀ H₀ ex,PG (X.cp ([x]++Nf) scope cl C s₀ H₀ ex) (.Name x pt) (gName 0))
  (hsc:X.env.scope=sc:=by rfl)(hN:X.N=N:=by rfl)(hs:∀x,foldedSetIterable iter X.env x=pure x:=by intro _;rfl)(hiy:X.N[i]?=some y:=by rfl)(hxy:Loc X.env.scope y:=by walk_at "3")(hfy:X.fn y=true\/X.env.scope.names.lookup y=some .local:=by walk_at "2")(hsw:swapsWith (.ListComp elt [⟨.Name x pt,iter,[],0⟩] scope pos) (some (.Name y py)) spos.line X.env=pure true:=by rfl):
  DS Z X EE (.Assign [.Name y py] (.ListComp elt [⟨.Name x pt,iter,[],0⟩] scope pos) spos) (dSetN i js di d):=by
 have hE:∀cl C s₀ H₀ ex,PE (X.cp ([x]++Nf) scope cl C s₀ H₀ ex) elt (cF X.K d):=fun cl C s₀ H₀ ex pins s σ H Q I ⟨Z',h⟩=>he Z' cl C s₀ H₀ ex pins s σ H Q I h
 refine PS.mono (q9r (Nl:=[x]) (tc:=cT X.K dYes) (te:=cFz X.K d) hc (q77 hi) ok hg (x0p fun _ _ _ _ _ _=>q5m) (fun cl C s₀ H₀ ex=>y3f (hE cl C s₀ H₀ ex)) (q3r i hNd hiy hxy hfy) hsw hsc hN hs) ?_
 rintro D σ H ⟨G,e,rel,h⟩;refine⟨G,e,rel,(q02 h).imp (fun w e1 h G1 v1 H1 r1 s1 p1=>?_) fun _ _ h=>h⟩
 unfold nestW at h;split at h
 ·rename_i ws hw;split at h
  ·rename_i hl;unfold nestK at h;split at h
   ·rename_i out ho;obtain⟨G2,s2,r2⟩:=r1.frzs js;have p2:=Rep.mono s2 w p1;have io:=ionone r2
    have fin:∀G' a ls H',Rel X.K Z G' σ H' (frzs js e1)->Same G G'->H' a=some (.lst (ls.map V.ref))->G' a=none->Z.H a=none->Free σ (frzs js e1) a->ls.Nodup->NestIn X.K Z G' H' ls out->D.nx (σ.set i (some (.ref a))) H':=fun G' a ls H' r s q1 q2 q3 q4 hn hin=>by
     obtain⟨sg,rg⟩:=r.seen q1 q2 q3 q4;exact h _ _ H' (rg.setNest (v:=.ref a) ⟨a,ls,rfl,q0f,hn,hin.move sg fun l o ys k1 k2 k3=>⟨k1,by rw[q0c (q0q k1 q1 (fun z=>nomatch z))];exact k2,k3⟩⟩) (s.trans sg)
    cases w with
    |tup us=>
     cases hw;obtain⟨a,xs,rfl,hq,rp⟩:=p2;exact⟨a,rfl,.inr ⟨⟨xs,r2.sub.tup hq⟩,x26 (Q:=fun x H1=>gName i x σ H1 D.nx) x08 r2 (s1.trans s2) rp (fun G' H' s s'=>Same.tup s' (Same.tup s hq)) hl io ho fin⟩⟩
    |lst us=>
     cases hw;obtain⟨a,xs,rfl,hq,rp⟩:=p2;exact⟨a,rfl,.inl ⟨⟨xs,r2.sub.seq hq⟩,x26 (Q:=fun x H1=>gName i x σ H1 D.nx) x07 r2 (s1.trans s2) rp (fun G' H' s s'=>Same.seq s' (Same.seq s hq)) hl io ho fin⟩⟩
    |_=>cases hw
   ·exact h.elim
  ·exact h.elim
 ·exact h.elim
end
noncomputable def ixNB(a:Int)(k2:W)(e2:List S):Option S->R W
 |some (.nest wss)=>match k2 with
  |.int b=>ofOpt ((atI wss a).bind fun ws=>atI ws b) e2
  |_=>.no
 |_=>.no
noncomputable def ixNA(i:Nat)(d2:Den W)(k1:W)(e1:List S):Option S->R W
 |some (.nest wss)=>match k1 with
  |.int a=>if(atI wss a).isSome=true then(d2 e1).bind fun k2 e2=>ixNB a k2 e2 e2[i]? else .no
  |_=>.no
 |_=>.no
noncomputable def ixN0(k:R W):Option S->R W
 |some (.nest _)=>k
 |_=>.no
noncomputable def dIxN(i:Nat)(d1 d2:Den W):Den W:=fun e=>ixN0 ((d1 e).bind fun k1 e1=>ixNA i d2 k1 e1 e1[i]?) e[i]?
noncomputable def varN(i:Nat)(e:List S):Option S->R W
 |some (.nest wss)=>if(e.set i .no).all (fun s=>!isT s)=true then .ok (.lst (wss.map W.lst)) (e.set i (.fr (.lst (wss.map W.lst))))else .no
 |_=>dVar i e
noncomputable def dVarN(i:Nat):Den W:=fun e=>varN i e e[i]?
theorem allT(h:e.all (fun s=>!isT s)=true):∀s∈e,isT s=false:=fun s hs=>by
 have:=w0t.mp h s hs;simpa using this
theorem q7n{ls':List Addr}(h:ls.map V.ref=ls'.map V.ref):ls=ls':=by
 induction ls generalizing ls' with
 |nil=>cases ls' with
  |nil=>rfl
  |cons=>cases h
 |cons a ls ih=>cases ls' with
  |nil=>cases h
  |cons b ls'=>
   rw[w0r,w0r]at h;injection h with h1 h2
   injection h1 with h1
   rw[h1,ih h2]
theorem NestIn.atI{i:Int}(h:NestIn K Z G H ls wss)(e:L2.atI wss i=some ws):∃j l o ys,ixN wss.length i=some j/\ls[j]?=some l/\L2.atI (ls.map V.ref) i=some (.ref l)/\FzAt Z G H l o ys/\Reps K G ws ys:=by
 have hl:=h.len;unfold L2.atI at e;cases q:ixN wss.length i with
 |none=>rw[q]at e;cases e
 |some j=>
  rw[q]at e;obtain⟨l,o,ys,h1,h2,h3⟩:=h.at e;refine⟨j,l,o,ys,rfl,h1,?_,h2,h3⟩;unfold L2.atI;rw[w0b,hl,q];simp[h1]
section
variable{a b k:Expr}{es:List Expr}{d1 dk dv:Den W}{x:Str}{p spos tpos:Pos}
theorem y7k(i:Nat)(h1:DE Z X EE a d1)(h2:DE Z X EE b d2)(hN:X.N[i]?=some x:=by rfl)(hv:Vis X.env.scope x:=by walk_at "1")(hd:(x==("__debug__":Str))=false:=by decide)(hcd:(x==("__classdict__":Str))=false:=by decide)
  (hs1:PlainIx a:=by intro _ _;rfl)(hs2:PlainIx b:=by intro _ _;rfl):DE Z X EE (.Subscript (.Subscript (.Name x p) a spos) b pos) (dIxN i d1 d2):=by
 refine PE.mono (q6v ix_list (q6v ix_list (pv i hN hv hd hcd) h1 hs1) h2 hs2) ?_;rintro σ H Q ⟨G,e,rel,h⟩;unfold dIxN ixN0 at h;split at h
 ·rename_i wss0 he0;obtain⟨aa,ls,g1,g2,g3,g4⟩:=rel.nest he0;rw[R.holds_bind]at h;refine⟨.ref aa,g1,G,e,rel,h.imp (fun k1 e1 h G1 v1 H1 r1 s1 p1=>?_) fun _ _ h=>h⟩
  unfold ixNA at h;split at h
  ·rename_i wss1 he1;split at h
   ·rename_i n1;split at h
    ·rename_i hsome;cases p1;obtain⟨a1,ls1,f1,f2,f3,f4⟩:=r1.nest he1;rw[g1]at f1;cases f1;obtain⟨ws,hws⟩:=w1n.mp hsome;obtain⟨j,l,o,ys,_,m1,m2,m3,m4⟩:=f4.atI hws;refine⟨aa,_,n1,_,rfl,rfl,SqL.of (r1.sub _ _ f2),m2,G1,e1,r1,?_⟩;rw[R.holds_bind]at h;refine h.imp (fun k2 e2 h G2 v2 H2 r2 s2 p2=>?_) fun _ _ h=>XH.trans s1 h
     unfold ixNB at h;split at h
     ·rename_i wss2 he2;split at h
      ·rename_i n2;rw[ofOpt_holds]at h;obtain⟨w,hw,h⟩:=h;cases p2;obtain⟨a2,ls2,u1,u2,u3,u4⟩:=r2.nest he2;rw[g1]at u1;cases u1;have hls:ls1=ls2:=q7n (by have z:=s2 _ _ f2;rw[u2]at z;injection z with z;injection z with z;exact z.symm);subst hls;obtain⟨ws2,hws2,hw⟩:=w1e.mp hw;obtain⟨j2,l2,o2,ys2,_,t1,t2,t3,t4⟩:=u4.atI hws2;rw[m2]at t2;injection t2 with t2;injection t2 with t2;subst t2
       obtain⟨v,hv2,pv2⟩:=t4.atI hw;exact⟨l,ys2,n2,v,rfl,rfl,.inl (.inr ⟨o2,t3.1⟩),hv2,h G2 v H2 r2 (s1.trans s2) pv2⟩
      ·exact h.elim
     ·exact h.elim
    ·exact h.elim
   ·exact h.elim
  ·exact h.elim
 ·exact h.elim
theorem y3j(i:Nat)(hN:X.N[i]?=some x:=by rfl)(hv:Vis X.env.scope x:=by walk_at "1")(hd:(x==("__debug__":Str))=false:=by decide)(hcd:(x==("__classdict__":Str))=false:=by decide):DE Z X EE (.Name x pos) (dVarN i):=by
 refine PE.mono (pv i hN hv hd hcd) ?_;rintro σ H Q ⟨G,e,r,h⟩;unfold dVarN varN at h;split at h
 ·rename_i wss he;split at h
  ·rename_i hT;obtain⟨a,ls,g1,g2,g3,g4⟩:=r.nest he;obtain⟨G',sg,rp,r'⟩:=r.opened he g1 g2 g4 (allT hT) (fun _ _=>rfl) (g4.toLs fun _ _=>rfl)
   exact⟨.ref a,g1,h G' (.ref a) H r' sg rp⟩
  ·exact h.elim
 ·exact x03 σ H Q ⟨G,e,r,h⟩
noncomputable def mutNB(i:Nat)(f:List W->List W->Option (List W))(a:Int)(as:List W)(e2:List S):Option S->SR
 |some (.nest wss)=>match ixN wss.length a,(atI wss a).bind fun ws=>f ws as with
  |some j,some ws'=>if(e2.set i .no).all (fun s=>!isT s)=true then .nx (e2.set i (.fr (.lst ((wss.set j ws').map W.lst))))else .no
  |_,_=>.no
 |_=>.no
noncomputable def mutNA(i:Nat)(f:List W->List W->Option (List W))(dA:Den (List W))(k1:W)(e1:List S):Option S->SR
 |some (.nest wss)=>match k1 with
  |.int a=>if(atI wss a).isSome=true then(dA e1).stm fun as e2=>mutNB i f a as e2 e2[i]? else .no
  |_=>.no
 |_=>.no
noncomputable def mutN0(k:SR):Option S->SR
 |some (.nest _)=>k
 |_=>.no
noncomputable def dMutN(i:Nat)(f:List W->List W->Option (List W))(dk:Den W)(dA:Den (List W)):List S->SR:=fun e=>mutN0 ((dk e).stm fun k1 e1=>mutNA i f dA k1 e1 e1[i]?) e[i]?
noncomputable def insF(ws:List W):List W->Option (List W)
 |[.int n,w]=>if 0<=n/\n<9223372036854775808/\ws.length<16777216 then some (insV ws (min n.toNat ws.length) w)else none
 |_=>none
noncomputable def popF(ws:List W):List W->Option (List W)
 |[.int n]=>if 0<=n/\n.toNat<ws.length/\n<9223372036854775808 then some (ws.eraseIdx n.toNat)else none
 |_=>none
noncomputable def putF(w:W)(ws:List W):List W->Option (List W)
 |[.int n]=>(ixN ws.length n).map fun j=>ws.set j w
 |_=>none
theorem Reps.ins{w:W}{x:V}(hw:Rep K G w x):∀(k:Nat){ws:List W}{xs:List V},Reps K G ws xs->Reps K G (insV ws k w) (insV xs k x)
 |0,ws,xs,r=>⟨x,xs,by simp[insV],hw,by simpa [insV]using r⟩
 |k+1,[],_,r=>by
  cases(show _=[]from r);exact⟨x,[],by simp[insV],hw,rfl⟩
 |k+1,w'::ws,_,⟨y,r,rfl,h1,h2⟩=>⟨y,insV r k x,rfl,h1,Reps.ins hw k h2⟩
theorem Reps.erase:∀(k:Nat){ws:List W}{xs:List V},Reps K G ws xs->Reps K G (ws.eraseIdx k) (xs.eraseIdx k)
 |_,[],_,r=>by cases(show _=[]from r);exact rfl
 |0,w::ws,_,⟨y,r,rfl,h1,h2⟩=>h2
 |k+1,w::ws,_,⟨y,r,rfl,h1,h2⟩=>⟨y,r.eraseIdx k,rfl,h1,Reps.erase k h2⟩
def MutR(f:List W->List W->Option (List W))(r:V->List V->Hp->VK->Prop):Prop:=
 ∀(K:PySem.W.Frag)(G H:Hp)(l:Addr)(ws ws' as:List W)(ys vs:List V)(Q:VK),H l=some (.lst ys)->Reps K G ws ys->Reps K G as vs->f ws as=some ws' ->
  (∀u ys',Reps K G ws' ys'->Q u (upd H l (.lst ys')))->r (.ref l) vs H Q
theorem x9j:MutR insF rInsert:=by
 intro K G H l ws ws' as ys vs Q hl rw ra hf h;unfold insF at hf;split at hf
 ·split at hf
  ·rename_i hc;cases hf;obtain⟨v,r,rfl,pv,ra⟩:=ra;obtain⟨v2,r2,rfl,pv2,ra2⟩:=ra;cases(show r2=[]from ra2);cases pv;refine⟨l,ys,_,v2,rfl,rfl,hl,hc.1,hc.2.1,by rw[rw.length,sizeLine_eq];exact hc.2.2,?_⟩;rw[rw.length];exact h _ _ (Reps.ins pv2 _ rw)
  ·cases hf
 ·cases hf
theorem x9k:MutR popF rPopAt:=by
 intro K G H l ws ws' as ys vs Q hl rw ra hf h;unfold popF at hf;split at hf
 ·rename_i n;split at hf
  ·rename_i hc;cases hf;obtain⟨v,r,rfl,pv,ra⟩:=ra;cases(show r=[]from ra);cases pv;obtain⟨w,hw⟩:∃w,ws[n.toNat]?=some w:=⟨_,w0d hc.2.1⟩;obtain⟨y,hy,_⟩:=rw.get hw;refine⟨l,ys,n,n.toNat,y,rfl,rfl,hl,by omega,hc.2.2,?_,hy,h _ _ (Reps.erase _ rw)⟩;rw[rw.length];exact(q8t (j:=n.toNat) (by unfold ixN;rw[if_pos hc.1,if_pos (by omega)])).1
  ·cases hf
 ·cases hf
theorem x27(i:Nat){nm:Str}{id:String}{r:V->List V->Hp->VK->Prop}(hf:MutR f r){apos cpos:Pos}(slot:Slot "list" nm id)(hty:typeOf (.builtin id)=pure (.type "method_descriptor"))(hm:MtM X id r)(hz:Z.H=X.H₀)
  (hk:DE Z X EE k dk)(ha:DA Z X EE (a::es) dA)(hN:X.N[i]?=some x:=by rfl)(hv:Vis X.env.scope x:=by walk_at "1")(hd:(x==("__debug__":Str))=false:=by decide)(hcd:(x==("__classdict__":Str))=false:=by decide)
  (hs:PlainIx k:=by intro _ _;rfl)(hbase:attributeBase (.Subscript (.Name x p) k spos) nm X.env (eval (.Subscript (.Name x p) k spos) X.env)=eval (.Subscript (.Name x p) k spos) X.env:=by rfl)
  (hfew:((backTo cpos (starEach (a::es) X.env)).all (fun x=>!x.1)&&(backToKw cpos (keywordEach [] X.env)).all (fun x=>x.1.isSome)&&decide ((a::es).length+([]:List Keyword).length+(if([]:List Keyword).isEmpty then 0 else 1)<30))=true:=by rfl)
  (hline:(apos.endLine==cpos.line)=true:=by rfl)(hst:starEach (a::es) X.env=(false,eval a X.env)::starEach es X.env:=by rfl)(hplain:(backTo cpos (starEach es X.env)).any (·.1)=false:=by rfl)
  (hsw:swapsWith (.Call (.Attribute (.Subscript (.Name x p) k spos) nm apos) (a::es) [] cpos) none pos.line X.env=pure false:=by rfl):
  DS Z X EE (.Expr (.Call (.Attribute (.Subscript (.Name x p) k spos) nm apos) (a::es) [] cpos) pos) (dMutN i f dk dA):=by
 refine PS.mono (q6u (y0k PySem.F.plainAttrs_list slot hty (y3g hm) (q6v ix_list (pv i hN hv hd hcd) hk hs) ha hbase hfew hline hst hplain) hsw) ?_;rintro D σ H ⟨G,e,rel,h⟩;unfold dMutN mutN0 at h;split at h
 ·rename_i wss0 he0;obtain⟨aa,ls,g1,g2,g3,g4⟩:=rel.nest he0;refine⟨.ref aa,g1,G,e,rel,(q02 h).imp (fun k1 e1 h G1 v1 H1 r1 s1 p1=>?_) fun _ _ h=>h⟩
  unfold mutNA at h;split at h
  ·rename_i wss1 he1;split at h
   ·rename_i n1;split at h
    ·rename_i hsome;cases p1;obtain⟨a1,ls1,f1,f2,f3,f4⟩:=r1.nest he1;rw[g1]at f1;cases f1;obtain⟨ws,hws⟩:=w1n.mp hsome;obtain⟨j,l,o,ys,_,m1,m2,m3,m4⟩:=f4.atI hws;refine⟨aa,_,n1,_,rfl,rfl,SqL.of (r1.sub _ _ f2),m2,.inl ⟨rfl,ys,.inl (.inr ⟨o,m3.1⟩)⟩,G1,e1,r1,?_⟩;refine(q02 (σ:=σ) h).imp (fun as e2 h G2 vs H2 r2 s2 p2=>?_) fun _ _ h=>XH.trans s1 h
     unfold mutNB at h;split at h
     ·rename_i wss2 he2;split at h
      ·rename_i j2 ws' hj2 hf2;split at h
       ·rename_i hT;obtain⟨a2,ls2,u1,u2,u3,u4⟩:=r2.nest he2;rw[g1]at u1;cases u1;have hls:ls1=ls2:=q7n (by have z:=s2 _ _ f2;rw[u2]at z;injection z with z;injection z with z;exact z.symm);subst hls;obtain⟨ws2,hws2,hf2⟩:=w1e.mp hf2;obtain⟨j3,l2,o2,ys2,t0,t1,t2,t3,t4⟩:=u4.atI hws2;rw[hj2]at t0;cases t0;rw[m2]at t2;injection t2 with t2;injection t2 with t2;subst t2
        refine⟨l,o2,ys2,rfl,t3.1,fun _ _ z=>(by rw[<- hz,t3.2.2]at z;cases z),?_⟩
        refine hf X.K G2 _ l ws2 ws' as ys2 vs _ q0f t4 p2 hf2 fun u ys' hr=>?_
        rw[show upd (upd H2 l (.lst ys2)) l (.lst ys')=upd H2 l (.lst ys')from by funext c;unfold upd;split<;>rfl]
        obtain⟨G',sg,_,r'⟩:=r2.opened (H':=upd H2 l (.lst ys')) he2 g1 u2 u4 (allT hT) (fun c hc=>q0c fun z=>hc (by rw[z];exact w0i t1)) (u4.lsSet hr u3 t1)
        exact h G' σ _ r' ((s1.trans s2).trans sg)
       ·exact h.elim
      ·exact h.elim
     ·exact h.elim
    ·exact h.elim
   ·exact h.elim
  ·exact h.elim
 ·exact h.elim
noncomputable def one1(d:Den W):Den (List W):=fun e=>(d e).bind fun w e1=>.ok [w] e1
noncomputable def dPutN(i:Nat)(dv dk d2:Den W):List S->SR:=fun e=>(dv e).stm fun w e1=>dMutN i (putF w) dk (one1 d2) e1
theorem q82(i:Nat)(hz:Z.H=X.H₀)(hval:DE Z X EE a dv)(hk:DE Z X EE k dk)(h2:DE Z X EE b d2)(hN:X.N[i]?=some x:=by rfl)(hv:Vis X.env.scope x:=by walk_at "1")(hd:(x==("__debug__":Str))=false:=by decide)(hcd:(x==("__classdict__":Str))=false:=by decide)
  (hs:PlainIx k:=by intro _ _;rfl)
  (ha:∀v,assign (.Subscript (.Subscript (.Name x p) k spos) b tpos) X.env v=(do
   let ov <- holding [v] (eval (.Subscript (.Name x p) k spos) X.env)
   let iv <- holding [v,ov] (eval b X.env)
   standAt tpos
   holding [v,ov,iv] (setItem ov iv v)
   release [v,ov,iv] []):=by intro _;rfl)
  (hs1:swapsWithSole [.Subscript (.Subscript (.Name x p) k spos) b tpos] a pos.line X.env=pure false:=by rfl)(hw:swappedStores [.Subscript (.Subscript (.Name x p) k spos) b tpos] a X.env=pure none:=by rfl)
  (h1:(assignEach [.Subscript (.Subscript (.Name x p) k spos) b tpos] X.env).map (·.2)=[assign (.Subscript (.Subscript (.Name x p) k spos) b tpos) X.env]:=by rfl):
  DS Z X EE (.Assign [.Subscript (.Subscript (.Name x p) k spos) b tpos] a pos) (dPutN i dv dk d2):=by
 refine PS.mono (y4t hval (y4s (q6v ix_list (pv i hN hv hd hcd) hk hs) h2 x9i ha) hs1 hw h1) ?_;rintro D σ H ⟨G,e,rel,h⟩;refine⟨G,e,rel,(q02 h).imp (fun w e0 h G0 v0 H0 r0 s0 p0=>?_) fun _ _ h=>h⟩
 unfold dMutN mutN0 at h;split at h
 ·rename_i wss0 he0;obtain⟨aa,ls,g1,g2,g3,g4⟩:=r0.nest he0;refine⟨.ref aa,g1,G0,e0,r0,(q02 (σ:=σ) h).imp (fun k1 e1 h G1 v1 H1 r1 s1 p1=>?_) fun _ _ h=>XH.trans s0 h⟩
  unfold mutNA at h;split at h
  ·rename_i wss1 he1;split at h
   ·rename_i n1;split at h
    ·rename_i hsome;cases p1;obtain⟨a1,ls1,f1,f2,f3,f4⟩:=r1.nest he1;rw[g1]at f1;cases f1;obtain⟨ws,hws⟩:=w1n.mp hsome;obtain⟨j,l,o,ys,_,m1,m2,m3,m4⟩:=f4.atI hws;refine⟨aa,_,n1,_,rfl,rfl,SqL.of (r1.sub _ _ f2),m2,G1,e1,r1,?_⟩
     have h:PostS X.K Z EE D G ((d2 e1).stm fun w2 e2=>mutNB i (putF w) n1 [w2] e2 e2[i]?):=by
      unfold one1 at h;cases q:d2 e1 with
      |ok w2 e2=>rw[q]at h;exact h
      |ex c e2=>rw[q]at h;exact h
      |no=>rw[q]at h;exact h
     refine(q02 (σ:=σ) h).imp (fun w2 e2 h G2 v2 H2 r2 s2 p2=>?_) fun _ _ h=>XH.trans (s0.trans s1) h
     unfold mutNB at h;split at h
     ·rename_i wss2 he2;split at h
      ·rename_i j2 ws' hj2 hf2;split at h
       ·rename_i hT;obtain⟨a2,ls2,u1,u2,u3,u4⟩:=r2.nest he2;rw[g1]at u1;cases u1;have hls:ls1=ls2:=q7n (by have z:=s2 _ _ f2;rw[u2]at z;injection z with z;injection z with z;exact z.symm);subst hls;obtain⟨ws2,hws2,hf3⟩:=w1e.mp hf2;obtain⟨j3,l2,o2,ys2,t0,t1,t2,t3,t4⟩:=u4.atI hws2;rw[hj2]at t0;cases t0;rw[m2]at t2;injection t2 with t2;injection t2 with t2;subst t2
        unfold putF at hf3;split at hf3
        ·rename_i n2 hn2;injection hn2 with hn2 _
         subst hn2;cases p2;obtain⟨j4,hj4,rfl⟩:=w0g.mp hf3;refine⟨l,o2,ys2,rfl,t3.1,fun _ _ z=>(by rw[<- hz,t3.2.2]at z;cases z),l,ys2,n2,j4,rfl,rfl,q0f,by rw[t4.length];exact hj4,?_⟩
         rw[show ∀u,upd (upd H2 l (.lst ys2)) l u=upd H2 l u from fun u=>by funext c;unfold upd;split<;>rfl]
         obtain⟨G',sg,_,r'⟩:=r2.opened (H':=upd H2 l (.lst (ys2.set j4 v0))) he2 g1 u2 u4 (allT hT) (fun c hc=>q0c fun z=>hc (by rw[z];exact w0i t1)) (u4.lsSet (t4.set j4 (Rep.mono (s1.trans s2) w p0)) u3 t1)
         exact h G' σ _ r' (((s0.trans s1).trans s2).trans sg)
        ·cases hf3
       ·exact h.elim
      ·exact h.elim
     ·exact h.elim
    ·exact h.elim
   ·exact h.elim
  ·exact h.elim
 ·exact h.elim
end
noncomputable def tryK2(K:PySem.W.Frag)(c1 c2:Addr)(i1 i2 n:Nat)(h1 h2:List S->SR):SR->SR
 |.ex cls e'=>if exmOne K cls (.ref c1)=some true then tryH n (h1 (e'.set i1 (.fr (.exc cls))))else
  if exmOne K cls (.ref c1)=some false/\exmOne K cls (.ref c2)=some true then tryH n (h2 (e'.set i2 (.fr (.exc cls))))else .no
 |r=>r
noncomputable def dTry2(K:PySem.W.Frag)(c1 c2:Addr)(i1 i2 n:Nat)(b h1 h2:List S->SR):List S->SR:=fun e=>tryK2 K c1 c2 i1 i2 n h1 h2 (b e)
theorem y3k{body suite suite2:List Stmt}{b₀ b2:Stmt}{c n c2 n2:Str}{Cc C2:Addr}{np hpos np2 hpos2:Pos}{dB dH dH2:List S->SR}
  (hm:X.mg c=some (.ref Cc))(hm2:X.mg c2=some (.ref C2))(hN:X.N.Nodup)(hi:X.N[i]?=some n)(hx:X.env.scope.names.lookup n=some .local)(hi2:X.N[i2]?=some n2)(hx2:X.env.scope.names.lookup n2=some .local)
  (hb:∀(EE:L2.St->XK)(pn:List (Addr×Obj))(xe:Value->Shared->Prop),PassX (CX1 X.prog X.w) (X.tr pn xe) EE->DSs Z (X.tr pn xe) EE body dB)
  (hh:∀e:Addr,DSs Z (X.hn e) (fun _=>E0) (b₀::suite) dH)(hh2:∀e:Addr,DSs Z (X.hn e) (fun _=>E0) (b2::suite2) dH2)(hg:Gl X c:=by rfl)(hg2:Gl X c2:=by rfl)
  (hs:X.stack=X.env::X.outer:=by rfl)(hf:X.env.frame=some X.env.locals:=by rfl)(hdb:(c==("__debug__":Str))=false:=by decide)(hdb2:(c2==("__debug__":Str))=false:=by decide):
  DS Z X EE (.Try body [.ExceptHandler (some (.Name c np)) (some n) (b₀::suite) hpos,.ExceptHandler (some (.Name c2 np2)) (some n2) (b2::suite2) hpos2] [] [] pos) (dTry2 X.K Cc C2 i i2 X.N.length dB dH dH2):=by
 refine PS.mono (y3h (tb:=fun EE=>liftS X.K Z EE dB) (th:=liftS X.K Z (fun _=>E0) dH) (th2:=liftS X.K Z (fun _=>E0) dH2) hg hm hN hi hx hg2 hm2 hi2 hx2 hb hh hh2 hs hf hdb hdb2) ?_
 rintro D σ H ⟨G,e,rel,h⟩;refine⟨G,e,rel,?_⟩;unfold dTry2 tryK2 at h;cases q:dB e with
 |nx e'=>rw[q]at h;exact h
 |bk e'=>rw[q]at h;exact h
 |ct e'=>rw[q]at h;exact h
 |rt w e'=>rw[q]at h;exact h
 |no=>rw[q]at h;exact h
 |ex cls e'=>
  rw[q]at h;intro G1 σ1 H1 r1 s1;dsimp only at h
  have one:∀{i:Nat}{dH:List S->SR},PostS X.K Z EE D G (tryH X.N.length (dH (e'.set i (.fr (.exc cls)))))->∀ex,H1 ex=none ->
    liftS X.K Z (fun _=>E0) dH {nx:=fun _ H''=>D.nx (List.replicate X.N.length none) H'',rt:=D.rt,bk:=fun _ H''=>D.bk (List.replicate X.N.length none) H'',ct:=fun _ H''=>D.ct (List.replicate X.N.length none) H''} (σ1.set i (some (.ref ex))) (upd H1 ex (excO ex cls)):=fun {i dH} h ex hex=>by
   have g:=Grow.laid r1.sub hex (excO ex cls);refine⟨_,e'.set i (.fr (.exc cls)),(r1.grow g).set (v:=.ref ex) ⟨ex,rfl,q0f⟩,?_⟩;have sg:=s1.trans g.gg;cases q2:dH (e'.set i (.fr (.exc cls)))with
   |nx e2=>rw[q2]at h;exact fun G2 σ2 H2 r2 s2=>h G2 _ H2 (r2.blank _) (sg.trans s2)
   |bk e2=>rw[q2]at h;exact fun G2 σ2 H2 r2 s2=>h G2 _ H2 (r2.blank _) (sg.trans s2)
   |ct e2=>rw[q2]at h;exact fun G2 σ2 H2 r2 s2=>h G2 _ H2 (r2.blank _) (sg.trans s2)
   |rt w e2=>rw[q2]at h;exact fun G2 σ2 v H2 r2 s2 p2=>h G2 σ2 v H2 r2 (sg.trans s2) p2
   |ex c2 e2=>rw[q2]at h;exact h.elim
   |no=>rw[q2]at h;exact h.elim
  split at h
  ·rename_i hq;exact .inl ⟨hq,one h⟩
  ·split at h
   ·rename_i hq;exact .inr ⟨hq.1,hq.2,one h⟩
   ·exact h.elim
section
variable{e':List S}{us vs:List W}{v:Value}{w:W}
theorem y3l{di:Den W}:dSetN i js di d e=(di e).stm fun w e1=>nestW i js d e1 (seqW w):=rfl
theorem x4f:nestW i js d e (some ws)=if ws.length<=16777216 then nestK i (frzs js e) (compN d (pjS js (frzs js e)) ws)else .no:=rfl
theorem x4g:nestK i e (some wss)=.nx (e.set i (.nest wss)):=rfl
theorem q9x{pe:List S}{g:W->List W}:∀(ws:List W),(∀w∈ws,∃e',d (.fr w::pe)=.ok (g w) e')->compN d pe ws=some (ws.map g)
 |[],_=>rfl
 |w::ws,h=>by
  obtain⟨e',h1⟩:=h w (by simp);unfold compN;rw[h1,q9x ws fun u hu=>h u (by simp[hu])]
  rfl
theorem y7l{d1:Den W}:dIxN i d1 d2 e=ixN0 ((d1 e).bind fun k1 e1=>ixNA i d2 k1 e1 e1[i]?) e[i]?:=rfl
theorem y7m{k:R W}:ixN0 k (some (.nest wss))=k:=rfl
theorem y7n:ixNA i d2 (.int a) e (some (.nest wss))=if(atI wss a).isSome=true then(d2 e).bind fun k2 e2=>ixNB a k2 e2 e2[i]? else .no:=rfl
theorem y7o{b:Int}:ixNB a (.int b) e (some (.nest wss))=ofOpt ((atI wss a).bind fun ws=>atI ws b) e:=rfl
theorem y3m:dVarN i e=varN i e e[i]?:=rfl
theorem y7p:varN i e (some (.nest wss))=if(e.set i .no).all (fun s=>!isT s)=true then .ok (.lst (wss.map W.lst)) (e.set i (.fr (.lst (wss.map W.lst))))else .no:=rfl
theorem y3n:varN i e (some (.fr w))=dVar i e:=rfl
theorem y3o{dk:Den W}:dMutN i f dk dA e=mutN0 ((dk e).stm fun k1 e1=>mutNA i f dA k1 e1 e1[i]?) e[i]?:=rfl
theorem y3p{k:SR}:mutN0 k (some (.nest wss))=k:=rfl
theorem y3q:mutNA i f dA (.int a) e (some (.nest wss))=if(atI wss a).isSome=true then(dA e).stm fun as e2=>mutNB i f a as e2 e2[i]? else .no:=rfl
theorem q4x{j:Nat}{ws':List W}(h1:ixN wss.length a=some j)(h2:(atI wss a).bind (fun ws=>f ws us)=some ws')(h3:(e.set i .no).all (fun s=>!isT s)=true):mutNB i f a us e (some (.nest wss))=.nx (e.set i (.fr (.lst ((wss.set j ws').map W.lst)))):=by
 show(match ixN wss.length a,(atI wss a).bind fun ws=>f ws us with|some j,some ws'=>_|_,_=>_)=_
 rw[h1,h2];show(if _ then _ else _)=_;rw[if_pos h3]
theorem y3r{dv dk:Den W}:dPutN i dv dk d2 e=(dv e).stm fun w e1=>dMutN i (putF w) dk (one1 d2) e1:=rfl
theorem y7q{d:Den W}:one1 d e=(d e).bind fun w e1=>.ok [w] e1:=rfl
theorem y7r{i:Int}:insF ws [.int i,w]=if 0<=i/\i<9223372036854775808/\ws.length<16777216 then some (insV ws (min i.toNat ws.length) w)else none:=rfl
theorem y7s{i:Int}:popF ws [.int i]=if 0<=i/\i.toNat<ws.length/\i<9223372036854775808 then some (ws.eraseIdx i.toNat)else none:=rfl
theorem y7t(h1:n<=ws.length)(h2:ws.length<16777216):insF ws [.int (n:Int),w]=some (insV ws n w):=by
 rw[y7r,if_pos ⟨by omega,by omega,h2⟩,w1x,Nat.min_eq_left h1]
theorem y7u(h1:n<ws.length)(h2:ws.length<16777216):popF ws [.int (n:Int)]=some (ws.eraseIdx n):=by
 rw[y7s,if_pos ⟨by omega,by omega,by omega⟩,w1x]
theorem y7v(h1:n<ws.length):putF w ws [.int (n:Int)]=some (ws.set n w):=by
 show(ixN ws.length (n:Int)).map _=_;unfold ixN;simp[h1]
theorem y3s{b:List S->SR}:dTry2 K c1 c2 i1 i2 n b h1 h2 e=tryK2 K c1 c2 i1 i2 n h1 h2 (b e):=rfl
theorem y3t:tryK2 K c1 c2 i1 i2 n h1 h2 (.nx e)=.nx e:=rfl
theorem y3u{s:S}:tryK2 K c1 c2 i1 i2 n h1 h2 (.rt s e)=.rt s e:=rfl
theorem q7o(hx:exmOne K v (.ref c1)=some true):tryK2 K c1 c2 i1 i2 n h1 h2 (.ex v e)=tryH n (h1 (e.set i1 (.fr (.exc v)))):=by
 show(if _ then _ else _)=_;rw[if_pos hx]
theorem q7p(hx:exmOne K v (.ref c1)=some false)(hx2:exmOne K v (.ref c2)=some true):tryK2 K c1 c2 i1 i2 n h1 h2 (.ex v e)=tryH n (h2 (e.set i2 (.fr (.exc v)))):=by
 show(if _ then _ else(if _ then _ else _))=_;rw[if_neg (by rw[hx];decide),if_pos ⟨hx,hx2⟩]
end
end D
namespace L2
open PySem PySem.Spec PyProof.Rows
end L2
namespace D
open PySem L2 PySem.Spec PyProof.Rows
open Classical
variable{a:Addr}{fz:Bool}{X:Cx}{d dk:Den W}{G H:Hp}{k:Kx}{σ:L2.St}{EE:L2.St->XK}{ks:List Kx}{e:List S}{ws:List W}{i:Nat}{pos:Pos}{K:PySem.W.Frag}{sh:Sh}{x:Str}{v:V}{w:W}{Z:Zt}
mutual
noncomputable def kxW:W->Option Kx
 |.bl b=>some (.bl b)
 |.int i=>some (.int i)
 |.str x=>some (.str x)
 |.tup ws=>(kxWs ws).map .tup
 |_=>none
noncomputable def kxWs:List W->Option (List Kx)
 |[]=>some []
 |w::ws=>match kxW w,kxWs ws with
  |some k,some ks=>some (k::ks)
  |_,_=>none
end
def NoTup(K:PySem.W.Frag):Prop:=∀a o,K.lookup a=some o->o.cls≠.type "tuple"
theorem SqT.rd{xs:List V}(hK:NoTup K)(q:SqT K G a xs):Rd G a (.tup xs):=by
 rcases q with q|⟨o,its,n,h1,h2,_⟩
 ·exact q
 ·exact absurd h2 (hK a o h1)
mutual
theorem x6n{K:PySem.W.Frag}{G H:Hp}(hK:NoTup K)(s:Same G H):∀(w:W){k:Kx}{v:V},kxW w=some k->Rep K G w v->KRep H k v
 |.bl b,k,v,e,r=>by cases e;exact r
 |.int b,k,v,e,r=>by cases e;exact r
 |.str b,k,v,e,r=>by cases e;exact r
 |.tup ws,k,v,e,r=>by
  have e:(kxWs ws).map Kx.tup=some k:=e;obtain⟨ks,h1,rfl⟩:=w0g.mp e;obtain⟨a,xs,rfl,q,rs⟩:=r;refine⟨a,xs,rfl,?_,x28 hK s ws h1 rs⟩;rcases SqT.rd hK q with z|⟨o,z⟩
  ·exact .inl (s _ _ z)
  ·exact .inr ⟨o,s _ _ z⟩
 |.non,k,v,e,r=>by cases e
 |.lst _,k,v,e,r=>by cases e
 |.exc _,k,v,e,r=>by cases e
 |.dic _,k,v,e,r=>by cases e
 |.dw _ _ _ _,k,v,e,r=>by cases e
 |.fn _ _ _,k,v,e,r=>by cases e
theorem x28{K:PySem.W.Frag}{G H:Hp}(hK:NoTup K)(s:Same G H):∀(ws:List W){ks:List Kx}{vs:List V},kxWs ws=some ks->Reps K G ws vs->KReps H ks vs
 |[],ks,vs,e,r=>by cases e;exact r
 |w::ws,ks,vs,e,r=>by
  have e:(match kxW w,kxWs ws with|some k,some ks=>some (k::ks)|_,_=>none)=some ks:=e;split at e
  ·rename_i k0 ks0 h1 h2;cases e;obtain⟨x,xs,rfl,r1,r2⟩:=r;exact⟨x,xs,rfl,x6n hK s w h1 r1,x28 hK s ws h2 r2⟩
  ·cases e
end
noncomputable def keyT:W->Option Kx
 |.tup ws=>(kxWs ws).map .tup
 |_=>none
theorem q52(hK:NoTup K)(s:Same G H)(e:keyT w=some k)(r:Rep K G w v):∃b,v=.ref b/\KRep H k (.ref b):=by
 cases w with
 |tup ws=>
  have z:=x6n hK s (.tup ws) e r;obtain⟨a,xs,rfl,q,rs⟩:=r;exact⟨a,rfl,z⟩
 |_=>cases e
def fits(k:Kx)(sh:Sh):Prop:=Conf k sh/\k.depth<=7
theorem KeysG.snoc{b:Addr}(hk:KRep G k (.ref b)):∀{ks:List Kx}{bs:List Addr},KeysG G ks bs->KeysG G (ks++[k]) (bs++[b])
 |[],[],_=>⟨hk,trivial⟩
 |_::_,_::_,h=>⟨h.1,KeysG.snoc hk h.2⟩
 |[],_::_,h=>h.elim
 |_::_,[],h=>h.elim
noncomputable def lkW:List Kx->List W->Kx->Option W
 |k::ks,w::ws,x=>if k=x then some w else lkW ks ws x
 |_,_,_=>none
theorem x1m{K:PySem.W.Frag}{G:Hp}{x:Kx}:∀{kvs:List (Kx×V)}{ws:List W},Reps K G ws (kvs.map (·.2)) ->
  (∀w,lkW (kvs.map (·.1)) ws x=some w->∃v,valV kvs x=some v/\Rep K G w v)/\(lkW (kvs.map (·.1)) ws x=none->valV kvs x=none)
 |[],ws,r=>by
  cases ws with
  |nil=>exact⟨(fun w z=>nomatch z),fun _=>rfl⟩
  |cons w ws=>obtain⟨_,_,z,_⟩:=r;cases z
 |p::kvs,[],r=>by cases(show _=[]from r)
 |p::kvs,w::ws,r=>by
  obtain⟨v,rr,z,h1,h2⟩:=r;cases z;have ih:=x1m (x:=x) h2
  by_cases e:p.1=x
  ·refine⟨fun w' z=>?_,fun z=>?_⟩
   ·have z:(if p.1=x then some w else lkW (kvs.map (·.1)) ws x)=some w':=z;rw[if_pos e]at z;cases z;exact⟨p.2,q51 e,h1⟩
   ·have z:(if p.1=x then some w else lkW (kvs.map (·.1)) ws x)=none:=z;rw[if_pos e]at z;cases z
  ·refine⟨fun w' z=>?_,fun z=>?_⟩
   ·have z:(if p.1=x then some w else lkW (kvs.map (·.1)) ws x)=some w':=z;rw[if_neg e]at z;rw[q43 e];exact ih.1 w' z
   ·have z:(if p.1=x then some w else lkW (kvs.map (·.1)) ws x)=none:=z;rw[if_neg e]at z;rw[q43 e];exact ih.2 z
theorem DAt.rd{kvs:List (Kx×V)}{kas:List Addr}(s:Same G H)(h:DAt fz G a sh kvs kas):Rd H a (.dT sh kvs kas):=by
 cases fz with
 |true=>obtain⟨o,h⟩:=h;exact .inr ⟨o,s _ _ h⟩
 |false=>exact .inl (s _ _ h)
noncomputable def inT(w d:W):Option W:=match keyT w,d with
 |some k,.dw _ sh ks ws=>if fits k sh then some (.bl (lkW ks ws k).isSome)else none
 |_,_=>none
noncomputable def ninT(w d:W):Option W:=match keyT w,d with
 |some k,.dw _ sh ks ws=>if fits k sh then some (.bl (!(lkW ks ws k).isSome))else none
 |_,_=>none
noncomputable def ixT(d w:W):Option W:=match keyT w,d with
 |some k,.dw _ sh ks ws=>if fits k sh then lkW ks ws k else none
 |_,_=>none
theorem x6o{b:Addr}(s:Same G H)(p:Rep K G (.dw fz sh ks ws) v)(kr:KRep H k (.ref b))(hc:fits k sh):
  ∃a o,v=.ref a/\DGet H a (.ref b) o/\(∀w,lkW ks ws k=some w->∃u,o=some u/\Rep K G w u)/\(lkW ks ws k=none->o=none):=by
 obtain⟨a,kvs,kas,rfl,h1,rfl,h3,h4⟩:=p;refine⟨a,_,rfl,DGet.t (h1.rd s) ⟨kr,hc⟩,?_⟩;exact x1m h4
theorem y3v(hK:NoTup K):Op2 K (fun y x H Q=>∃a o,x=.ref a/\DGet H a y o/\Q (.bl (!o.isSome)) H) ninT:=by
 intro G H x y wx wy w Q s px py hf h;unfold ninT at hf;split at hf
 ·rename_i k fz sh ks ws hk;split at hf
  ·rename_i hc;cases hf;obtain⟨b,rfl,kr⟩:=q52 hK s hk px;obtain⟨a,o,rfl,g,g1,g2⟩:=x6o s py kr hc;refine⟨a,o,rfl,g,h G _ H (.refl s) ?_⟩;show V.bl (!o.isSome)=V.bl (!(lkW ks ws k).isSome);cases q:lkW ks ws k with
   |none=>rw[g2 q];rfl
   |some w=>obtain⟨u,hu,_⟩:=g1 w q;rw[hu];rfl
  ·cases hf
 ·cases hf
theorem y7w(hK:NoTup K):Op2 K (fun x y H Q=>∃a v,x=.ref a/\DGet H a y (some v)/\Q v H) ixT:=by
 intro G H x y wx wy w Q s px py hf h;unfold ixT at hf;split at hf
 ·rename_i k fz sh ks ws hk;split at hf
  ·rename_i hc;obtain⟨b,rfl,kr⟩:=q52 hK s hk py;obtain⟨a,o,rfl,g,g1,g2⟩:=x6o s px kr hc;obtain⟨u,rfl,ru⟩:=g1 w hf;exact⟨a,u,rfl,g,h G u H (.refl s) ru⟩
  ·cases hf
 ·cases hf
section
variable{a b e k o:Expr}{es:List Expr}{da db:Den W}{dA:Den (List W)}{p tpos:Pos}{body:List Stmt}{s1:List S->SR}
theorem q62(hK:NoTup X.K)(hu:X.A.units+150<cLine)(ha:DE Z X EE a da)(hb:DE Z X EE b db)(hm:behindInMarks .NotIn b=false:=by rfl):DT Z X EE (.Compare a [.NotIn] [b] pos) (dTest (dOp ninT da db)):=
 PT.mono (y4m (x6k (by omega) ha hb) hm) fun σ H Q h=>q4w (y3v hK) σ H _ (q9q h)
theorem x1n(hK:NoTup X.K)(hu:X.A.units+150<cLine)(ha:DE Z X EE a da)(hb:DE Z X EE b db)(hs:NoSl b:=by intro _ _;rfl):DE Z X EE (.Subscript a b pos) (dOp ixT da db):=
 PE.mono (y3d (by omega) ha hb hs) (q4w (y7w hK))
noncomputable def isDw:S->Bool
 |.dw _ _ _=>true
 |_=>false
theorem Rel.dw{e:List S}(r:Rel K Z G σ H e)(h:e[i]?=some (.dw sh ks ws)):∃a kvs kas,σ[i]?=some (some (.ref a))/\H a=some (.dT sh kvs kas)/\G a=none/\Z.H a=none/\kvs.map (·.1)=ks/\KeysG G ks kas/\Reps K G ws (kvs.map (·.2)):=by
 obtain⟨a,kvs,kas,h1,h2,h3,h4,h5,h6,h7⟩:=r.slot i _ h;refine⟨a,kvs,kas,?_,h2,h3,h4,h5,h6,h7⟩;cases q:σ[i]? with
 |none=>rw[q]at h1;cases h1
 |some z=>rw[q]at h1;rw[show z=some (V.ref a)from h1]
theorem Rel.setS{e:List S}(r:Rel K Z G σ H e){s:S}(hs:∀b ws,s≠.own b ws)(q:SlotOk K Z G H s (some v)):Rel K Z G (σ.set i (some v)) H (e.set i s):=by
 refine⟨r.sub,fun j t z=>?_,by simpa using r.len,fun j k b1 b2 w1 w2 c z1 z2 z3 z4=>?_,r.ent,r.ion,r.gen⟩
 ·by_cases hj:j=i
  ·subst hj
   have hi:j<e.length:=by
    have:=(w0a.mp z).1;simpa using this
   rw[w0f hi]at z;cases z;rw[w0f (by rw[<- r.len];exact hi)];exact q
  ·rw[w0e (fun z=>hj z.symm)]at z |-
   exact r.slot j t z
 ·have old:∀(k:Nat)(bb:Option Nat)(ww:List W),(e.set i s)[k]?=some (.own bb ww)->k≠i/\e[k]?=some (.own bb ww):=fun k bb ww z=>by
   by_cases hk:k=i
   ·subst hk
    have hi:k<e.length:=by
     have:=(w0a.mp z).1;simpa using this
    rw[w0f hi]at z;cases z;exact absurd rfl (hs _ _)
   ·rw[w0e (fun z=>hk z.symm)]at z;exact⟨hk,z⟩
  obtain⟨n1,q1⟩:=old _ _ _ z1;obtain⟨n2,q2⟩:=old _ _ _ z2;rw[w0e (fun z=>n1 z.symm)]at z3
  rw[w0e (fun z=>n2 z.symm)]at z4
  exact r.dis _ _ _ _ _ _ _ q1 q2 z3 z4
theorem Rel.mutDw{e:List S}(r:Rel K Z G σ H e){ks':List Kx}{ws':List W}{a:Addr}{kvs':List (Kx×V)}{kas':List Addr}(h:e[i]?=some (.dw sh ks ws))(ha:σ[i]?=some (some (.ref a)))(ho:∀s∈e.set i .no,isDw s=false)
  (h5:kvs'.map (·.1)=ks')(h6:KeysG G ks' kas')(h7:Reps K G ws' (kvs'.map (·.2))):Rel K Z G σ (upd H a (.dT sh kvs' kas')) (e.set i (.dw sh ks' ws')):=by
 obtain⟨a',kvs,kas,h1,h2,h3,h4,_⟩:=r.dw h;rw[ha]at h1;cases h1;have hi:i<e.length:=(w0a.mp h).1;refine⟨fun c o z=>?_,fun j s z=>?_,by simpa using r.len,fun j k b1 b2 w1 w2 c z1 z2 z3 z4=>?_,fun c o z n=>?_,fun c z=>?_,r.gen⟩
 ·rw[q0c (q0k z h3)];exact r.sub c o z
 ·by_cases hj:j=i
  ·subst hj;rw[w0f hi]at z;cases z;exact⟨a,kvs',kas',by rw[ha];rfl,q0f,h3,h4,h5,h6,h7⟩
  ·rw[w0e (fun z=>hj z.symm)]at z
   have y:=r.slot j s z;cases s with
   |no=>trivial
   |fr w=>exact y
   |own b2 w2=>
    obtain⟨c,ys,y1,y2,y3,y4,y5⟩:=y;refine⟨c,ys,y1,?_,y3,y4,y5⟩;rw[q0c (q0q y2 h2 (fun z=>nomatch z))];exact y2
   |dic kv=>
    obtain⟨c,y1,y2,y3,y4⟩:=y;refine⟨c,y1,?_,y3,y4⟩;rw[q0c (q0q y2 h2 (by cases kv;exact fun z=>nomatch z))];exact y2
   |thr us w2 vs=>
    obtain⟨t,l,o,xs2,ys,zs,y1,y2,y3,y4,y5,y6⟩:=y;refine⟨t,l,o,xs2,ys,zs,y1,y2,?_,y4,y5,y6⟩;rw[q0c (q0q y3 h2 (fun z=>nomatch z))];exact y3
   |nest wss=>exact NestOk.move y (.refl _) fun l o ys k1 k2 k3=>⟨by rw[q0c (q0q k1 h2 (fun z=>nomatch z))];exact k1,k2,k3⟩
   |x k=>exact XOk.move y (.refl _) fun l o ys k1 k2 k3=>⟨by rw[q0c (q0q k1 h2 (fun z=>nomatch z))];exact k1,k2,k3⟩
   |dw _ _ _=>
    have:=ho _ (w0i (i:=j) (by rw[w0e (fun z=>hj z.symm)];exact z))
    cases this
 ·have old:∀(k:Nat)(bb:Option Nat)(ww:List W),(e.set i (S.dw sh ks' ws'))[k]?=some (.own bb ww)->e[k]?=some (.own bb ww):=fun k bb ww z=>by
   by_cases hk:k=i
   ·subst hk;rw[w0f hi]at z;cases z
   ·rw[w0e (fun z=>hk z.symm)]at z;exact z
  exact r.dis _ _ _ _ _ _ _ (old _ _ _ z1) (old _ _ _ z2) z3 z4
 ·rw[q0c (q0k z h4)];exact r.ent c o z n
 ·by_cases hc:c=a
  ·subst hc;rw[q0f];exact fun z=>nomatch z
  ·rw[q0c hc];exact r.ion c z
noncomputable def dSetW(i:Nat)(sh:Sh):List S->SR:=fun e=>.nx (e.set i (.dw sh [] []))
theorem y3w(i:Nat)(sh:Sh){pos' dpos:Pos}(hN:X.N.Nodup)(hi:X.N[i]?=some x:=by rfl)(hx:Loc X.env.scope x:=by walk_at "3")(hs:swapsWith (.Dict [] [] dpos) (some (.Name x pos')) pos.line X.env=pure false:=by rfl)(hf:X.fn x=true\/X.env.scope.names.lookup x=some .local:=by walk_at "2"):
  DS Z X EE (.Assign [.Name x pos'] (.Dict [] [] dpos) pos) (dSetW i sh):=by
 refine PS.mono (q74 i hN (x9g (sh:=sh)) hi hx hs hf) ?_;rintro D σ H ⟨G,e,rel,h⟩;intro q hq;have g:=Grow.hid rel.sub hq (.dT sh [] []);exact h G _ _ ((rel.grow g).setS (s:=.dw sh [] []) (fun _ _ z=>nomatch z) ⟨q,[],[],rfl,q0f,rel.sub.free hq,q20 rel hq,rfl,trivial,rfl⟩) (.refl _)
noncomputable def putWC(i:Nat)(w kw:W)(e:List S):Option S->SR
 |some (.dw sh ks ws)=>match keyT kw with
  |some x=>if ks.length<16777216/\(e.set i .no).all (fun s=>!isDw s)=true/\fits x sh/\lkW ks ws x=none then .nx (e.set i (.dw sh (ks++[x]) (ws++[w])))else .no
  |none=>.no
 |_=>.no
noncomputable def putW0(i:Nat)(dk:Den W)(w:W)(e1:List S):Option S->SR
 |some (.dw _ _ _)=>(dk e1).stm fun kw e2=>putWC i w kw e2 e2[i]?
 |_=>.no
noncomputable def dPutW(i:Nat)(d dk:Den W):List S->SR:=fun e=>(d e).stm fun w e1=>putW0 i dk w e1 e1[i]?
theorem q83(i:Nat)(hK:NoTup X.K)(hu:X.A.units+150<cLine)(he:DE Z X EE e d)(hk:DE Z X EE k dk)(hN:X.N[i]?=some x:=by rfl)(hv:Vis X.env.scope x:=by walk_at "1")(hd:(x==("__debug__":Str))=false:=by decide)(hcd:(x==("__classdict__":Str))=false:=by decide)
  (hs:swapsWith e (some (.Subscript (.Name x p) k tpos)) pos.line X.env=pure false:=by rfl):DS Z X EE (.Assign [.Subscript (.Name x p) k tpos] e pos) (dPutW i d dk):=by
 refine PS.mono (y3e (by omega) (pv i hN hv hd hcd) hk he hs) ?_;rintro D σ H ⟨G,e,rel,h⟩;refine⟨G,e,rel,(q02 h).imp (fun w e1 h G1 v1 H1 r1 s1 p1=>?_) fun _ _ h=>h⟩
 unfold putW0 at h;split at h
 ·rename_i sh0 ks0 ws0 he0;obtain⟨a,kvs0,kas0,q1,q2,_⟩:=r1.dw he0;refine⟨.ref a,q1,G1,e1,r1,(q02 (σ:=σ) h).imp (fun kw e2 h G2 v2 H2 r2 s2 p2=>?_) fun _ _ h G' H' r s=>h G' H' r (s1.trans s)⟩
  unfold putWC at h;split at h
  ·rename_i sh ks ws he2;obtain⟨a',kvs,kas,g1,g2,g3,g4,g5,g6,g7⟩:=r2.dw he2;rw[q1]at g1;cases g1;split at h
   ·rename_i t hk1;split at h
    ·rename_i hc;obtain⟨b,rfl,kr⟩:=q52 hK (.refl G2) hk1 p2;have krH:KRep H2 t (.ref b):=KRep.keeps (fun _ _ _ z=>r2.sub _ _ z) t kr
     subst g5;have hnew:valV kvs t=none:=(x1m g7).2 hc.2.2.2;refine⟨a,_,rfl,DPut.t g2 ⟨krH,hc.2.2.1⟩ (by rw[sizeLine_eq];have:=hc.1;rw[w0b]at this;exact this),?_⟩;rw[x9f v1 hnew,show putAd kvs kas t b=kas++[b] by unfold putAd;rw[hnew];rfl];refine h G2 σ _ (r2.mutDw (ks':=kvs.map (·.1)++[t]) (ws':=ws++[w]) he2 q1 (fun s hs=>?_) (by rw[w0l];rfl) (KeysG.snoc kr g6) ?_) (s1.trans s2)
     ·have:=w0t.mp hc.2.1 s hs;simpa using this
     ·rw[w0l];exact g7.append (.one (Rep.mono s2 w p1))
    ·exact h.elim
   ·exact h.elim
  ·exact h.elim
 ·exact h.elim
end
section
variable{kw dflt:W}{x:Kx}
theorem y3x:dSetW i sh e=.nx (e.set i (.dw sh [] [])):=rfl
theorem y3y:dPutW i d dk e=(d e).stm fun w e1=>putW0 i dk w e1 e1[i]?:=rfl
theorem y3z:putW0 i dk w e (some (.dw sh ks ws))=(dk e).stm fun kw e2=>putWC i w kw e2 e2[i]?:=rfl
theorem q84(hk:keyT kw=some x)(h1:ks.length<16777216)(h2:(e.set i .no).all (fun s=>!isDw s)=true)(h3:fits x sh)(h4:lkW ks ws x=none):putWC i w kw e (some (.dw sh ks ws))=.nx (e.set i (.dw sh (ks++[x]) (ws++[w]))):=by
 show(match keyT kw with|some x=>_|none=>_)=_;rw[hk];exact if_pos ⟨h1,h2,h3,h4⟩
theorem x6p(hk:keyT w=some x)(hc:fits x sh):ninT w (.dw fz sh ks ws)=some (.bl (!(lkW ks ws x).isSome)):=by
 unfold ninT;rw[hk];exact if_pos hc
theorem x0s(hk:keyT w=some x)(hc:fits x sh):ixT (.dw fz sh ks ws) w=lkW ks ws x:=by
 unfold ixT;rw[hk];exact if_pos hc
theorem y30:hide1 (.dw sh ks ws)=.fr (.dw false sh ks ws):=rfl
end
noncomputable def tupAt(K:PySem.W.Frag)(a:Addr):Bool:=match K.lookup a with
 |some o=>(match o.cls with
  |.type n=>n=="tuple"
  |_=>false)
 |none=>false
noncomputable def dropT(K:PySem.W.Frag):PySem.W.Frag:=K.filter fun p=>!tupAt K p.1
theorem q4f{q:Addr->Bool}:∀{K:PySem.W.Frag}{o:Obj},(K.filter fun p=>q p.1).lookup a=some o->K.lookup a=some o/\q a=true
 |[],_,h=>by cases h
 |(b,u)::K,o,h=>by
  by_cases hq:q b=true
  ·rw[w2o (p:=fun p:Addr×Obj=>q p.1) (a:=(b,u)) hq]at h
   by_cases e:a=b
   ·subst e;rw[show List.lookup a ((a,u)::(K.filter fun p=>q p.1))=some u by simp[List.lookup]]at h
    refine⟨?_,hq⟩;rw[<- h];simp[List.lookup]
   ·rw[show List.lookup a ((b,u)::(K.filter fun p=>q p.1))=List.lookup a (K.filter fun p=>q p.1) by simp only[List.lookup];rw[beq_eq_false_iff_ne.mpr e]]at h
    obtain⟨h1,h2⟩:=q4f h;refine⟨?_,h2⟩;rw[<- h1];simp only[List.lookup];rw[beq_eq_false_iff_ne.mpr e]
  ·rw[w3h (p:=fun p:Addr×Obj=>q p.1) (a:=(b,u)) hq]at h
   obtain⟨h1,h2⟩:=q4f h;have e:a≠b:=fun z=>hq (by rw[<- z];exact h2)
   refine⟨?_,h2⟩;rw[<- h1];simp only[List.lookup];rw[beq_eq_false_iff_ne.mpr e]
theorem x9l{h:Heap}(X:K.In h):(dropT K).In h:=fun a o e=>X a o (q4f (q:=fun a=>!tupAt K a) e).1
theorem x9m:NoTup (dropT K):=fun a o e z=>by
 obtain⟨h1,h2⟩:=q4f (q:=fun a=>!tupAt K a) e
 unfold tupAt at h2;rw[h1]at h2;simp[z]at h2
theorem q0m{o:Obj}(h:K.lookup a=some o)(t:tupAt K a=false):(dropT K).lookup a=some o:=by
 have gen:∀(l:PySem.W.Frag)(q:Addr->Bool),q a=true->l.lookup a=some o->(l.filter fun p=>q p.1).lookup a=some o:=by
  intro l q hq
  induction l with
  |nil=>intro h;cases h
  |cons p l ih=>
   obtain⟨b,u⟩:=p;intro h
   by_cases e:a=b
   ·subst e;rw[w2o (p:=fun p:Addr×Obj=>q p.1) (a:=(a,u)) hq]
    rw[show List.lookup a ((a,u)::l)=some u by simp[List.lookup]]at h;rw[<- h];simp[List.lookup]
   ·rw[show List.lookup a ((b,u)::l)=List.lookup a l by simp only[List.lookup];rw[beq_eq_false_iff_ne.mpr e]]at h
    by_cases hb:q b=true
    ·rw[w2o (p:=fun p:Addr×Obj=>q p.1) (a:=(b,u)) hb,<- ih h]
     simp only[List.lookup];rw[beq_eq_false_iff_ne.mpr e]
    ·rw[w3h (p:=fun p:Addr×Obj=>q p.1) (a:=(b,u)) hb]
     exact ih h
 exact gen K (fun a=>!tupAt K a) (by rw[t];rfl) h
theorem q0h{r:Option Value}(h:PySem.W.nsIn K a x=some r)(t:tupAt K a=false):PySem.W.nsIn (dropT K) a x=some r:=by
 unfold PySem.W.nsIn at h |-
 cases q:K.lookup a with
 |none=>rw[q]at h;cases h
 |some o=>rw[q0m q t];rw[q]at h;exact h
noncomputable def tupAtV(K:PySem.W.Frag):Value->Bool
 |.ref a=>tupAt K a
 |_=>false
theorem q0o{cd:Value}(h:PySem.W.codeIn K cd x=true)(t:tupAtV K cd=false):PySem.W.codeIn (dropT K) cd x=true:=by
 cases cd with
 |ref a=>
  unfold PySem.W.codeIn at h |-
  dsimp only at h |-
  cases q:K.lookup a with
  |none=>rw[q]at h;cases h
  |some o=>rw[q0m q t];rw[q]at h;exact h
 |_=>cases h
noncomputable def funAt(K:PySem.W.Frag)(a:Addr):Bool:=!tupAt K a&&(match K.lookup a with
 |some ⟨_,_,.func _,_⟩=>true
 |_=>false)
noncomputable def lk{κ:Type} [DecidableEq κ](kvs:List (κ×Sv))(x:κ):Option Sv:=(kvs.find? fun p=>decide (p.1=x)).map (·.2)
theorem hu1{n:Nat}(h:n+150<cLine):n+20<cLine:=Nat.lt_of_le_of_lt (Nat.add_le_add_left (by decide:20<=150) _) h
section
variable{kw:W}{kvs:List (Key×Sv)}
theorem x9n{dd:Dd}:hide1 (.dic dd)=.fr (.dic dd):=rfl
end
end D
namespace L2
open PySem PySem.Spec PyProof.Rows
theorem x6q{P:Program}{w:World}{K:PySem.W.Frag}{mg mb:Str->Option Value}{CX:CXT}{k:Nat}{fa a:Addr}{fd:FuncData}{x:Str}{sp:Sp}{s₁:Shared}{vs:List Value}{ns:List Int}{tabs:List (Addr×Str)}
  (KX:K.In s₁.heap)(hns:s₁.heap.Ns mainGlobals mg)(hb:s₁.heap.Ns builtinsNs mb)(hbb:∀x:Str,x≠"__name__"->mb x=bootBuiltins x)(hlim:s₁.heap.NoLimit)(hg:s₁.gens=#[])
  (ha:s₁.heap.get? a=some {cls:=.type "list", data:=.seq vs.toArray})(hi:IntsAre vs ns)(hl:ns.length<=sizeLine)(hr:Room k callerA)
  (F:∀base:Heap,K.In base->base.Ns mainGlobals mg->BMain base mg->FnOk P w K mg base CX k fa fd [x] sp)(hbind:∀(s:Shared)(u:Value),BindsTo s fd ⟨[u],[]⟩ [(x,u)])
  (hsp:∀H:Hp,SqL K H a (ns.map V.int)->sp [.ref a] H (fun v _=>v=.bl true) fun _ _ _=>False)
  (hCX:∀H e s',CX [] H s₁ (fun _ _ _=>False) e s'->False)
  (hBM:BMain s₁.heap mg)(hM:∀a q P,(a,markO P q)∈K->tabs.lookup P=some q)(hT:∀P q,tabs.lookup P=some q->s₁.heap.get? P=some (tabObj #[])/\isCodeTable s₁.heap P)(hKT:∀P q,tabs.lookup P=some q->K.lookup P=none):
  codeAny (model P w) callerA (.call (.ref fa) ⟨[.ref a],[]⟩) (fun r s'=>r=.ok (.ret (.bool true))/\OldK s₁.heap s'.heap/\s'.os=s₁.os/\AllBare s'.gens) s₁:=by
 have rv:=q6c hi;have lenV:=hi.length
 have aT:tabs.lookup a=none:=by
  cases q:tabs.lookup a with
  |none=>rfl
  |some t=>rw[(hT a t q).1]at ha;cases ha
 have core:∀H0:Hp,(∀b,H0 b=none\/∃o xs,H0 b=some (.frz o (.lst xs)))->SqL K H0 a (ns.map V.int)->HOk P w H0 s₁.heap->(∀b,H0 b≠none->b=a)->(H0 a≠none->K.lookup a=none) ->
   codeAny (model P w) callerA (.call (.ref fa) ⟨[.ref a],[]⟩) (fun r s'=>r=.ok (.ret (.bool true))/\OldK s₁.heap s'.heap/\s'.os=s₁.os/\AllBare s'.gens) s₁:=by
  intro H0 hO hS0 hok0 hA hK;obtain⟨H,hH⟩:∃H:Hp,H=fun b=>match tabs.lookup b with|some q=>some (.tbl #[.bool true,.str q 0])|none=>H0 b:=⟨_,rfl⟩
  have inT:∀b q,tabs.lookup b=some q->H b=some (.tbl #[.bool true,.str q 0]):=fun b q z=>by rw[hH];simp only[z]
  have outT:∀b,tabs.lookup b=none->H b=H0 b:=fun b z=>by rw[hH];simp only[z]
  have up:∀b u,H0 b=some u->H b=some u:=fun b u z=>by
   have:b=a:=hA b (by rw[z];simp);subst this;rw[outT b aT];exact z
  have hS:SqL K H a (ns.map V.int):=by
   rcases hS0 with(z|⟨o,z⟩)|z
   ·exact .inl (.inl (up _ _ z))
   ·exact .inl (.inr ⟨o,up _ _ z⟩)
   ·exact .inr z
  have hok:HOk P w H s₁.heap:=fun b u z=>by
   cases q:tabs.lookup b with
   |some t=>
    rw[inT b t q]at z;cases z;exact .inl ⟨t,#[],rfl,rfl,(hT b t q).1,trivial,fun pos cv z=>by cases z⟩
   |none=>
    rw[outT b q]at z;exact(hok0 b u z).stay (fun c v _ q=>q) (fun c q=>up c _ q) fun c v _ q=>up c v q
  have base_of:∀{b:Addr}{o:Obj},s₁.heap.get? b=some o->H b=none->(hidT s₁.heap H).get? b=some o:=fun e n=>x0u e n
  have free:∀{b:Addr}{o:Obj},s₁.heap.get? b=some o->o≠{cls:=.type "list", data:=.seq vs.toArray}->o≠tabObj #[]->H b=none:=fun {b o} e d1 d2=>by
   cases q:tabs.lookup b with
   |some t=>rw[(hT b t q).1]at e;cases e;exact absurd rfl d2
   |none=>
    rw[outT b q];cases q0:H0 b with
    |none=>rfl
    |some u=>
     have e':b=a:=hA b (by rw[q0];simp);subst e';rw[ha]at e;cases e;exact absurd rfl d1
  have nsK:∀{b:Addr}{m:Str->Option Value},s₁.heap.Ns b m->(hidT s₁.heap H).Ns b m:=fun {b m} ⟨o,es,ep,e,d,r⟩=>⟨o,es,ep,base_of e (free e (fun z=>by rw[z]at d;cases d) fun z=>by rw[z]at d;cases d),d,r⟩
  have hKb:K.In (hidT s₁.heap H):=fun b o e=>base_of (KX b o e) (by
   cases q:tabs.lookup b with
   |some t=>rw[hKT b t q]at e;cases e
   |none=>
    rw[outT b q];cases q0:H0 b with
    |none=>rfl
    |some u=>
     have e':b=a:=hA b (by rw[q0];simp);subst e';rw[hK (by rw[q0];simp)]at e;cases e)
  have hBb:BMain (hidT s₁.heap H) mg:=by
   obtain⟨bm,ob,b1,b2,b3,b4,b5,b6⟩:=hBM;exact⟨bm,ob,b1,b2,base_of b3 (free b3 (fun z=>by rw[z]at b4;simp at b4) fun z=>by rw[z]at b4;cases b4),b4,b5,b6⟩
  have hMd:Mod K mg (hidT s₁.heap H):=⟨hKb,nsK hns,⟨mb,nsK hb,hbb⟩,let ⟨mc,h1,h2⟩:=hlim;⟨mc,nsK h1,h2⟩⟩;have e0:Env0 P w K mg (hidT s₁.heap H) callerA [] s₁ H:=⟨rfl,hMd,fun b o e=>x2s e,Nat.le_of_eq (q9e _ _),trivial,fun b hb=>absurd (show b∈([]:List Addr)from hb) (by simp),hok,.of_eq hg,fun a q P m=>⟨_,inT P q (hM a q P m),rfl,rfl⟩⟩
  refine codeAny_mono ((F _ hKb (nsK hns) hBb).run callerA [] s₁ H ⟨[.ref a],[]⟩ [.ref a] [.ref a] _ _ hr e0 (hbind s₁ (.ref a)) (.cons rfl .nil) (hsp H hS)) fun r s' h=>?_
  cases r with
  |error e=>exact(hCX H e s' h).elim
  |ok fl=>
   cases fl with
   |next=>exact False.elim h
   |brk=>exact False.elim h
   |cont=>exact False.elim h
   |ret u=>
    obtain⟨v,H',os,bare,un,hok',r',q⟩:=h;have q':v=.bl true:=q;subst q';obtain rfl:u=Value.bool true:=r'
    have kp:∀b o,tabs.lookup b=none->s₁.heap.get? b=some o->s'.heap.get? b=some o:=fun b o z e=>by
     cases q:H b with
     |none=>exact un.keep b o e q (by intro z;exact absurd (show b∈([]:List Addr)from z) (by simp)) (by simp)
     |some u=>
      have q0:=q;rw[outT b z]at q0;rcases hO b with z|⟨ob,xs,z⟩
      ·rw[q0]at z;cases z
      ·rw[q0]at z;cases z;have z2:=un.frzs b ob _ q;obtain⟨e1,_⟩:=(show s₁.heap.get? b=some ob/\_ from hok b _ q);obtain⟨e2,_⟩:=(show s'.heap.get? b=some ob/\_ from hok' b _ z2);rw[e]at e1;cases e1;exact e2
    have gr:∀b t,tabs.lookup b=some t->∃qs,s'.heap.get? b=some (tabObj qs):=fun b t z=>by
     obtain⟨more,e⟩:=un.tbls b _ (inT b t z);have o1:ObjOk P w H' s'.heap b (.tbl (#[.bool true,.str t 0]++more)):=hok' b _ e;rcases o1 with⟨_,qs,_,_,g,_⟩|⟨_,_,_,_,_,_,p0,_⟩
     ·exact⟨qs,g⟩
     ·rw[w1j (by simp)]at p0;cases p0
    refine⟨rfl,⟨fun b o e=>?_,fun b o e=>?_⟩,os,bare⟩
    ·cases z:tabs.lookup b with
     |none=>exact .inl (kp b o z e)
     |some t=>
      obtain⟨qs,g⟩:=gr b t z;obtain⟨g1,g2⟩:=hT b t z;rw[e]at g1;cases g1;exact .inr (.inl ⟨g2,rfl,#[],qs,rfl,by rw[Array.empty_append];exact g⟩)
    ·cases z:tabs.lookup b with
     |none=>exact⟨o,kp b o z e⟩
     |some t=>
      obtain⟨qs,g⟩:=gr b t z;exact⟨_,g⟩
 cases hk:K.lookup a with
 |some o=>
  have e:=KX a o hk;rw[ha]at e;cases e;refine core (fun _=>none) (fun _=>.inl rfl) (.inr ⟨_,vs.toArray,_,hk,rfl,rfl,rfl,by rw[w0c,lenV];exact hl,by simpa using rv⟩) (fun b u z=>by have z':(none:Option HO)=some u:=z;cases z') (fun b z=>absurd rfl z) fun z=>absurd rfl z
 |none=>
  refine core (fun b=>if b=a then some (.frz {cls:=.type "list", data:=.seq vs.toArray} (.lst (ns.map V.int)))else none) (fun b=>?_) (.inl (.inr ⟨{cls:=.type "list", data:=.seq vs.toArray},if_pos rfl⟩)) (fun b u z=>?_) (fun b z=>?_) fun _=>hk
  ·by_cases hb:b=a
   ·exact .inr ⟨_,_,if_pos hb⟩
   ·exact .inl (if_neg hb)
  ·by_cases hb:b=a
   ·have z':=(if_pos hb).symm.trans z;cases z';subst hb;exact⟨ha,by rw[w0b];exact hl,vs,_,rv,ha⟩
   ·have z':=(if_neg hb).symm.trans z;cases z'
  ·by_cases hb:b=a
   ·exact hb
   ·exact absurd (if_neg hb) z
theorem x9o{l:PySem.W.OpenLaw}{n k:Nat}{q:Program}{loose:List Str}{XP:(Str->Option Value)->Heap->Prop}{YP:World->Heap->Prop}{d:DefRec}{K:Params->PySem.W.Frag}{CX:World->CXT}{sp:World->Sp}{x:Str}{tabs:List (Addr×Str)}
  (hn:l.most=some n)(hn2:n<=sizeLine)(hdf:d.params.defaults=[])(hr:Room k callerA)
  (hY:∀(w:World)(h:Heap),YP w h->(K w.params).In h)
  (F:∀(w:World)(mg:Str->Option Value)(fa:Addr)(h:Heap),(K w.params).In h->h.Ns mainGlobals mg->mg d.name=some (.ref fa) ->
   ∃fd:FuncData,(∀(s:Shared)(u:Value),BindsTo s fd ⟨[u],[]⟩ [(x,u)]) /\
    ∀base:Heap,(K w.params).In base->base.Ns mainGlobals mg->BMain base mg->FnOk l.prog w (K w.params) mg base (CX w) k fa fd [x] (sp w))
  (hsp:∀(w:World)(H:Hp)(a:Addr)(ns:List Int),ns.length<=n->SqL (K w.params) H a (ns.map V.int)->sp w [.ref a] H (fun v _=>v=.bl true) fun _ _ _=>False)
  (hCX:∀(w:World)(H:Hp)(s:Shared)(e:Value)(s':Shared),CX w [] H s (fun _ _ _=>False) e s'->False)
  (hM:∀(w:World) a q P,(a,markO P q)∈K w.params->tabs.lookup P=some q)(hT:∀(w:World)(h:Heap),YP w h->∀P q,tabs.lookup P=some q->h.get? P=some (tabObj #[])/\isCodeTable h P)(hKT:∀(w:World) P q,tabs.lookup P=some q->(K w.params).lookup P=none):
  PySem.W.WalkO q loose XP YP l.row.toRowW d [] (fun f vs=>PySem.call f vs):=by
 refine Att.attach_call hn hdf fun w s₀ s₁ mg mb fa o pm cd doc a vs ns G Y ho hd hcd hmg hobj hints hlen hg=>?_
 have KX:=hY w _ Y;obtain⟨fd,hb,hF⟩:=F w mg fa _ KX G.T.g hmg;exact x6q KX G.T.g G.T.b G.T.builtins G.T.nolimit hg hobj hints (w0w hlen hn2) hr hF hb (fun H hS=>hsp w H a ns hlen hS) (fun H e s'=>hCX w H s₁ e s') G.T.bmain (hM w) (hT w _ Y) (hKT w)
end L2
namespace D
open PySem L2
variable{X:Cx}{dA:Den (List W)}{e:Expr}{G H:Hp}{EE:L2.St->XK}{es:List Expr}{N ps:List Str}{F:List W->FR}{k:Nat}{r:Nat->List W->FR}{p pos:Pos}{K:PySem.W.Frag}{x:Str}{Z:Zt}
mutual
noncomputable def noFn:W->Bool
 |.tup ws=>noFns ws
 |.lst ws=>noFns ws
 |.dw _ _ _ ws=>noFns ws
 |.fn _ _ _=>false
 |.non=>true
 |.bl _=>true
 |.int _=>true
 |.str _=>true
 |.exc _=>true
 |.dic _=>true
noncomputable def noFns:List W->Bool
 |[]=>true
 |w::ws=>noFn w&&noFns ws
end
section
variable{cs:Cs}
theorem Rd.rm{a:Addr}{u:HO}(c:CelsIn G cs)(h:Rd G a u)(n:∀o,u≠celO o)(n2:∀φ,u≠.ext φ):Rd (rmC G cs) a u:=by
 rcases h with h|⟨o,h⟩
 ·exact .inl (c.rm_some h n)
 ·exact .inr ⟨o,c.rm_some h fun o' z=>by cases z;exact n2 _ rfl⟩
theorem KeysG.rm(c:CelsIn G cs):∀{ks:List Kx}{bs:List Addr},KeysG G ks bs->KeysG (rmC G cs) ks bs
 |[],[],_=>trivial
 |k::ks,b::bs,h=>⟨KRep.keeps (fun _ _ t z=>c.rm_some z (q67 t)) k h.1,KeysG.rm c h.2⟩
 |[],_::_,h=>h.elim
 |_::_,[],h=>h.elim
mutual
theorem Rep.rm(c:CelsIn G cs):∀(w:W){v:V},noFn w=true->Rep K G w v->Rep K (rmC G cs) w v
 |.non,v,_,h=>h
 |.bl b,v,_,h=>h
 |.int i,v,_,h=>h
 |.str x,v,_,h=>h
 |.tup ws,v,n,h=>by
  obtain⟨a,xs,rfl,q,r⟩:=h;refine⟨a,xs,rfl,?_,Reps.rm c ws n r⟩;rcases q with q|q
  ·exact .inl (Rd.rm c q (fun o z=>nomatch z) fun φ z=>nomatch z)
  ·exact .inr q
 |.lst ws,v,n,h=>by
  obtain⟨a,xs,rfl,q,r⟩:=h;refine⟨a,xs,rfl,?_,Reps.rm c ws n r⟩;rcases q with q|q
  ·exact .inl (Rd.rm c q (fun o z=>nomatch z) fun φ z=>nomatch z)
  ·exact .inr q
 |.exc e,v,_,h=>by
  obtain⟨a,rfl,q⟩:=h;exact⟨a,rfl,c.rm_some q fun o z=>by unfold excO at z;cases z⟩
 |.dic kvs,v,_,h=>by
  obtain⟨a,rfl,q⟩:=h;exact⟨a,rfl,c.rm_some q fun o z=>by cases kvs;cases z⟩
 |.dw fz sh ks ws,v,n,h=>by
  obtain⟨a,kvs,kas,rfl,h1,h2,h3,h4⟩:=h;refine⟨a,kvs,kas,rfl,?_,h2,KeysG.rm c h3,Reps.rm c ws n h4⟩;cases fz with
  |true=>obtain⟨o,h1⟩:=h1;exact⟨o,c.rm_some h1 fun o z=>nomatch z⟩
  |false=>exact c.rm_some h1 fun o z=>nomatch z
 |.fn _ _ _,v,n,_=>by cases n
theorem Reps.rm(c:CelsIn G cs):∀(ws:List W){xs:List V},noFns ws=true->Reps K G ws xs->Reps K (rmC G cs) ws xs
 |[],xs,_,h=>h
 |w::ws,xs,n,h=>by
  obtain⟨x,r,rfl,h1,h2⟩:=h
  have n':noFn w=true/\noFns ws=true:=by
   have:(noFn w&&noFns ws)=true:=n
   rwa [w1d]at this
  exact⟨x,r,rfl,Rep.rm c w n'.1 h1,Reps.rm c ws n'.2 h2⟩
end
end
section
variable{G' H':Hp}{cs:Cs}
theorem x1o(h:∀b o,cs.lookup b=some o->H b=none):Same H (addC H cs):=fun b u e=>by
 cases q:cs.lookup b with
 |some o=>rw[h b o q]at e;cases e
 |none=>rw[q0s q];exact e
theorem q9y(h:Same G H):Same (addC G cs) (addC H cs):=fun b u e=>by
 cases q:cs.lookup b with
 |some o=>rw[q2n q]at e |-;exact e
 |none=>rw[q0s q]at e |-;exact h b u e
theorem x1p(h:Same G H):Same (rmC G cs) (rmC H cs):=fun b u e=>by
 obtain⟨e1,e2⟩:=x3w e;rw[q1n e2];exact h b u e1
theorem Grow.lam(ch:CelsIn H cs)(cg:CelsIn G cs)(e1:Same (rmC H cs) H')(e2:Same (rmC G cs) G')(e3:Same G' H')(e4:∀a,rmC H cs a≠none->G' a=rmC G cs a):Grow G H (addC G' cs) (addC H' cs) where
 hh:=fun b u e=>by
  cases q:cs.lookup b with
  |some o=>rw[q2n q];rw[ch b o q]at e;exact e
  |none=>rw[q0s q];exact e1 b u (by rw[q1n q];exact e)
 gg:=fun b u e=>by
  cases q:cs.lookup b with
  |some o=>rw[q2n q];rw[cg b o q]at e;exact e
  |none=>rw[q0s q];exact e2 b u (by rw[q1n q];exact e)
 sub:=q9y e3
 new:=fun a ha=>by
  cases q:cs.lookup a with
  |some o=>rw[q2n q,cg a o q]
  |none=>
   rw[q0s q,e4 a (by rw[q1n q];exact ha),q1n q]
theorem Grow.nocells(g:Grow (addC G cs) (addC H cs) G' H')(hn:∀b o,cs.lookup b=some o->H b=none)(sg:Same G H):Grow G H (rmC G' cs) (rmC H' cs) where
 hh:=fun b u e=>by
  cases q:cs.lookup b with
  |some o=>rw[hn b o q]at e;cases e
  |none=>rw[q1n q];exact g.hh b u (by rw[q0s q];exact e)
 gg:=fun b u e=>by
  cases q:cs.lookup b with
  |some o=>have:=sg b u e;rw[hn b o q]at this;cases this
  |none=>rw[q1n q];exact g.gg b u (by rw[q0s q];exact e)
 sub:=x1p g.sub
 new:=fun a ha=>by
  cases q:cs.lookup a with
  |some o=>exact absurd (hn a o q) ha
  |none=>rw[q1n q,g.new a (by rw[q0s q];exact ha),q0s q]
end
noncomputable def exprFR:R W->FR
 |.ok w _=>.ok (.fr w)
 |.ex c _=>.ex c
 |.no=>.no
def spV(K:PySem.W.Frag)(lams:Nat->Option Lm)(r:Nat->List W->FR):V->List V->Hp->VK->XK->Prop:=fun x vs H Q _=>∃G i l caps ws w,Same G H/\Rep K G (.fn i l caps) x/\Reps K G ws vs/\noFns ws=true/\noFns caps=true/\lams i=some l /\
 r i (ws++caps)=.ok (.fr w)/\∀G' H' v,Grow G H G' H'->Rep K G' w v->Q v H'
structure LamOk(P:Program)(w:World)(K:PySem.W.Frag)(mg:Str->Option Value)(base:Heap)(n:Nat)(l:Lm)(ps:List Str)(F:List W->FR):Prop where
 sc:LamScope ps l.nf l.scope
 bind:∀(cl:List (Str×Addr))(pm:Value)(c':Addr)(ctv:Value)(us:List Value),us.length=ps.length->bindArgs (PySem.W.kla_fn "<lambda>" l.qual l.params l.body l.scope cl pm (.ref c') ctv) ⟨us,[]⟩=pure (ps.zip us)
 len:∀ws,F ws≠.no->ws.length=ps.length+l.nf.length
 body:∀ws,F ws≠.no->∀(Z:Zt)(f:Addr)(cd:Value)(cl:List (Str×Addr))(A:Around)(outer:List Env)(s:Shared)(H:Hp),Room n (A.deeper (lamEnv l.qual l.scope f cd cl s)) ->
  ∃d,DE Z (cxLam P w K mg base (ps++l.nf) l.qual l.scope f cd cl A outer s H) (fun _=>E0) l.body d/\exprFR (d (ws.map .fr))=F ws
theorem y7x{P:Program}{w:World}{mg:Str->Option Value}{base:Heap}{n:Nat}{lams:Nat->Option Lm}(h:∀i l,lams i=some l->∃ps,LamOk P w K mg base n l ps (r i)):
  FnV P w K mg base (CX1 P w) (n+1) (spV K lams r):=by
 rintro x vs H Q E ⟨G,i,l,caps,ws,w',sg,rf,rv,nw,nc,hl,hr,q⟩;obtain⟨ps,L⟩:=h i l hl;obtain⟨f,cl,zs,cs,rfl,⟨pm,c',ctv,ef⟩,FC,rz⟩:=rf;have hn:r i (ws++caps)≠.no:=by rw[hr];exact fun z=>nomatch z
 have hlen:=L.len _ hn;have hz:zs.length=l.nf.length:=FC.len;have hcl:caps.length=l.nf.length:=by rw[<- rz.length];exact hz
 have hwl:ws.length=ps.length:=by rw[w0v,hcl]at hlen;omega
 have hvl:vs.length=ps.length:=by rw[rv.length];exact hwl
 have cg:CelsIn G cs:=fun b o e=>(FC.cel b o e).1
 have ch:CelsIn H cs:=fun b o e=>sg _ _ (cg b o e)
 refine⟨f,_,_,_,_,_,rfl,sg _ _ ef,fun A outer s us hR e0 ru=>?_⟩
 have hul:us.length=ps.length:=by rw[<- ru.length];exact hvl
 have FC2:LamCells cl l.nf l.scope zs s.heap cs:=⟨FC.inj,FC.has,FC.all,fun c o e=>⟨(show s.heap.get? c=some o/\_ from e0.hok c _ (ch c o e)).1,(FC.cel c o e).2⟩,FC.val⟩
 obtain⟨d,hd,he⟩:=L.body _ hn ⟨rmC H cs,rmC G cs,[]⟩ f (.ref c') cl A outer s (rmC H cs) (hR.deeper _);refine lam_run hR e0 (sg _ _ ef) L.sc ch FC2 (L.bind cl pm c' ctv us hul) hvl hz ru hd ?_;have sg':Same (rmC G cs) (rmC H cs):=x1p sg;have rr:Reps K (rmC G cs) (ws++caps) (vs++zs):=(Reps.rm cg ws nw rv).append (Reps.rm cg caps nc rz);have rel:=q36 (N:=ps++l.nf) sg' rr
 have e1:L2.start (ps++l.nf) (vs++zs)=vs.map some++zs.map some:=by
  unfold L2.start;rw[show(ps++l.nf).length-(vs++zs).length=0 by simp[hvl,hz],w3x,w1i,w0l]
 have e2:init (ps++l.nf).length (ws++caps)=(ws++caps).map .fr:=by
  unfold init;rw[show(ps++l.nf).length-(ws++caps).length=0 by simp[hwl,hcl],w3x,w1i]
 rw[e1,e2]at rel;refine⟨rmC G cs,_,rel,?_⟩;cases hde:d ((ws++caps).map .fr)with
 |ok w2 e'=>
  rw[hde,hr]at he;cases he;intro G' v H' r' sG rp hnone
  have hn':∀b o,cs.lookup b=some o->G' b=none:=fun b o z=>by
   cases q2:G' b with
   |none=>rfl
   |some u=>have:=r'.sub b u q2;rw[hnone b o z]at this;cases this
  exact q (addC G' cs) (addC H' cs) v (Grow.lam ch cg (fun b u e=>r'.ent b u e (fun z=>nomatch z)) sG r'.sub r'.gen) (Rep.mono (x1o hn') _ rp)
 |ex c e'=>rw[hde,hr]at he;cases he
 |no=>rw[hde,hr]at he;cases he
section
variable{lams:Nat->Option Lm}
open Classical in
noncomputable def callVK(lams:Nat->Option Lm)(r:Nat->List W->FR)(j:Nat)(l:Lm)(caps:List W)(ws:List W)(e1:List S):R W:=
 if lams j=some l/\noFns ws=true/\noFns caps=true then(match r j (ws++caps)with
  |.ok (.fr w)=>.ok w e1
  |_=>.no)else .no
noncomputable def callV0(lams:Nat->Option Lm)(r:Nat->List W->FR)(dA:Den (List W))(e:List S):Option S->R W
 |some (.fr (.fn j l caps))=>(dA e).bind fun ws e1=>callVK lams r j l caps ws e1
 |_=>.no
noncomputable def dCallV(lams:Nat->Option Lm)(r:Nat->List W->FR)(i:Nat)(dA:Den (List W)):Den W:=fun e=>callV0 lams r dA e e[i]?
theorem x9p(i:Nat)(F:FnV X.prog X.w X.K X.mg X.base (CX1 X.prog X.w) k (spV X.K lams r))(hr:Room k X.A)(hx:PassX (CX1 X.prog X.w) X EE)(ha:DA Z X EE (e::es) dA)(hv:PE X (.Name x p) (tVar i))
  (he:starEach (e::es) X.env=(false,eval e X.env)::starEach es X.env:=by rfl)(hpl:(backTo pos (starEach es X.env)).any (·.1)=false:=by rfl):
  DE Z X EE (.Call (.Name x p) (e::es) [] pos) (dCallV lams r i dA):=by
 refine PE.mono (x75 F hr hv hx ha he hpl) ?_;rintro σ H Q ⟨G,en,rel,h⟩;unfold dCallV callV0 at h;split at h
 ·rename_i j l caps hs;obtain⟨v,hv,rv⟩:=rel.fr hs;refine⟨v,hv,?_,G,en,rel,?_⟩
  ·obtain⟨f,cl,zs,cs,rfl,⟨pm,c',ctv,ef⟩,_⟩:=rv;exact⟨f,_,_,_,_,_,rfl,rel.sub _ _ ef⟩
  ·rw[R.holds_bind]at h;refine h.imp (fun ws e1 h G1 vs H1 r1 s1 p1=>?_) fun _ _ h=>h
   unfold callVK at h;split at h
   ·rename_i hc;split at h
    ·rename_i w hw;exact⟨G1,j,l,caps,ws,w,r1.sub,Rep.mono s1 (.fn j l caps) rv,p1,hc.2.1,hc.2.2,hc.1,hw,fun G' H' v g rp=>h G' v H' (r1.grow g) (s1.trans g.gg) rp⟩
    ·exact h.elim
   ·exact h.elim
 ·exact h.elim
end
noncomputable def capsOf:List Nat->List S->Option (List W)
 |[],_=>some []
 |j::js,e=>match e[j]? with
  |some (.fr w)=>(capsOf js e).map (w::·)
  |_=>none
theorem q9z{σ:L2.St}{e:List S}(r:Rel K Z G σ H e):∀{js:List Nat}{caps:List W},capsOf js e=some caps->∃zs:List V,Reps K G caps zs/\zs.length=js.length/\∀(i j:Nat) z,js[i]?=some j->zs[i]?=some z->σ[j]?=some (some z)
 |[],caps,h=>by
  cases h;exact⟨[],rfl,rfl,fun i j z h _=>by simp at h⟩
 |j::js,caps,h=>by
  unfold capsOf at h;split at h
  ·rename_i w hw;obtain⟨cs,h1,rfl⟩:=w0g.mp h;obtain⟨zs,r1,r2,r3⟩:=q9z r h1;obtain⟨v,v1,v2⟩:=r.fr hw;refine⟨v::zs,⟨v,zs,rfl,v2,r1⟩,by simp[r2],fun i j' z g1 g2=>?_⟩
   cases i with
   |zero=>
    simp only[w3i,Option.some.injEq]at g1 g2;subst g1;subst g2;exact v1
   |succ i=>exact r3 i j' z (by simpa using g1) (by simpa using g2)
  ·cases h
noncomputable def lamRes(e1:List S):FR->R W
 |.ok (.fr w)=>if noFn w=true then .ok w e1 else .no
 |.ex c=>.ex c e1
 |_=>.no
noncomputable def lamCallK(F:List W->FR)(j:Nat)(l:Lm)(w:W)(e1:List S):Option (List W)->R W
 |some caps=>lamRes e1 (F [w,.fn j l caps])
 |none=>.no
noncomputable def dLamCall(F:List W->FR)(j:Nat)(l:Lm)(js:List Nat)(d:Den W):Den W:=fun e=>(d e).bind fun w e1=>lamCallK F j l w e1 (capsOf js e1)
section
variable{body:Expr}{params:Arguments}{d:Den W}{lpos:Pos}{nf:List Str}{js:List Nat}{sc scope:Scope}
theorem x4h(j:Nat)(l:Lm)(C:Cal X.prog X.w X.K X.mg X.base k x ps (spF X.K F))(hr:Room k X.A)(hx:PassX (CX1 X.prog X.w) X EE)(M:Maker X)(hfn:∀y,X.fn y=true)(he:DE Z X EE e d)(ok:compOk sc scope N nf js=true)
  (hl:l=⟨X.env.qual++"<lambda>", params,body,scope,nf⟩:=by rfl)(hdef:defaultsOf params X.env=([],[]):=by rfl)(hsc:X.env.scope=sc:=by rfl)(hN:X.N=N:=by rfl)(hg:Gl X x:=by rfl)
  (hdb:(x==("__debug__":Str))=false:=by decide)(hst:starEach [e,.Lambda params body scope lpos] X.env=(false,eval e X.env)::starEach [.Lambda params body scope lpos] X.env:=by rfl)
  (hst2:starEach [.Lambda params body scope lpos] X.env=(false,eval (.Lambda params body scope lpos) X.env)::starEach [] X.env:=by rfl)(hpl:(backTo pos (starEach [.Lambda params body scope lpos] X.env)).any (·.1)=false:=by rfl):
  DE Z X EE (.Call (.Name x p) [e,.Lambda params body scope lpos] [] pos) (dLamCall F j l js d):=by
 obtain⟨fa,fd,FF,m,kp,bd⟩:=C.ex;unfold compOk at ok;simp only[w1d,w0t,beq_iff_eq,bne_iff_ne,w2x,w2b]at ok;obtain⟨⟨⟨⟨⟨⟨k1,k2⟩,k3⟩,k4⟩,k5⟩,k6⟩,k7⟩:=ok;have kind:∀x,X.env.kindOf x=sc.names.lookup x:=fun x=>by rw[<- hsc];rfl
 refine PE.mono (x3y (Nf:=nf) (js:=js) FF hr hg m kp bd hx M hfn he hdef (fun x hx hf=>?_) (fun i j y e1 e2=>?_) hdb hst hst2 hpl) ?_
 ·rw[kind];rcases k4 x hx with(z|z)|z
  ·exact absurd hf z
  ·exact .inl z
  ·exact .inr z
 ·have hlt:i<js.length:=(w0a.mp e2).1;have z:=k6 i hlt;rw[e1,e2]at z;obtain⟨z1,z2⟩:=k7 y (w0i e1);refine⟨by rw[hN];simpa using z,PySem.mem_of_lookup z1,?_,?_⟩
  ·rw[hsc];rcases z2 with z|z
   ·exact .inr (.inl z)
   ·exact .inr (.inr z)
  ·rw[kind];rcases z2 with z|z<;>(rw[z];decide)
 ·rintro σ H Q ⟨G,en,rel,h⟩;simp only[dLamCall,R.holds_bind]at h;refine⟨G,en,rel,h.imp (fun w e1 h G1 v1 H1 r1 s1 p1 f clos H2 la=>?_) fun _ _ h=>h⟩
  obtain⟨hclos,Hm,pm,ctv,c',hH,hf,rfl⟩:=la
  have rm:Rel X.K Z G1 σ Hm e1:=by
   rcases hH with rfl|⟨c,oc,hc,rfl⟩
   ·exact r1
   ·exact r1.grow (Grow.hid r1.sub hc _)
  have gl:=Grow.laid rm.sub hf (fnO (kla_obj "<lambda>" (X.env.qual++"<lambda>") params body scope clos pm c' ctv) (X.env.qual++"<lambda>") c');have r2:=rm.grow gl;refine⟨clos,hclos,fun cs co=>?_⟩
  cases hcap:capsOf js e1 with
  |none=>rw[hcap]at h;exact h.elim
  |some caps=>
   rw[hcap]at h;obtain⟨zs,rz,zl,zv⟩:=q9z r1 hcap;have hn2:∀b o,cs.lookup b=some o->upd Hm f (fnO (kla_obj "<lambda>" (X.env.qual++"<lambda>") params body scope clos pm c' ctv) (X.env.qual++"<lambda>") c') b=none:=fun b o z=>(co.cel b o z).1
   have gn2:∀b o,cs.lookup b=some o->upd G1 f (fnO (kla_obj "<lambda>" (X.env.qual++"<lambda>") params body scope clos pm c' ctv) (X.env.qual++"<lambda>") c') b=none:=fun b o z=>by
    cases q:upd G1 f (fnO (kla_obj "<lambda>" (X.env.qual++"<lambda>") params body scope clos pm c' ctv) (X.env.qual++"<lambda>") c') b with
    |none=>rfl
    |some u=>have:=r2.sub b u q;rw[hn2 b o z]at this;cases this
   have sA:=gl.gg.trans (x1o gn2)
   have fout:cs.lookup f=none:=by
    cases q:cs.lookup f with
    |none=>rfl
    |some o=>have:=gn2 f o q;rw[q0f]at this;cases this
   have fc:FnCells (addC (upd G1 f (fnO (kla_obj "<lambda>" (X.env.qual++"<lambda>") params body scope clos pm c' ctv) (X.env.qual++"<lambda>") c')) cs) clos l zs cs:=by
    subst hl;refine⟨co.inj,co.has,co.all,fun c o z=>⟨q2n z,(co.cel c o z).2⟩,fun i y z g1 g2=>?_,by rw[zl];exact k5⟩
    have hi:i<js.length:=by rw[<- zl];exact(w0a.mp g2).1
    have g3:js[i]?=some js[i]:=w0d hi;exact co.val i y js[i] z g1 g3 (zv i _ z g3 g2)
   have rfn:Rep X.K (addC (upd G1 f (fnO (kla_obj "<lambda>" (X.env.qual++"<lambda>") params body scope clos pm c' ctv) (X.env.qual++"<lambda>") c')) cs) (.fn j l caps) (.ref f):=by
    refine⟨f,clos,zs,cs,rfl,⟨pm,c',ctv,?_⟩,fc,Reps.mono sA caps rz⟩;rw[q0s fout,q0f,hl]
   refine⟨_,[w,.fn j l caps],q9y r2.sub,⟨v1,[.ref f],rfl,Rep.mono sA w p1,⟨.ref f,[],rfl,rfn,rfl⟩⟩,?_⟩;cases q:F [w,.fn j l caps]with
   |ok s=>
    simp only[lamCallK,q]at h;cases s with
    |fr w'=>
     simp only[lamRes]at h;split at h
     ·rename_i hnf;intro G' H' v g sl;obtain⟨u,h1,h2⟩:=sl;cases h1;have g':=Grow.nocells g hn2 r2.sub;have ci:CelsIn G' cs:=fun b o z=>g.gg b _ (q2n z)
      exact h (rmC G' cs) v (rmC H' cs) (r2.grow g') (s1.trans (gl.gg.trans g'.gg)) (Rep.rm ci w' hnf h2)
     ·exact h.elim
    |_=>exact h.elim
   |ex c=>
    simp only[lamCallK,q,lamRes]at h;intro H' sh;refine y0l r2 (s1.trans gl.gg) h (rmC H' cs) fun b u z=>?_
    cases q2:cs.lookup b with
    |some o=>rw[hn2 b o q2]at z;cases z
    |none=>rw[q1n q2];exact sh b u (by rw[q0s q2];exact z)
   |no=>simp only[lamCallK,q,lamRes]at h;exact h.elim
end
noncomputable def noE:Expr:=.Name "" ⟨0,0,0,0⟩
noncomputable def stAt(i:Nat)(st:Stmt):Stmt:=(defBody st).getD i (.Pass ⟨0,0,0,0⟩)
noncomputable def stVal:Stmt->Expr
 |.Assign _ v _=>v
 |.Return (some v) _=>v
 |.For _ it _ _ _=>it
 |.Expr v _=>v
 |_=>noE
noncomputable def argAt(i:Nat):Expr->Expr
 |.Call _ as _ _=>as.getD i noE
 |_=>noE
noncomputable def lamParams:Expr->Arguments
 |.Lambda p _ _ _=>p
 |_=>default
noncomputable def lamBody:Expr->Expr
 |.Lambda _ b _ _=>b
 |_=>noE
noncomputable def lamScope:Expr->Scope
 |.Lambda _ _ s _=>s
 |_=>default
def MakK(K:PySem.W.Frag)(x:Str)(cdv:Value):Prop:=∃c P a,cdv=.ref c/\codeHdIn K c P=true/\(a,markO P ((x++".<locals>.")++"<lambda>"))∈K
section
variable{P:Program}{w:World}{mg:Str->Option Value}{base:Heap}
theorem y9w{CX:CXT}{scope:Scope}{f:Addr}{cdv:Value}{A:Around}{outer:List Env}{s:Shared}{E:XK}(h:MakK K x cdv)(b:BMain base mg):Maker (cxOf CX P w K mg base N x scope f cdv A outer s H E):=by
 obtain⟨c,P,a,rfl,h1,h2⟩:=h;exact⟨⟨c,P,a,rfl,h1,h2⟩,b⟩
theorem conM{st:Stmt}(A:At K mg x st ps)(hm:∀f oc od fd sl,mg x=some (.ref f)->K.lookup f=some ⟨oc,od,.func fd,sl⟩->MakK K x fd.code)(sc:FnScope N ps (defScope st))(len:∀ws,F ws≠.no->ws.length=ps.length)
  (hb:∀ws,F ws≠.no->∀(f:Addr)(cdv:Value)(A:Around)(outer:List Env)(s:Shared)(H:Hp)(E:XK)(Z:Zt),Room k (A.deeper (PyProof.Rows.envOfC x (defScope st) s.heap.objs.size f cdv))->MakK K x cdv ->
   ∃d,DSs Z (cxOf (CX1 P w) P w K mg base N x (defScope st) f cdv A outer s H E) (fun _=>E) (defBody st) d/\(d (init N.length ws)).fn=F ws):Cal P w K mg base (k+1) x ps (spF K F):=by
 obtain⟨f,fd,F0,m,b⟩:=A.ex;have kp:=F0.kp;obtain⟨oc,od,kV,doc,pm,an,cdv,ct,osl,rfl,lk,hcd⟩:=F0.ex;have hk:MakK K x cdv:=hm f _ _ _ _ m lk;refine⟨f,_,y0j lk hcd sc (fun vs H Q E h=>?_) (fun A outer s H vs Q E hr h=>?_),m,kp,b⟩
 ·obtain⟨G,ws,hn,r⟩:=q5k h;rw[r.length];exact len ws hn
 ·obtain⟨G,ws,sg,rp,h⟩:=h;have hn:F ws≠.no:=fun z=>by rw[z]at h;exact h
  obtain⟨d,hd,he⟩:=hb ws hn f cdv A outer s H E ⟨H,G,[]⟩ hr hk;exact⟨_,hd,G,init N.length ws,q36 sg rp,q5l he h⟩
theorem fnV0{lams:Nat->Option Lm}(h:∀i ws,r i ws=.no:=by intro _ _;rfl):FnV P w K mg base (CX1 P w) 0 (spV K lams r):=by
 rintro x vs H Q E ⟨G,i,l,caps,ws,w',sg,rf,rv,nw,nc,hl,hr,q⟩;rw[h]at hr;cases hr
end
noncomputable def markT(K:PySem.W.Frag)(tabs:List (Addr×Str)):PySem.W.Frag:=K++tabs.map fun p=>(mainGlobals,markO p.1 p.2)
section
variable{tabs:List (Addr×Str)}{a:Addr}{o:Obj}
theorem q07(h:K.lookup a=some o):(markT K tabs).lookup a=some o:=by
 unfold markT;rw[w4a,h];rfl
theorem q85(hG:(K.lookup mainGlobals).isSome=true):(markT K tabs).lookup a=K.lookup a:=by
 unfold markT;rw[w4a];cases q:K.lookup a with
 |some o=>rfl
 |none=>
  have ne:a≠mainGlobals:=fun z=>by rw[<- z,q]at hG;cases hG
  have:∀l:List (Addr×Str),(l.map fun p=>(mainGlobals,markO p.1 p.2)).lookup a=none:=fun l=>by
   induction l with
   |nil=>rfl
   |cons p l ih=>rw[w0r,w0u,beq_eq_false_iff_ne.mpr ne];exact ih
  rw[this];rfl
theorem in_m{h:Heap}(hG:(K.lookup mainGlobals).isSome=true)(X:K.In h):(markT K tabs).In h:=fun b u e=>X b u (by rw[<- q85 (tabs:=tabs) hG];exact e)
theorem no_m(hG:(K.lookup mainGlobals).isSome=true)(n:NoTup K):NoTup (markT K tabs):=fun b u e=>n b u (by rw[<- q85 (tabs:=tabs) hG];exact e)
theorem ns_m{r:Option Value}(h:PySem.W.nsIn K a x=some r):PySem.W.nsIn (markT K tabs) a x=some r:=by
 unfold PySem.W.nsIn at h |-
 cases q:K.lookup a with
 |none=>rw[q]at h;cases h
 |some o=>rw[q07 q];rw[q]at h;exact h
theorem q1i{cd:Value}(h:PySem.W.codeIn K cd x=true):PySem.W.codeIn (markT K tabs) cd x=true:=by
 cases cd with
 |ref a=>
  unfold PySem.W.codeIn at h |-
  dsimp only at h |-
  cases q:K.lookup a with
  |none=>rw[q]at h;cases h
  |some o=>rw[q07 q];rw[q]at h;exact h
 |_=>cases h
theorem q1j(t:funAt K a=true):keepIn (markT (dropT K) tabs) (.ref a)=true:=by
 have h:=t;unfold funAt at t
 rw[w1d]at t;obtain⟨t1,t2⟩:=t;have t1:tupAt K a=false:=by simpa using t1
 unfold keepIn;dsimp only;split at t2
 ·rename_i q;rw[q07 (q0m q t1)]
 ·cases t2
theorem x4i(h:noMark K=true)(hd:tabs.all (fun p=>tabs.lookup p.1==some p.2)=true):∀a q P,(a,markO P q)∈markT K tabs->tabs.lookup P=some q:=fun a q P m=>by
 rcases w1h.mp m with m|m
 ·have:=w0t.mp h _ m;cases this
 ·obtain⟨p,hp,e⟩:=w0q.mp m;have e1:markO p.1 p.2=markO P q:=(Prod.mk.inj e).2;have e2:p.2=q:=by injection e1 with h1;injection h1
  have e3:p.1=P:=by
   injection e1 with _ _ h3
   injection h3 with h4
   have:=congrArg (fun a:Array Value=>a[0]?) h4
   simpa using this
  have:=w0t.mp hd p hp;rw[<- e2,<- e3]
  simpa using this
theorem x2i(h:noMark K=true):noMark (dropT K)=true:=w0t.mpr fun p hp=>w0t.mp h p (w3o.mp hp).1
theorem tabs_none(hG:(K.lookup mainGlobals).isSome=true)(h:tabs.all (fun p=>(K.lookup p.1).isNone)=true):∀P q,tabs.lookup P=some q->(markT K tabs).lookup P=none:=fun P q e=>by
 rw[q85 hG];have:=w0t.mp h _ (mem_look e)
 simpa using this
where
 mem_look:∀{l:List (Addr×Str)}{P:Addr}{q:Str},l.lookup P=some q->(P,q)∈l
 |[],_,_,e=>by cases e
 |(b,t)::l,P,q,e=>by
  rw[w0u]at e
  by_cases hb:(P==b)=true
  ·rw[hb]at e;cases e;rw[eq_of_beq hb];exact .head _
  ·rw[w1l.mpr hb]at e;exact .tail _ (mem_look e)
theorem y31{h:Heap}(X:K.In h)(hT:∀P∈tabs.map (·.1),h.get? P=some (tabObj #[]))(hc:∀p∈tabs,∃c,codeHdIn K c p.1=true):∀P q,tabs.lookup P=some q->h.get? P=some (tabObj #[])/\isCodeTable h P:=fun P q e=>by
 have m:=tabs_none.mem_look e;obtain⟨c,hc⟩:=hc _ m;have g:=hT P (w0q.mpr ⟨_,m,rfl⟩);exact⟨g,((PySem.W.codeHd_of_K X hc).tab g).isCodeTable⟩
end
section
variable{e:List S}{ws caps:List W}{lams:Nat->Option Lm}{d:Den W}{i j:Nat}{l:Lm}{w:W}{js:List Nat}
theorem x9q:dCallV lams r i dA e=callV0 lams r dA e e[i]?:=rfl
theorem x6r:callV0 lams r dA e (some (.fr (.fn j l caps)))=(dA e).bind fun ws e1=>callVK lams r j l caps ws e1:=rfl
theorem x6s(h1:lams j=some l)(h2:noFns ws=true)(h3:noFns caps=true)(h4:r j (ws++caps)=.ok (.fr w)):callVK lams r j l caps ws e=.ok w e:=by
 unfold callVK;rw[if_pos ⟨h1,h2,h3⟩,h4]
theorem x4j:dLamCall F j l js d e=(d e).bind fun w e1=>lamCallK F j l w e1 (capsOf js e1):=rfl
theorem q55:lamCallK F j l w e (some caps)=lamRes e (F [w,.fn j l caps]):=rfl
theorem x6t(h:noFn w=true):lamRes e (.ok (.fr w))=.ok w e:=if_pos h
theorem x9r:capsOf [] e=some []:=rfl
end
end D
namespace L2
open PySem PySem.Spec PyProof.Rows
end L2
namespace D
open PySem L2
end D
namespace L2
open PySem PySem.Spec PyProof.Rows
end L2
namespace D
open PySem L2
end D
namespace L2
open PySem PySem.Spec PyProof.Rows
namespace RevT
section
variable{prog:Program}{w:World}{A:Around}{E:Value->Shared->Prop}{s:Shared}{I:Addr}{fp wr:List Addr}{G:Array GenState->Array GenState->Prop}{n:Nat}{P:Nat->Value->Prop}{St:Nat->Shared->Prop}{R:Result->Shared->Prop}
theorem x4k(W:WalksS prog w A.in1 I fp wr G n P St)(hT:∀i s,St i s->s.TypeIs (.ref I) "list_reverseiterator")(S:Addr){k:Nat}(hst:St 0 s)(hSf:S∉fp)(hI:I∈fp)(hS:s.heap.get? S=some {cls:=.type "list", data:=.seq #[] k})
  (hR:∀s' acc' c',Moved (S::wr) G s s'->s'.heap.get? S=some {cls:=.type "list", dict:=none,data:=.seq acc' c',slots:=#[]}->ItemsOf P acc' n->R (.ok (.ret .none)) s')(hn:n<=sizeLine):
  wpAny (model prog w) A.in1 (Builtin.List.listExtendWith (.ref S) (.ref I) .none)
   (fun fin s'=>match fin with|.done f=>R (.ok f) s'|.again c'=>c'.quiet=true/\codeAny (model prog w) A c' R s') (fun e s'=>R (.error e) s') s:=by
 have hSI:S≠I:=fun e=>hSf (e ▸ hI)
 have h1:Builtin.List.listSameRef (.ref S) (.ref I)=false:=by simp[Builtin.List.listSameRef,hSI]
 unfold Builtin.List.listExtendWith;refine wpAny_bind (wpAny_typeOf (hT 0 _ hst) ?_);rw[if_neg (by rw[h1];decide)];refine wpAny_bind (W.self 0 _ _ _ hst ?_);refine wpAny_bind (wpAny_holding ?_);unfold Builtin.List.listLengthHint;refine wpAny_bind (wpAny_specialOf (hT 0 _ hst) nolen ?_);show wpAny _ A.in1 (specialOf (Value.ref I) (Str.ofString "__length_hint__") >>= _) _ _ _;refine wpAny_bind (wpAny_specialOf (hT 0 _ hst) hint ?_)
 (generalize hid:("list_reverseiterator.__length_hint__":String)=id0;(fail_if_success (clear hid id0));wp_delta;rw[show splitId id0=some ("list_reverseiterator", "__length_hint__")from by subst hid;decide +kernel];subst hid)
 refine wpAny_bind (wpAny_isInstance (b:=true) (hT 0 _ hst) (by rw[isSubtype_type];kernel_rfl) ?_);refine wpAny_pure ?_;rw[if_neg (by decide)];exact wpAny_pure ⟨plainId_quiet F.plain_extend_loop _,codeAny_extend_loopS W hn _ hSf _ n 0 _ _ _ rfl (w1a _) hst hS (ItemsOf.nil P) fun s' acc' c' hm hS' hacc=>hR s' acc' c' hm hS' hacc⟩
theorem x0g(W:WalksS prog w A.in1 I fp wr G n P St)(hT:∀i s,St i s->s.TypeIs (.ref I) "list_reverseiterator")(S:Addr)(hst:St 0 s)(hSf:S∉fp)(hI:I∈fp)
  (hS:s.heap.get? S=some {cls:=.type "list", data:=.seq #[]})
  (hR:∀s' acc' c',Moved (S::wr) G s s'->s'.heap.get? S=some {cls:=.type "list", dict:=none,data:=.seq acc' c',slots:=#[]}->ItemsOf P acc' n->R (.ok (.ret .none)) s')(hn:n<=sizeLine):
  wpAny (model prog w) A.in1 (Builtin.«list.__init__» ⟨[.ref S,.ref I],[]⟩)
   (fun fin s'=>match fin with|.done f=>R (.ok f) s'|.again c'=>c'.quiet=true/\codeAny (model prog w) A c' R s') (fun e s'=>R (.error e) s') s:=by
 show wpAny _ A.in1 (do let old <- Builtin.List.listItems (.ref S);Builtin.List.listUpdate (.ref S) (fun _=>#[]);letGo old.toList.reverse;Builtin.List.listExtendWith (.ref S) (.ref I) .none) _ _ s
 refine wpAny_bind ?_;unfold Builtin.List.listItems;refine wpAny_bind (wpAny_seqItems hS rfl (wpAny_pure ?_));show wpAny _ A.in1 (updateSeq S (fun _=>#[]) >>= fun _=>letGo (#[]:Array Value).toList.reverse >>= fun _=>Builtin.List.listExtendWith (.ref S) (.ref I) .none) _ _ s
 refine wpAny_bind (wpAny_updateSeq hS rfl ?_);have hS₂:=Heap.get?_update_self (Obj.mapSeq (fun _=>(#[]:Array Value))) hS rfl
 have oth:∀b o,b≠S->s.heap.get? b=some o->(s.heap.update S (Obj.mapSeq (fun _=>(#[]:Array Value)))).get? b=some o:=
  fun b o hb e=>(Heap.get?_update_other _ _ (Ne.symm hb)).trans e
 refine wpAny_bind (wpAny_letGo ?_);refine x4k (hn:=hn) W hT S (W.frame 0 s _ s.toks hst (w0h _) fun b hb o e=>oth b o (fun h=>hSf (h ▸ hb)) e) hSf hI hS₂ fun s' acc' c' hm hS' hacc=>?_
 exact hR s' acc' c' (Moved.trans W.gtrans ((Moved.refl W.grefl).then_heap (w0h _) fun b o hb e=>oth b o (fun h=>hb (h ▸ w1b)) e) hm) hS' hacc
end
section
variable{prog:Program}{w:World}{A:Around}{E:Value->Shared->Prop}{s:Shared}{I l:Addr}{items:Array Value}
theorem call_listrev{Q:Value->Shared->Prop}(hh:A.handled=none)(hne:l≠I)(hit:s.heap.IsRevIter I l ((items.size:Int)-1))(hl:s.heap.IsList l items)(hsz:items.size<=sizeLine)
  (h:∀(h':Heap)(tk:Nat)(acc:Array Value)(c:Nat),(∀b o,b≠I->s.heap.get? b=some o->h'.get? b=some o)->h'.get? s.heap.objs.size=some {cls:=.type "list", dict:=none,data:=.seq acc c,slots:=#[]}->ItemsOf (fun i v=>items[items.size-1-i]?=some v) acc items.size->Q (.ref s.heap.objs.size) {s with heap:=h',toks:=tk}):
  wpAny (model prog w) A (call (.type "list") [.ref I]) Q E s:=by
 have hlt:∀b∈[I,l],b<s.heap.objs.size:=fun b hb=>by
  rcases w0p.mp hb with z|z
  ·rw[z];obtain⟨_,e,_⟩:=hit;exact Heap.lt_size e
  ·rw[w0k.mp z];obtain⟨_,e,_⟩:=hl;exact Heap.lt_size e
 have hSf:s.heap.objs.size∉[I,l]:=fun hm=>w1s _ (hlt _ hm)
 have W:=(Walks.listRev (prog:=prog) (w:=w) (A:=A.in1.in1) hh I l hne items).toS
 refine callType_codes (Q₁:=fun obj s₁=>obj=.ref s.heap.objs.size/\s₁={s with heap:=s.heap.push {cls:=.type "list", data:=.seq #[]}}) F.called_list (F.typeCall_list_1 _) F.entry_list_init
  (code_list_new _ ⟨rfl,rfl⟩) fun obj s₁ h₁=>?_
 obtain⟨rfl,rfl⟩:=h₁;have hS:(s.heap.push {cls:=.type "list", data:=.seq #[]}).get? s.heap.objs.size=some {cls:=.type "list", data:=.seq #[]}:=Heap.get?_push_size _ rfl;have st0:_:=W.frame 0 s (s.heap.push {cls:=.type "list", data:=.seq #[]}) s.toks ⟨w1a _,by simpa using hit,hl⟩ (w0h _) fun b _ o e=>Heap.get?_push_of_some _ e
 refine⟨⟨_,hS,rfl⟩,F.args_list_init_2 _ _,x0g (hn:=hsz) W (fun _ _ st=>st.2.1.typeIs) _ st0 hSf w1b hS fun s' acc' c' hm hS' hacc=>⟨rfl,?_⟩⟩
 rw[Moved.eq_with hm]
 exact h s'.heap s'.toks acc' c' (fun b o hb e=>hm.heap b o (fun z=>by
  rcases w0p.mp z with z|z
  ·exact absurd (Heap.lt_size e) (by rw[z];exact w1s _)
  ·exact hb (w0k.mp z)) (Heap.get?_push_of_some _ e)) hS' hacc
end
end RevT
variable{A:Around}{X:Cx}{k:Nat}{prog:Program}{s:Shared}{E:Value->Shared->Prop}{w:World}
def tLstRev(K:PySem.W.Frag)(te:TE):TE:=fun σ H Q=>te σ H fun x H1=>∃p ys,x=.ref p/\SqL K H1 p ys/\∀l,H1 l=none->Q (.ref l) (upd H1 l (.lst ys.reverse))
theorem x6u{e:Expr}{te:TE}{p1 p2 pos1 pos2:Pos}(hc:X.calm=true)(hm1:X.mg "list"=none)(hm2:X.mg "reversed"=none)(he:PE X e te)(hg1:Gl X "list":=by rfl)(hg2:Gl X "reversed":=by rfl)
  (hs1:starEach [.Call (.Name "reversed" p2) [e] [] pos2] X.env=(false,eval (.Call (.Name "reversed" p2) [e] [] pos2) X.env)::starEach [] X.env:=by rfl)(hs2:starEach [e] X.env=(false,eval e X.env)::starEach [] X.env:=by rfl):
  PE X (.Call (.Name "list" p1) [.Call (.Name "reversed" p2) [e] [] pos2] [] pos1) (tLstRev X.K te):=by
 intro pins s σ H Q I h;refine wpAny_Call_Name_kw (q4y I hg1 hm1 PyProof.Rows.Boot.«list» ?_ (by decide));refine PyProof.Rows.callWith_type1 ?_ hs1 rfl;rw[hs1];show wpAny _ _ (spliced ((false,eval (.Call (.Name "reversed" p2) [e] [] pos2) X.env)::backTo pos1 (starEach [] X.env))) _ _ s;refine Calls.spliced_cons ?_;refine wpAny_Call_Name_kw (q4y I hg2 hm2 PyProof.Rows.Boot.«reversed» ?_ (by decide));refine PyProof.Rows.callWith_type1 ?_ hs2 rfl;rw[hs2];show wpAny _ _ (spliced ((false,eval e X.env)::backTo pos2 (starEach [] X.env))) _ _ s;refine Calls.spliced_cons (thn (he pins s σ H _ I h) fun v s1 ⟨x,H1,I1,rx,p,ys,ex,hq,q⟩=>Calls.spliced_nil ?_)
 subst ex;cases rx;obtain⟨its,r',pl,hz⟩:=I1.list hq;have hl:=pl.isList;have hlt:p<s1.heap.objs.size:=by obtain⟨_,e,_⟩:=hl;exact Heap.lt_size e
 refine call_reversed_list hl ?_;refine Calls.spliced_nil ?_;have hh:X.A.handled=none:=I1.ok.hd hc;refine RevT.call_listrev (items:=its.toArray) hh (w0o hlt) ⟨_,Heap.get?_push_size _ rfl,rfl,rfl⟩ (hl.push _) (by simp only[w0c];rw[<- r'.length];exact hz) fun h' tk acc c kp hS hacc=>?_
 have ea:acc=its.reverse.toArray:=by
  obtain⟨n1,n2⟩:=hacc;apply Array.ext';apply w2p;intro i
  by_cases hi:i<its.length
  ·have hi':i<acc.size:=by rw[n1];simpa using hi
   have z:=n2 i acc[i] (by simp[hi']);simp only[w0c,List.getElem?_toArray]at z;rw[List.getElem?_reverse hi,z];simp[hi']
  ·rw[w1g (by simp at n1 |-;omega),w1g (by simp;omega)]
 subst ea;have up:∀b o,s1.heap.get? b=some o->h'.get? b=some o:=fun b o hbo=>kp b o (w0o (Heap.lt_size hbo)) (Heap.get?_push_of_some _ hbo)
 have hle:s1.heap.objs.size<=(s1.heap.push (revObj p ((its.toArray.size:Int)-1))).objs.size:=by simp[Heap.push]
 exact⟨.ref _,_,I1.laid (t':=tk) (o:=.lst ys.reverse) up hle (show ObjOk X.prog X.w _ h' _ (.lst ys.reverse)from⟨by rw[w3v];exact hz,its.reverse,c,r'.reverse,hS⟩),rfl,q _ (I1.hok.fresh hle)⟩
theorem y32{P:Program}{sh:Sh}(hu:A.units+20<cLine):(treeKind P w sh).room A:=by
 show A.units+8<cLine;omega
def tDT1(sh:Sh)(tk tv:TE):TE:=fun σ H Q=>∀p,H p=none->tk σ (upd H p (.dT sh [] [])) fun k H1=>tv σ H1 fun v H2=>∃x b,k=.ref b/\(KRep H2 x (.ref b)/\Conf x sh/\x.depth<=7)/\H2 p=some (.dT sh [] [])/\Q (.ref p) (upd H2 p (.dT sh [(x,v)] [b]))
section
variable{ek ev:Expr}{tk tv:TE}{pos:Pos}{sh:Sh}
theorem x6v(hu:X.A.units+20<cLine)(hk:PE X ek tk)(hv:PE X ev tv):PE X (.Dict [some ek] [ev] pos) (tDT1 sh tk tv):=by
 intro pins s σ H Q I h;refine wpAny_Dict_any rfl rfl (by simp) (by simp) ?_;have fr:H s.heap.objs.size=none:=I.hok.fresh (w0h _);have I0:=I.laid (a:=s.heap.objs.size) (o:=.dT sh [] []) (t':=s.toks) (fun _ _ q=>Heap.get?_push_of_some _ q) (w0h _) (x1l s.heap I.big)
 show wpAny _ _ (evalPairs [(eval ek X.env,do let x <- eval ev X.env;standAt pos;pure x)]) _ _ _;refine evalPairs_cons (thn (hk pins _ σ _ _ I0 (h _ fr)) fun ku s1 ⟨k,H1,I1,rk,q1⟩=>?_)
 refine wpAny_bind (thn (hv pins s1 σ H1 _ I1 q1) fun vu s2 ⟨v,H2,I2,rv,x,b,e,eb,hp,q⟩=>wpAny_bind (wpAny_standAt (wpAny_pure (evalPairs_nil ?_))))
 subst e;obtain rfl:ku=Value.ref b:=rk;obtain⟨z,hd,xs,rel,ka,dd⟩:=y0s I2.hok hp;unfold storeAll;rw[w2d];have hxs:xs=[]:=by cases xs with|nil=>rfl|cons y ys=>exact absurd (Paired.length rel) (by simp)
 subst hxs;refine wpAny_bind (wpAny_bind (wpAny_dictSet_heap (hsz:=w1a _) (y32 hu) (q6o I2.hok eb) dd fun h' dd' hs=>wpAny_pure ?_))
 show wpAny _ _ (forIn ([]:List (Value×Value)) _ _) _ _ _;rw[w3u];obtain⟨q0,es,ep,hq,h2,h3,h4,_,h5⟩:=dd';refine wpAny_pure ⟨.ref s.heap.objs.size,_,q81 I2 (by rw[hp];exact True.intro) hs ⟨q0,hq⟩ (ob:=.dT sh [(x,v)] [b]) ⟨by rw[sizeLine_eq];simp,hd,_,(rel.put x eb rv).keeps fun c u ys ec=>?_,rel.putAd ka x,q0,es,ep,hq,h2,h3,h4,h5⟩,rfl,q⟩
 rw[q0c (q0q ec hp (fun z=>by subst z;exact ys))]
 exact ec
end
open PySem PySem.Spec PyProof.Rows
end L2
namespace D
open PySem L2
variable{X:Cx}{dA:Den (List W)}{EE:L2.St->XK}{e:List S}{a:Nat ⊕ Int}{pos:Pos}{K:PySem.W.Frag}{x:Str}{O:Type}{Z:Zt}
noncomputable def lrev:W->Option (List W)
 |.lst ws=>some ws.reverse
 |_=>none
noncomputable def dLRev(d:Den W):Den (List W):=fun e=>(d e).bind fun w e1=>ofOpt (lrev w) e1
section
variable{e:Expr}{d:Den W}{p1 p2 pos1 pos2:Pos}
theorem x6w(hc:X.calm=true)(hm1:X.mg "list"=none)(hm2:X.mg "reversed"=none)(he:DE Z X EE e d)(hg1:Gl X "list":=by rfl)(hg2:Gl X "reversed":=by rfl)
  (hs1:starEach [.Call (.Name "reversed" p2) [e] [] pos2] X.env=(false,eval (.Call (.Name "reversed" p2) [e] [] pos2) X.env)::starEach [] X.env:=by rfl)(hs2:starEach [e] X.env=(false,eval e X.env)::starEach [] X.env:=by rfl):
  DF Z X EE (.Call (.Name "list" p1) [.Call (.Name "reversed" p2) [e] [] pos2] [] pos1) (dLRev d):=by
 refine PE.mono (x6u hc hm1 hm2 he hg1 hg2 hs1 hs2) ?_;rintro σ H Q ⟨G,e,rel,h⟩;simp only[dLRev,R.holds_bind,ofOpt_holds]at h;refine⟨G,e,rel,h.imp (fun w e1 h G1 v1 H1 r1 s1 p1=>?_) fun _ _ h=>h⟩
 obtain⟨out,hf,h⟩:=h;cases w with
 |lst ws=>
  cases hf;obtain⟨a,xs,rfl,q,r⟩:=p1;exact⟨a,xs,rfl,r1.sub.seq q,q5x r1 s1 r.reverse h⟩
 |_=>cases hf
end
section
variable{G H:Hp}{σ:L2.St}
theorem Rel.seenW(r:Rel K Z G σ H e){a:Addr}{sh:Sh}{kvs:List (Kx×V)}{kas:List Addr}(h:H a=some (.dT sh kvs kas))(hg:G a=none)(hz:Z.H a=none)(hf:∀s∈e,isDw s=false):Same G (upd G a (.dT sh kvs kas))/\Rel K Z (upd G a (.dT sh kvs kas)) σ H e:=by
 have sg:Same G (upd G a (.dT sh kvs kas)):=q2i hg _;refine⟨sg,⟨fun c o z=>?_,fun j s z=>?_,r.len,r.dis,r.ent,r.ion,fun c z=>?_⟩⟩
 ·by_cases hc:c=a
  ·subst hc;rw[q0f]at z;cases z;exact h
  ·rw[q0c hc]at z;exact r.sub c o z
 ·have y:=r.slot j s z;cases s with
  |no=>trivial
  |fr w=>
   obtain⟨u,y1,y2⟩:=y;exact⟨u,y1,Rep.mono sg w y2⟩
  |own b2 w2=>
   obtain⟨c,ys,y1,y2,y3,y4,y5⟩:=y;refine⟨c,ys,y1,y2,?_,y4,Reps.mono sg w2 y5⟩;rw[q0c (q0q y2 h (fun z=>nomatch z))];exact y3
  |dic kvs=>
   obtain⟨c,y1,y2,y3,y4⟩:=y;refine⟨c,y1,y2,?_,y4⟩;rw[q0c (q0q y2 h (by cases kvs;exact fun z=>nomatch z))];exact y3
  |thr us w2 vs=>
   obtain⟨t,l,o,xs2,ys,zs,y1,y2,y3,y4,y5,y6,y7,y8⟩:=y;refine⟨t,l,o,xs2,ys,zs,y1,sg _ _ y2,y3,?_,y5,Reps.mono sg us y6,Reps.mono sg w2 y7,Reps.mono sg vs y8⟩;rw[q0c (q0q y3 h (fun z=>nomatch z))];exact y4
  |nest wss=>exact NestOk.move y sg fun l o ys k1 k2 k3=>⟨k1,by rw[q0c (q0q k1 h (fun z=>nomatch z))];exact k2,k3⟩
  |x k=>exact XOk.move y sg fun l o ys k1 k2 k3=>⟨k1,by rw[q0c (q0q k1 h (fun z=>nomatch z))];exact k2,k3⟩
  |dw sh ks ws=>exact nomatch (hf _ (w0i z))
 ·by_cases hc:c=a
  ·subst hc;exact absurd hz z
  ·rw[q0c hc];exact r.gen c z
theorem PostS.mono{D:Ends}{G':Hp}(sg:Same G G'):∀{r:SR},PostS K Z EE D G r->PostS K Z EE D G' r
 |.nx _,h=>fun G1 σ1 H1 r s=>h G1 σ1 H1 r (sg.trans s)
 |.bk _,h=>fun G1 σ1 H1 r s=>h G1 σ1 H1 r (sg.trans s)
 |.ct _,h=>fun G1 σ1 H1 r s=>h G1 σ1 H1 r (sg.trans s)
 |.rt _ _,h=>fun G1 σ1 v H1 r s=>h G1 σ1 v H1 r (sg.trans s)
 |.ex _ _,h=>fun G1 σ1 H1 r s=>h G1 σ1 H1 r (sg.trans s)
 |.no,h=>h
end
noncomputable def stayC(i:Nat)(d:List S->SR)(e:List S):Option S->SR
 |some (.dw sh ks ws)=>if(e.set i .no).all (fun s=>!isDw s)=true then d (e.set i (.fr (.dw false sh ks ws)))else .no
 |_=>.no
noncomputable def dStay(i:Nat)(d:List S->SR):List S->SR:=fun e=>stayC i d e e[i]?
section
variable{st:Stmt}{d:List S->SR}
theorem y33(i:Nat)(h:DS Z X EE st d):DS Z X EE st (dStay i d):=by
 refine PS.mono h ?_;rintro D σ H ⟨G,e,rel,q⟩;unfold dStay stayC at q;split at q
 ·rename_i sh ks ws hw;split at q
  ·rename_i hc;obtain⟨a,kvs,kas,h1,h2,h3,h4,h5,h6,h7⟩:=rel.dw hw;have hi:i<e.length:=(w0a.mp hw).1
   have r0:Rel X.K Z G σ H (e.set i .no):=rel.forget (by simp) fun j s z=>by
    by_cases hj:j=i
    ·subst hj;rw[w0f hi]at z;cases z;exact .inl rfl
    ·rw[w0e (fun z=>hj z.symm)]at z;exact .inr z
   obtain⟨sg,r1⟩:=r0.seenW h2 h3 h4 fun s hs=>by
    have:=w0t.mp hc s hs
    simpa using this
   have r2:=r1.set (i:=i) (w:=.dw false sh ks ws) (v:=.ref a) ⟨a,kvs,kas,rfl,q0f,h5,h6.mono sg,Reps.mono sg ws h7⟩;rw[List.set_set]at r2
   have es:σ.set i (some (V.ref a))=σ:=by
    apply w2p;intro j
    by_cases hj:j=i
    ·subst hj;rw[h1,w0f (w0a.mp h1).1]
    ·rw[w0e (fun z=>hj z.symm)]
   rw[es]at r2;exact⟨_,_,r2,PostS.mono sg q⟩
  ·exact q.elim
 ·exact q.elim
end
noncomputable def smK:Option S->Option Int
 |some (.fr (.int n))=>some n
 |_=>none
noncomputable def smW:Nat ⊕ Int->List S->Option Int
 |.inl j,e=>smK e[j]?
 |.inr n,_=>some n
noncomputable def smT:Nat ⊕ Int->TE
 |.inl j=>tVar j
 |.inr n=>tC (.int n)
noncomputable def scV:W->Option V
 |.non=>some .non
 |.bl b=>some (.bl b)
 |.int n=>some (.int n)
 |_=>none
noncomputable def setD2K(i:Nat)(w:W)(e:List S):Option Int->Option Int->SR
 |some m,some n=>.nx (e.set i (.dw (.tup [.int,.int]) [.tup [.int m,.int n]] [w]))
 |_,_=>.no
noncomputable def dSetD2(i:Nat)(a b:Nat ⊕ Int)(w:W):List S->SR:=fun e=>setD2K i w e (smW a e) (smW b e)
section
variable{p:Pos}
theorem x6x{G H H':Hp}{σ:L2.St}{Q:VK}(r:Rel K Z G σ H e){n:Int}(h:smW a e=some n)(q:Q (.int n) H'):smT a σ H' Q:=by
 cases a with
 |inl j=>
  simp only[smW,smK]at h;split at h
  ·rename_i m hm;cases h;obtain⟨v,v1,v2⟩:=r.fr hm;cases(show v=V.int n from v2);exact⟨_,v1,q⟩
  ·cases h
 |inr m=>
  cases h;exact q
theorem x9s(i:Nat){ka kb ve:Expr}{tp:Pos}{x1}{b:Nat ⊕ Int}{w:W}{v:V}{pos' dpos:Pos}(hu:X.A.units+20<cLine)(hN:X.N.Nodup)(hk:PE X (.Tuple [ka,kb] x1 tp) (tTup (tCons (smT a) (tCons (smT b) tNil))))(hv:PE X ve (tC v))(hw:scV w=some v)(hi:X.N[i]?=some x:=by rfl)(hx:Loc X.env.scope x:=by walk_at "3")
  (hs:swapsWith (.Dict [some (.Tuple [ka,kb] x1 tp)] [ve] dpos) (some (.Name x pos')) pos.line X.env=pure false:=by rfl)(hf:X.fn x=true\/X.env.scope.names.lookup x=some .local:=by walk_at "2"):
  DS Z X EE (.Assign [.Name x pos'] (.Dict [some (.Tuple [ka,kb] x1 tp)] [ve] dpos) pos) (dSetD2 i a b w):=by
 refine PS.mono (q74 i hN (x6v (sh:=.tup [.int,.int]) hu hk hv) hi hx hs hf) ?_;rintro D σ H ⟨G,e,rel,h⟩;unfold dSetD2 at h;cases ha:smW a e with
 |none=>rw[ha]at h;exact h.elim
 |some m=>
  cases hb:smW b e with
  |none=>rw[ha,hb]at h;exact h.elim
  |some n=>
   rw[ha,hb]at h;intro q hq;refine x6x rel ha (x6x rel hb ⟨by rw[sizeLine_eq];simp,fun t ht=>?_⟩)
   have hne:t≠q:=fun z=>by subst z;rw[q0f]at ht;cases ht
   have ht0:H t=none:=by rw[q0c hne]at ht;exact ht
   refine⟨.tup [.int m,.int n],t,rfl,⟨⟨t,_,rfl,.inl q0f,?_⟩,?_,?_⟩,by rw[q0c (Ne.symm hne)];exact q0f,?_⟩
   ·exact⟨_,_,rfl,rfl,_,_,rfl,rfl,rfl⟩
   ·exact⟨trivial,trivial,trivial⟩
   ·simp[Kx.depth,Kx.depths]
   ·have eH:upd (upd (upd H q (.dT (.tup [.int,.int]) [] [])) t (.tup [.int m,.int n])) q (.dT (.tup [.int,.int]) [(.tup [.int m,.int n],v)] [t])=upd (upd H t (.tup [.int m,.int n])) q (.dT (.tup [.int,.int]) [(.tup [.int m,.int n],v)] [t]):=by
     funext c
     by_cases h1:c=q
     ·subst h1;rw[q0f,q0f]
     ·rw[q0c h1,q0c h1]
      by_cases h2:c=t
      ·subst h2;rw[q0f,q0f]
      ·rw[q0c h2,q0c h2,q0c h1]
    rw[eH];have g1:=Grow.laid rel.sub ht0 (.tup [.int m,.int n]);have r1:=rel.grow g1;have hq1:upd H t (.tup [.int m,.int n]) q=none:=by rw[q0c (Ne.symm hne)];exact hq
    have g2:=Grow.hid r1.sub hq1 (.dT (.tup [.int,.int]) [(.tup [.int m,.int n],v)] [t]);have r2:=r1.grow g2;refine h _ _ _ (r2.setS (s:=.dw (.tup [.int,.int]) [.tup [.int m,.int n]] [w]) (fun _ _ z=>nomatch z) ⟨q,[(.tup [.int m,.int n],v)],[t],rfl,q0f,r1.sub.free hq1,?_,rfl,⟨⟨t,_,rfl,.inl q0f,?_⟩,trivial⟩,⟨v,[],rfl,?_,rfl⟩⟩) g1.gg
    ·exact q20 rel hq
    ·exact⟨_,_,rfl,rfl,_,_,rfl,rfl,rfl⟩
    ·cases w<;>cases hw<;>rfl
end
section
variable{i j:Nat}{d d1 d2:Den W}{ws:List W}{w u v:W}{m n k:Int}{f f1 f2:List S->SR}{sh:Sh}{ks:List Kx}{b:Nat ⊕ Int}{c:List S->Bool}
theorem y34:dLRev d e=(d e).bind fun w e1=>ofOpt (lrev w) e1:=rfl
theorem y7y:lrev (.lst ws)=some ws.reverse:=rfl
theorem y35:dStay i f e=stayC i f e e[i]?:=rfl
theorem y7z:stayC i f e (some (.dw sh ks ws))=if(e.set i .no).all (fun s=>!isDw s)=true then f (e.set i (.fr (.dw false sh ks ws)))else .no:=rfl
theorem x9t:dSetD2 i a b w e=setD2K i w e (smW a e) (smW b e):=rfl
theorem y9x:smW (.inr n) e=some n:=rfl
theorem y9y:smW (.inl j) e=smK e[j]?:=rfl
theorem y9z:smK (some (.fr (.int n)))=some n:=rfl
theorem x9u:setD2K i w e (some m) (some n)=.nx (e.set i (.dw (.tup [.int,.int]) [.tup [.int m,.int n]] [w])):=rfl
end
end D
namespace L2
open PySem PySem.Spec PyProof.Rows
end L2
namespace D
open PySem L2
open Classical in
noncomputable instance fitsD (k:Kx) (sh:Sh):Decidable (fits k sh):=Classical.propDecidable _
variable{e:List S}{i:Nat}{w:W}
noncomputable def setDVC(i:Nat)(sh:Sh)(w:W)(e:List S):Option Kx->SR
 |some t=>if fits t sh then .nx (e.set i (.dw sh [t] [w]))else .no
 |none=>.no
noncomputable def setDVK(i:Nat)(sh:Sh)(w:W)(e:List S):Option S->SR
 |some (.fr kw)=>setDVC i sh w e (keyT kw)
 |_=>.no
noncomputable def dSetDV(i j:Nat)(sh:Sh)(w:W):List S->SR:=fun e=>setDVK i sh w e e[j]?
section
variable{X:Cx}{Z:Zt}{EE:L2.St->XK}{x y:Str}{pos p:Pos}
theorem x9v(i j:Nat)(sh:Sh){ve:Expr}{v:V}{pos' dpos p2:Pos}(hK:NoTup X.K)(hu:X.A.units+20<cLine)(hN:X.N.Nodup)(hv:PE X ve (tC v))(hw:scV w=some v)
  (hj:X.N[j]?=some y:=by rfl)(hvis:Vis X.env.scope y:=by walk_at "1")(hd:(y==("__debug__":Str))=false:=by decide)(hcd:(y==("__classdict__":Str))=false:=by decide)
  (hi:X.N[i]?=some x:=by rfl)(hx:Loc X.env.scope x:=by walk_at "3")
  (hs:swapsWith (.Dict [some (.Name y p2)] [ve] dpos) (some (.Name x pos')) pos.line X.env=pure false:=by rfl)(hf:X.fn x=true\/X.env.scope.names.lookup x=some .local:=by walk_at "2"):
  DS Z X EE (.Assign [.Name x pos'] (.Dict [some (.Name y p2)] [ve] dpos) pos) (dSetDV i j sh w):=by
 refine PS.mono (q74 i hN (x6v (sh:=sh) hu (pv j hj hvis hd hcd) hv) hi hx hs hf) ?_;rintro D σ H ⟨G,e,rel,h⟩;unfold dSetDV setDVK at h;split at h
 ·rename_i kw hkw;unfold setDVC at h;split at h
  ·rename_i t ht;split at h
   ·rename_i hc;obtain⟨u,hu1,hu2⟩:=rel.fr hkw;obtain⟨b,rfl,kr⟩:=q52 hK (.refl G) ht hu2;have krH:KRep H t (.ref b):=KRep.keeps (fun _ _ _ z=>rel.sub _ _ z) t kr
    intro q hq;have g2:=Grow.hid rel.sub hq (.dT sh [(t,v)] [b]);have r2:=rel.grow g2;have hs1:Same H (upd H q (.dT sh [] [])):=q2i hq _;refine⟨.ref b,hu1,t,b,rfl,⟨KRep.keeps (fun _ _ _ z=>hs1 _ _ z) t krH,hc⟩,q0f,?_⟩
    have eH:upd (upd H q (.dT sh [] [])) q (.dT sh [(t,v)] [b])=upd H q (.dT sh [(t,v)] [b]):=by
     funext c
     by_cases h1:c=q
     ·subst h1;rw[q0f,q0f]
     ·rw[q0c h1,q0c h1,q0c h1]
    rw[eH];refine h _ _ _ (r2.setS (s:=.dw sh [t] [w]) (fun _ _ z=>nomatch z) ⟨q,[(t,v)],[b],rfl,q0f,rel.sub.free hq,q20 rel hq,rfl,⟨kr,trivial⟩,⟨v,[],rfl,?_,rfl⟩⟩) (.refl _)
    cases w<;>cases hw<;>rfl
   ·exact h.elim
  ·exact h.elim
 ·exact h.elim
theorem x9w{j:Nat}{sh:Sh}:dSetDV i j sh w e=setDVK i sh w e e[j]?:=rfl
theorem x9x{sh:Sh}{kw:W}:setDVK i sh w e (some (.fr kw))=setDVC i sh w e (keyT kw):=rfl
theorem x9y{m n:Int}:setDVC i (.tup [.int,.int]) w e (some (.tup [.int m,.int n]))=.nx (e.set i (.dw (.tup [.int,.int]) [.tup [.int m,.int n]] [w])):=by
 exact if_pos ⟨⟨trivial,trivial,trivial⟩,by simp[Kx.depth,Kx.depths]⟩
end
end D
namespace Q
open PySem L2 D
variable{q:(Nat×Nat)×List Nat}{u w:List Nat}{b:List S->SR}{ws:List W}{i j k n p r s:Nat}{x:Nat×Nat}{K:PySem.W.Frag}{mg:Str->Option Value}{α:Type}{v:Value}
seal DE DF DT DW DA DS DSs DTs DO DFm PE PT PW PA PS PSs PG PGs PI PF PTs PC OpR UnR IxR CallR TruR MtR MtM SlR PO
theorem us1{P:List α->Prop}(h:∀x0,P [x0]):∀us:List α,us.length=1->P us
 |[x0],_=>h x0
theorem us2{P:List α->Prop}(h:∀x0 x1,P [x0,x1]):∀us:List α,us.length=2->P us
 |[x0,x1],_=>h x0 x1
theorem us3{P:List α->Prop}(h:∀x0 x1 x2,P [x0,x1,x2]):∀us:List α,us.length=3->P us
 |[x0,x1,x2],_=>h x0 x1 x2
noncomputable def top(i:Nat):Stmt:=PySem.Challenge.pw_circuits_k62_woven_refused.main.body.getD i (.Pass ⟨0,0,0,0⟩)
structure Blt(mg:Str->Option Value):Prop where
 b_ValueError:mg "ValueError"=none
 b_all:mg "all"=none
 b_int:mg "int"=none
 b_isinstance:mg "isinstance"=none
 b_len:mg "len"=none
 b_list:mg "list"=none
 b_min:mg "min"=none
 b_range:mg "range"=none
 b_repr:mg "repr"=none
 b_reversed:mg "reversed"=none
 b_tuple:mg "tuple"=none
 b_zip:mg "zip"=none
structure Adr where
 CircuitError:Addr
 NoPlace:Addr
 NoName:Addr
 BadText:Addr
 NoRow:Addr
 NoTable:Addr
 UnlikeSizes:Addr
 TooGreat:Addr
 NoMachine:Addr
 BadSheet:Addr
variable{a:Adr}
structure Exs(K:PySem.W.Frag)(mg:Str->Option Value)(a:Adr):Prop where
 z:True
 m_CircuitError:mg "CircuitError"=some (.ref a.CircuitError)
 m_NoPlace:mg "NoPlace"=some (.ref a.NoPlace)
 m_NoName:mg "NoName"=some (.ref a.NoName)
 m_BadText:mg "BadText"=some (.ref a.BadText)
 m_NoRow:mg "NoRow"=some (.ref a.NoRow)
 m_NoTable:mg "NoTable"=some (.ref a.NoTable)
 m_UnlikeSizes:mg "UnlikeSizes"=some (.ref a.UnlikeSizes)
 m_TooGreat:mg "TooGreat"=some (.ref a.TooGreat)
 m_NoMachine:mg "NoMachine"=some (.ref a.NoMachine)
 m_BadSheet:mg "BadSheet"=some (.ref a.BadSheet)
 e_NoMachine:excIn K a.NoMachine a.CircuitError=true
 e_UnlikeSizes:excIn K a.UnlikeSizes a.CircuitError=true
 c_NoMachine:excClsIn K a.NoMachine=true
 x_NoMachine_NoMachine:exmOne K (.ref a.NoMachine) (.ref a.NoMachine)=some true
 x_NoMachine_UnlikeSizes:exmOne K (.ref a.NoMachine) (.ref a.UnlikeSizes)=some false
 k_NoMachine_NoName:kitOne K (.ref a.NoMachine) (.ref a.NoName)=some false
 k_NoMachine_BadText:kitOne K (.ref a.NoMachine) (.ref a.BadText)=some false
 k_NoMachine_NoRow:kitOne K (.ref a.NoMachine) (.ref a.NoRow)=some false
 k_NoMachine_NoTable:kitOne K (.ref a.NoMachine) (.ref a.NoTable)=some false
 k_NoMachine_TooGreat:kitOne K (.ref a.NoMachine) (.ref a.TooGreat)=some false
 k_NoMachine_BadSheet:kitOne K (.ref a.NoMachine) (.ref a.BadSheet)=some false
 k_NoMachine_NoPlace:kitOne K (.ref a.NoMachine) (.ref a.NoPlace)=some false
 k_NoMachine_UnlikeSizes:kitOne K (.ref a.NoMachine) (.ref a.UnlikeSizes)=some false
 k_NoMachine_NoMachine:kitOne K (.ref a.NoMachine) (.ref a.NoMachine)=some true
 k_NoMachine_CircuitError:kitOne K (.ref a.NoMachine) (.ref a.CircuitError)=some true
 k_NoMachine_ValueError:kitOne K (.ref a.NoMachine) (.type "ValueError")=some true
 c_UnlikeSizes:excClsIn K a.UnlikeSizes=true
 x_UnlikeSizes_NoMachine:exmOne K (.ref a.UnlikeSizes) (.ref a.NoMachine)=some false
 x_UnlikeSizes_UnlikeSizes:exmOne K (.ref a.UnlikeSizes) (.ref a.UnlikeSizes)=some true
 k_UnlikeSizes_NoName:kitOne K (.ref a.UnlikeSizes) (.ref a.NoName)=some false
 k_UnlikeSizes_BadText:kitOne K (.ref a.UnlikeSizes) (.ref a.BadText)=some false
 k_UnlikeSizes_NoRow:kitOne K (.ref a.UnlikeSizes) (.ref a.NoRow)=some false
 k_UnlikeSizes_NoTable:kitOne K (.ref a.UnlikeSizes) (.ref a.NoTable)=some false
 k_UnlikeSizes_TooGreat:kitOne K (.ref a.UnlikeSizes) (.ref a.TooGreat)=some false
 k_UnlikeSizes_BadSheet:kitOne K (.ref a.UnlikeSizes) (.ref a.BadSheet)=some false
 k_UnlikeSizes_NoPlace:kitOne K (.ref a.UnlikeSizes) (.ref a.NoPlace)=some false
 k_UnlikeSizes_UnlikeSizes:kitOne K (.ref a.UnlikeSizes) (.ref a.UnlikeSizes)=some true
 k_UnlikeSizes_NoMachine:kitOne K (.ref a.UnlikeSizes) (.ref a.NoMachine)=some false
 k_UnlikeSizes_CircuitError:kitOne K (.ref a.UnlikeSizes) (.ref a.CircuitError)=some true
 k_UnlikeSizes_ValueError:kitOne K (.ref a.UnlikeSizes) (.type "ValueError")=some true
 nt:NoTup K
noncomputable abbrev q3f:Nat:=0
noncomputable abbrev q1t:Nat:=1
noncomputable abbrev q17:Nat:=2
noncomputable abbrev q4m:Nat:=3
noncomputable abbrev q28:Nat:=4
noncomputable abbrev q0y:Nat:=5
noncomputable abbrev q22:Nat:=6
noncomputable abbrev q0z:Nat:=7
noncomputable abbrev q1l:Nat:=8
noncomputable abbrev q4n:Nat:=9
noncomputable abbrev q2u:Nat:=10
noncomputable abbrev q29:Nat:=11
noncomputable abbrev q1g:Nat:=12
noncomputable abbrev q2o:Nat:=13
noncomputable abbrev q3u:Nat:=14
noncomputable abbrev q2p:Nat:=15
noncomputable abbrev q09:Nat:=16
noncomputable abbrev q18:Nat:=17
noncomputable abbrev q1u:Nat:=18
noncomputable abbrev q1x:Nat:=19
noncomputable abbrev q0t:Nat:=20
noncomputable abbrev q63:Nat:=21
noncomputable abbrev q2j:Stmt:=top 12
theorem sc_rows_many:FnScope ["many", "count", "place"] ["many"] (defScope q2j):=⟨rfl,rfl,rfl,by decide +kernel,rfl,by decide +kernel,by decide +kernel⟩
noncomputable abbrev q1v:Stmt:=top 14
theorem sc_check_machine:FnScope ["machine", "states", "pairs_many", "state", "told", "follower"] ["machine"] (defScope q1v):=⟨rfl,rfl,rfl,by decide +kernel,rfl,by decide +kernel,by decide +kernel⟩
noncomputable abbrev q2v:Stmt:=top 15
theorem x2j:FnScope ["machine", "number"] ["machine", "number"] (defScope q2v):=⟨rfl,rfl,rfl,by decide +kernel,rfl,by decide +kernel,by decide +kernel⟩
noncomputable abbrev q23:Stmt:=top 16
theorem sc_come_to:FnScope ["begin", "pairs_of", "things", "numbers", "states", "thing", "state", "told", "follower"] ["begin", "pairs_of"] (defScope q23):=⟨rfl,rfl,rfl,by decide +kernel,rfl,by decide +kernel,by decide +kernel⟩
noncomputable abbrev q3a:Stmt:=top 18
theorem sc_woven:FnScope ["machine", "other", "found"] ["machine", "other"] (defScope q3a):=⟨rfl,rfl,rfl,by decide +kernel,rfl,by decide +kernel,by decide +kernel⟩
noncomputable abbrev q2b:Stmt:=top 19
theorem x0h:FnScope ["machine", "other"] ["machine", "other"] (defScope q2b):=⟨rfl,rfl,rfl,by decide +kernel,rfl,by decide +kernel,by decide +kernel⟩
noncomputable abbrev q15:Stmt:=top 20
theorem x0i:FnScope ["state", "other"] ["state", "other"] (defScope q15):=⟨rfl,rfl,rfl,by decide +kernel,rfl,by decide +kernel,by decide +kernel⟩
noncomputable abbrev q1w:Stmt:=top 22
theorem sc_told_machines:FnScope ["machine", "other", "came", "pairs", "place", "here", "number", "told", "wanted", "follower"] ["machine", "other"] (defScope q1w):=⟨rfl,rfl,rfl,by decide +kernel,rfl,by decide +kernel,by decide +kernel⟩
noncomputable abbrev q2c:Stmt:=top 23
theorem x0j:FnScope ["machine", "other"] ["machine", "other"] (defScope q2c):=⟨rfl,rfl,rfl,by decide +kernel,rfl,by decide +kernel,by decide +kernel⟩
noncomputable abbrev q24:Stmt:=top 24
theorem sc_rows_to:FnScope ["came", "pair", "numbers", "step"] ["came", "pair"] (defScope q24):=⟨rfl,rfl,rfl,by decide +kernel,rfl,by decide +kernel,by decide +kernel⟩
noncomputable abbrev q25:Stmt:=top 25
theorem sc_closed:FnScope ["machine", "other", "pairs", "known", "pair"] ["machine", "other", "pairs"] (defScope q25):=⟨rfl,rfl,rfl,by decide +kernel,rfl,by decide +kernel,by decide +kernel⟩
noncomputable abbrev q1z:Stmt:=top 26
theorem sc_stays_within:FnScope ["state", "other", "known", "pair", "wanted"] ["state", "other", "known"] (defScope q1z):=⟨rfl,rfl,rfl,by decide +kernel,rfl,by decide +kernel,by decide +kernel⟩
noncomputable abbrev q10:Stmt:=top 28
theorem q8d:FnScope ["_law_script", "_law_k"] ["_law_script", "_law_k"] (defScope q10):=⟨rfl,rfl,rfl,by decide +kernel,rfl,by decide +kernel,by decide +kernel⟩
noncomputable abbrev q2d:Stmt:=top 29
theorem sc__law_mixed:FnScope ["_law_cell", "_law_k", "_law_number"] ["_law_cell", "_law_k"] (defScope q2d):=⟨rfl,rfl,rfl,by decide +kernel,rfl,by decide +kernel,by decide +kernel⟩
noncomputable abbrev q2w:Stmt:=top 30
theorem sc__law_row:FnScope ["_law_number", "_law_many", "_law_row_here", "_law_step"] ["_law_number", "_law_many"] (defScope q2w):=⟨rfl,rfl,rfl,by decide +kernel,rfl,by decide +kernel,by decide +kernel⟩
noncomputable abbrev q11:Stmt:=top 31
theorem q8e:FnScope ["_law_many"] ["_law_many"] (defScope q11):=⟨rfl,rfl,rfl,by decide +kernel,rfl,by decide +kernel,by decide +kernel⟩
noncomputable abbrev q12:Stmt:=top 32
theorem sc__law_machine:FnScope ["_law_script", "_law_at", "_law_cell", "_law_kinds", "_law_many", "_law_wide", "_law_size", "_law_base", "_law_states", "_law_k", "_law_state", "_law_number", "_law_left", "_law_told", "_law_goal", "_law_twin"] ["_law_script", "_law_at"] (defScope q12):=⟨rfl,rfl,rfl,by decide +kernel,rfl,by decide +kernel,by decide +kernel⟩
noncomputable abbrev q19:Stmt:=top 33
theorem x1q:FnScope ["_law_machine_here"] ["_law_machine_here"] (defScope q19):=⟨rfl,rfl,rfl,by decide +kernel,rfl,by decide +kernel,by decide +kernel⟩
noncomputable abbrev q2e:Stmt:=top 34
theorem sc__law_alone:FnScope ["_law_e", "_law_due", "_law_other", "_law_some"] ["_law_e", "_law_due"] (defScope q2e):=⟨rfl,rfl,rfl,by decide +kernel,rfl,by decide +kernel,by decide +kernel⟩
noncomputable abbrev q1y:Stmt:=top 35
theorem sc__law_spoilt:FnScope ["_law_machine_here", "_law_cell", "_law_kind", "_law_states", "_law_at", "_law_number", "_law_pair"] ["_law_machine_here", "_law_cell"] (defScope q1y):=⟨rfl,rfl,rfl,by decide +kernel,rfl,by decide +kernel,by decide +kernel⟩
noncomputable abbrev q2k:Stmt:=top 36
theorem sc__law_word:FnScope ["_law_machine_here", "_law_other", "_law_way", "_law_e"] ["_law_machine_here", "_law_other", "_law_way"] (defScope q2k):=⟨rfl,rfl,rfl,by decide +kernel,rfl,by decide +kernel,by decide +kernel⟩
noncomputable abbrev q3b:Stmt:=top 37
theorem sc_law:FnScope ["_law_script", "_law_machine_here", "_law_other", "_law_cell", "_law_due", "_law_handed", "_law_found"] ["_law_script"] (defScope q3b):=⟨rfl,rfl,rfl,by decide +kernel,rfl,by decide +kernel,by decide +kernel⟩
noncomputable abbrev q6p:Expr:=(argAt 1 (stVal (stAt 1 q3a)))
noncomputable abbrev q1d:Lm:=⟨("woven"++".<locals>.")++"<lambda>", lamParams q6p,lamBody q6p,lamScope q6p,["machine", "other"]⟩
noncomputable abbrev q0w:Nat:=22
noncomputable def lams:Nat->Option Lm
 |22=>some q1d
 |_=>none
theorem x1r:lams 22=some q1d:=rfl
noncomputable def q3k(K:PySem.W.Frag)(a:Adr)(r:Nat->List W->FR):Den W:=
 (dCall (r q22) (dCons (dOp ixW (dOp ixW (dVar 1) (dC (.int 2))) (dOp ixW (dVar 0) (dC (.int 0)))) (dCons (dOp ixW (dOp ixW (dVar 2) (dC (.int 2))) (dOp ixW (dVar 0) (dC (.int 1)))) dNil)))
noncomputable def q4o(K:PySem.W.Frag)(a:Adr)(r:Nat->List W->FR):List S->SR:=
 (dSet 1 (dOp mulW (dC (.int 2)) (dVar 1)))
noncomputable def q4g(K:PySem.W.Frag)(a:Adr)(r:Nat->List W->FR):List S->SR:=
 (dSeq (dSet 1 (dC (.int 1)))
  (dSeq (dForR 2 rng1 (dCons (dVar 0) dNil)
  (q4o K a r))
  (dRet (dVar 1))))
noncomputable def q1a(K:PySem.W.Frag)(a:Adr)(r:Nat->List W->FR):List S->SR:=
 (dSeq (dIfS (dTest (dOp ne2 (dFn len1 (dCons (dVar 4) dNil)) (dOp ixW (dVar 0) (dC (.int 1)))))
  (dRaise a.NoMachine (dCons (dC (.str "a state answers too many truths, or too few")) dNil))
  dNx)
  (dIfS (dNot (dTru (dCall (r q17) (dCons (dVar 0) (dCons (dVar 5) dNil)))))
  (dRaise a.NoMachine (dCons (dC (.str "a state leads to none of the states")) dNil))
  dNx))
noncomputable def q1k(K:PySem.W.Frag)(a:Adr)(r:Nat->List W->FR):List S->SR:=
 (dSeq (dIfS (dTest (dOp ne2 (dFn len1 (dCons (dVar 3) dNil)) (dVar 2)))
  (dRaise a.NoMachine (dCons (dC (.str "a state hasn't a pair for each row")) dNil))
  dNx)
  (dForP 4 5 (srcP (dVar 3))
  (q1a K a r)))
noncomputable def q2g(K:PySem.W.Frag)(a:Adr)(r:Nat->List W->FR):List S->SR:=
 (dSeq (dSet 1 (dOp ixW (dVar 0) (dC (.int 2))))
  (dSeq (dSet 2 (dCall (r q3f) (dCons (dOp ixW (dVar 0) (dC (.int 0))) dNil)))
  (dSeq (dIfS (dTest (dOp eq2 (dFn len1 (dCons (dVar 1) dNil)) (dC (.int 0))))
  (dRaise a.NoMachine (dCons (dC (.str "a machine has a state at least")) dNil))
  dNx)
  (dFor 3 (dVar 1)
  (q1k K a r)))))
noncomputable def q3v(K:PySem.W.Frag)(a:Adr)(r:Nat->List W->FR):List S->SR:=
 (dRet (dAndV (dOp leW (dC (.int 0)) (dVar 1)) (dOp ltW (dVar 1) (dFn len1 (dCons (dOp ixW (dVar 0) (dC (.int 2))) dNil)))))
noncomputable def q21(K:PySem.W.Frag)(a:Adr)(r:Nat->List W->FR):List S->SR:=
 (dSeq (dIfS (dBorrowT (dTest (dOp ninT (dVar 8) (dVar 3))))
  (dSeq (dPutW 3 (dFnV 2 len1) (dVar 8))
  (dApp 2 (dCons (dVar 8) dNil)))
  dNx)
  (dApp 6 (dCons (dTup (dCons (dVar 7) (dCons (dBorrow (dOp ixT (dVar 3) (dVar 8))) dNil))) dNil)))
noncomputable def q3g(K:PySem.W.Frag)(a:Adr)(r:Nat->List W->FR):Den Bool:=
 (dTest (dOp ltW (dFnV 4 len1) (dFnV 2 len1)))
noncomputable def q3h(K:PySem.W.Frag)(a:Adr)(r:Nat->List W->FR):List S->SR:=
 (dSeq (dSet 5 (dIxV 2 (dFnV 4 len1)))
  (dSeq (dSetO 6 (dLst dNil))
  (dSeq (dForP 7 8 (srcP (dCallV lams r 1 (dCons (dVar 5) dNil)))
  (q21 K a r))
  (dApp 4 (dCons (dVar 6) dNil)))))
noncomputable def q49(K:PySem.W.Frag)(a:Adr)(r:Nat->List W->FR):List S->SR:=
 (dSeq (dSetO 2 (dLst (dCons (dVar 0) dNil)))
  (dSeq (dSetDV 3 0 (.tup [.int,.int]) (.int 0))
  (dSeq (dSetO 4 (dLst dNil))
  (dSeq (whileD (q3g K a r)
  (q3h K a r) 1000000)
  (dRet (dTup (dCons (dVar 4) (dCons (dVar 2) dNil))))))))
noncomputable def q5p(K:PySem.W.Frag)(a:Adr)(r:Nat->List W->FR):List S->SR:=
 (dSeq (dDrop (dCall (r q0y) (dCons (dVar 0) (dCons (dVar 1) dNil))))
  (dSeq (dSet 2 (dLamCall (r q4m) 22 q1d [0,1] (dTup (dCons (dC (.int 0)) (dCons (dC (.int 0)) dNil)))))
  (dRet (dTup (dCons (dTup (dCons (dOp ixW (dVar 0) (dC (.int 0))) (dCons (dOp addX (dOp ixW (dVar 0) (dC (.int 1))) (dOp ixW (dVar 1) (dC (.int 1)))) (dCons (dOp ixW (dVar 2) (dC (.int 0))) dNil)))) (dCons (dOp ixW (dVar 2) (dC (.int 1))) dNil))))))
noncomputable def q16(K:PySem.W.Frag)(a:Adr)(r:Nat->List W->FR):List S->SR:=
 (dSeq (dDrop (dCall (r q1t) (dCons (dVar 0) dNil)))
  (dSeq (dDrop (dCall (r q1t) (dCons (dVar 1) dNil)))
  (dIfS (dTest (dOp ne2 (dOp ixW (dVar 0) (dC (.int 0))) (dOp ixW (dVar 1) (dC (.int 0)))))
  (dRaise a.UnlikeSizes (dCons (dC (.str "one machine takes more truths than the other")) dNil))
  dNx)))
noncomputable def q5q(K:PySem.W.Frag)(a:Adr)(r:Nat->List W->FR):Den W:=
 (dTup (dCons (dOp addX (dOp ixW (dVar 0) (dC (.int 0))) (dOp ixW (dVar 1) (dC (.int 0)))) (dCons (dTup (dCons (dOp ixW (dVar 0) (dC (.int 1))) (dCons (dOp ixW (dVar 1) (dC (.int 1))) dNil))) dNil)))
noncomputable def q3w(K:PySem.W.Frag)(a:Adr)(r:Nat->List W->FR):List S->SR:=
 (dRetF (dCompP [] (srcZ (dCons (dVar 0) (dCons (dVar 1) dNil))) dYes (q5q K a r)))
noncomputable def q00(K:PySem.W.Frag)(a:Adr)(r:Nat->List W->FR):List S->SR:=
 (dSeq (dIfS (dTest (dOp ne2 (dOp ixW (dVar 7) (dC (.int 0))) (dOp ixW (dVar 8) (dC (.int 0)))))
  (dStay 2 (dRet (dTup (dCons (dC (.str "unlike")) (dCons (dOp addX (dCall (r q4n) (dCons (dVar 2) (dCons (dVar 5) dNil))) (dFz (dLst (dCons (dVar 6) dNil)))) dNil)))))
  dNx)
  (dSeq (dSet 9 (dTup (dCons (dOp ixW (dVar 7) (dC (.int 1))) (dCons (dOp ixW (dVar 8) (dC (.int 1))) dNil))))
  (dSeq (dIfS (dBorrowT (dTest (dOp ninT (dVar 9) (dVar 2))))
  (dSeq (dPutW 2 (dTup (dCons (dVar 5) (dCons (dVar 6) dNil))) (dVar 9))
  (dApp 3 (dCons (dVar 9) dNil)))
  dNx)
  (dSet 6 (dOp addX (dVar 6) (dC (.int 1)))))))
noncomputable def q01(K:PySem.W.Frag)(a:Adr)(r:Nat->List W->FR):Den Bool:=
 (dTest (dOp ltW (dVar 4) (dFnV 3 len1)))
noncomputable def q0p(K:PySem.W.Frag)(a:Adr)(r:Nat->List W->FR):List S->SR:=
 (dSeq (dSet 5 (dIxV 3 (dVar 4)))
  (dSeq (dSet 6 (dC (.int 0)))
  (dSeq (dForP 7 8 (srcZ (dCons (dOp ixW (dOp ixW (dVar 0) (dC (.int 2))) (dOp ixW (dVar 5) (dC (.int 0)))) (dCons (dOp ixW (dOp ixW (dVar 1) (dC (.int 2))) (dOp ixW (dVar 5) (dC (.int 1)))) dNil)))
  (q00 K a r))
  (dSet 4 (dOp addX (dVar 4) (dC (.int 1)))))))
noncomputable def q2h(K:PySem.W.Frag)(a:Adr)(r:Nat->List W->FR):List S->SR:=
 (dSeq (dDrop (dCall (r q1l) (dCons (dVar 0) (dCons (dVar 1) dNil))))
  (dSeq (dSetD2 2 (.inr 0) (.inr 0) .non)
  (dSeq (dSetO 3 (dLst (dCons (dTup (dCons (dC (.int 0)) (dCons (dC (.int 0)) dNil))) dNil)))
  (dSeq (dSet 4 (dC (.int 0)))
  (dSeq (whileD (q01 K a r)
  (q0p K a r) 1000000)
  (dRet (dTup (dCons (dC (.str "alike")) (dCons (dVar 3) dNil)))))))))
noncomputable def q2q(K:PySem.W.Frag)(a:Adr)(r:Nat->List W->FR):List S->SR:=
 (dSeq (dDrop (dCall (r q0y) (dCons (dVar 0) (dCons (dVar 1) dNil))))
  (dIfS (dTest (dOp ne2 (dOp ixW (dVar 0) (dC (.int 1))) (dOp ixW (dVar 1) (dC (.int 1)))))
  (dRaise a.UnlikeSizes (dCons (dC (.str "one machine answers more truths than the other")) dNil))
  dNx))
noncomputable def q3i(K:PySem.W.Frag)(a:Adr)(r:Nat->List W->FR):Den Bool:=
 (dTest (dOp nisW (dVar 3) (dC .non)))
noncomputable def q4h(K:PySem.W.Frag)(a:Adr)(r:Nat->List W->FR):List S->SR:=
 (dSeq (dApp 2 (dCons (dOp ixW (dVar 3) (dC (.int 1))) dNil))
  (dSet 3 (dOp ixT (dVar 0) (dOp ixW (dVar 3) (dC (.int 0))))))
noncomputable def q5a(K:PySem.W.Frag)(a:Adr)(r:Nat->List W->FR):List S->SR:=
 (dSeq (dSetO 2 (dLst dNil))
  (dSeq (dSet 3 (dOp ixT (dVar 0) (dVar 1)))
  (dSeq (whileD (q3i K a r)
  (q4h K a r) 1000000)
  (dRetF (dLRev (dVar 2))))))
noncomputable def x4l(K:PySem.W.Frag)(a:Adr)(r:Nat->List W->FR):Den W:=
 (dCall (r q29) (dCons (dOp ixW (dOp ixW (dVar 2) (dC (.int 2))) (dVar 0)) (dCons (dOp ixW (dOp ixW (dVar 3) (dC (.int 2))) (dVar 1)) (dCons (dVar 4) dNil))))
noncomputable def q3x(K:PySem.W.Frag)(a:Adr)(r:Nat->List W->FR):List S->SR:=
 (dSeq (dIfS (dOr (dNot (dTru (dCall (r q17) (dCons (dVar 0) (dCons (dOp ixW (dVar 4) (dC (.int 0))) dNil))))) (dNot (dTru (dCall (r q17) (dCons (dVar 1) (dCons (dOp ixW (dVar 4) (dC (.int 1))) dNil))))))
  (dRet (dC (.bl false)))
  dNx)
  (dPutW 3 (dC (.bl true)) (dVar 4)))
noncomputable def q44(K:PySem.W.Frag)(a:Adr)(r:Nat->List W->FR):List S->SR:=
 (dSeq (dDrop (dCall (r q1l) (dCons (dVar 0) (dCons (dVar 1) dNil))))
  (dSeq (dSetW 3 (.tup [.int,.int]))
  (dSeq (dFor 4 (dVar 2)
  (q3x K a r))
  (dSeq (dIfS (dBorrowT (dTest (dOp ninT (dTup (dCons (dC (.int 0)) (dCons (dC (.int 0)) dNil))) (dVar 3))))
  (dRet (dC (.bl false)))
  dNx)
  (dRet (dFn all1 (dCons (dFz (dCompP [0,1,3] (srcP (dVar 3)) dYes (x4l K a r))) dNil)))))))
noncomputable def q7q(K:PySem.W.Frag)(a:Adr)(r:Nat->List W->FR):List S->SR:=
 (dIfS (dOr (dTest (dOp ne2 (dOp ixW (dVar 3) (dC (.int 0))) (dOp ixW (dVar 4) (dC (.int 0))))) (dTest (dOp ninT (dTup (dCons (dOp ixW (dVar 3) (dC (.int 1))) (dCons (dOp ixW (dVar 4) (dC (.int 1))) dNil))) (dVar 2))))
  (dRet (dC (.bl false)))
  dNx)
noncomputable def q4a(K:PySem.W.Frag)(a:Adr)(r:Nat->List W->FR):List S->SR:=
 (dSeq (dForP 3 4 (srcZ (dCons (dVar 0) (dCons (dVar 1) dNil)))
  (q7q K a r))
  (dRet (dC (.bl true))))
noncomputable def q3c(K:PySem.W.Frag)(a:Adr)(r:Nat->List W->FR):List S->SR:=
 (dSeq (dIfS (dTest (dOp ltW (dVar 1) (dFn len1 (dCons (dVar 0) dNil))))
  (dRet (dOp ixW (dVar 0) (dVar 1)))
  dNx)
  (dRet (dC (.int 0))))
noncomputable def q3y(K:PySem.W.Frag)(a:Adr)(r:Nat->List W->FR):List S->SR:=
 (dSeq (dSet 2 (dOp modW (dOp mulW (dOp addX (dVar 0) (dOp mulW (dC (.int 7919)) (dVar 1))) (dC (.int 48271))) (dC (.int 2147483647))))
  (dRet (dOp modW (dOp addX (dOp addX (dOp mulW (dVar 2) (dVar 2)) (dOp mulW (dC (.int 7)) (dVar 2))) (dVar 1)) (dC (.int 2147483629)))))
noncomputable def q45(K:PySem.W.Frag)(a:Adr)(r:Nat->List W->FR):List S->SR:=
 (dSeq (dApp 2 (dCons (dOp eq2 (dOp modW (dVar 0) (dC (.int 2))) (dC (.int 1))) dNil))
  (dSet 0 (dOp fdivW (dVar 0) (dC (.int 2)))))
noncomputable def q4u(K:PySem.W.Frag)(a:Adr)(r:Nat->List W->FR):List S->SR:=
 (dSeq (dSetO 2 (dLst dNil))
  (dSeq (dForR 3 rng1 (dCons (dVar 1) dNil)
  (q45 K a r))
  (dSeq (dMut0 2 List.reverse)
  (dRet (dFn tup1 (dCons (dVar 2) dNil))))))
noncomputable def q3d(K:PySem.W.Frag)(a:Adr)(r:Nat->List W->FR):List S->SR:=
 (dRet (dOp ixW (dFz (dLst (dCons (dC (.int 1)) (dCons (dC (.int 2)) (dCons (dC (.int 4)) (dCons (dC (.int 8)) dNil)))))) (dVar 0)))
noncomputable def pair44(K:PySem.W.Frag)(a:Adr)(r:Nat->List W->FR):List S->SR:=
 (dSeq (dSet 15 (dOp modW (dCall (r q2o) (dCons (dOp addX (dVar 3) (dVar 9)) (dCons (dVar 11) dNil))) (dOp addX (dOp fdivW (dOp subW (dOp subW (dVar 6) (dC (.int 1))) (dVar 14)) (dVar 7)) (dC (.int 1)))))
  (dApp 10 (dCons (dTup (dCons (dFn tup1 (dCons (dVar 13) dNil)) (dCons (dOp addX (dVar 14) (dOp mulW (dVar 7) (dVar 15))) dNil))) dNil)))
noncomputable def goal44(K:PySem.W.Frag)(a:Adr)(r:Nat->List W->FR):List S->SR:=
 (dSeq (dSet 14 (dOp modW (dOp fdivW (dVar 12) (dC (.int 64))) (dVar 7)))
  (dSeq (dIfS (dTest (dOp eq2 (dOp modW (dVar 3) (dC (.int 3))) (dC (.int 1))))
  (dSeq (dSet 13 (dOp repW (dFz (dLst (dCons (dOp eq2 (dOp modW (dVar 9) (dVar 7)) (dOp subW (dVar 7) (dC (.int 1)))) dNil))) (dVar 5)))
  (dSet 14 (dOp ixW (dFz (dLst (dCons (dFn min2 (dCons (dOp addX (dOp modW (dVar 9) (dVar 7)) (dC (.int 1))) (dCons (dOp subW (dVar 7) (dC (.int 1))) dNil))) (dCons (dC (.int 0)) dNil)))) (dFn min2 (dCons (dVar 11) (dCons (dC (.int 1)) dNil))))))
  dNx)
  (pair44 K a r)))
noncomputable def q2x(K:PySem.W.Frag)(a:Adr)(r:Nat->List W->FR):List S->SR:=
 (dSeq (dSet 12 (dCall (r q2o) (dCons (dCall (r q1g) (dCons (dVar 0) (dCons (dOp addX (dOp addX (dVar 1) (dC (.int 2))) (dOp modW (dOp modW (dVar 9) (dVar 7)) (dC (.int 6)))) dNil))) (dCons (dOp addX (dOp mulW (dC (.int 8)) (dOp modW (dVar 9) (dVar 7))) (dVar 11)) dNil))))
  (dSeq (dSet 13 (dOp repW (dFz (dLst (dCons (dC (.bl false)) dNil))) (dVar 5)))
  (dSeq (dIfS (dTest (dOp eq2 (dOp modW (dVar 12) (dC (.int 4))) (dC (.int 0))))
  (dSet 13 (dFz (dList (dCons (dCall (r q3u) (dCons (dOp fdivW (dVar 12) (dC (.int 4))) (dCons (dVar 5) dNil))) dNil))))
  dNx)
  (goal44 K a r))))
noncomputable def q2y(K:PySem.W.Frag)(a:Adr)(r:Nat->List W->FR):List S->SR:=
 (dSeq (dSetO 10 (dLst dNil))
  (dSeq (dForR 11 rng1 (dCons (dCall (r q2p) (dCons (dVar 4) dNil)) dNil)
  (q2x K a r))
  (dApp 8 (dCons (dVar 10) dNil))))
noncomputable def sts44(K:PySem.W.Frag)(a:Adr)(r:Nat->List W->FR):List S->SR:=
 (dSeq (dSet 7 (dOp subW (dVar 6) (dOp modW (dOp fdivW (dVar 3) (dC (.int 24))) (dVar 6))))
  (dSeq (dSetO 8 (dLst dNil))
  (dSeq (dForR 9 rng1 (dCons (dVar 6) dNil)
  (q2y K a r))
  (dRet (dTup (dCons (dVar 4) (dCons (dVar 5) (dCons (dVar 8) dNil))))))))
noncomputable def sec44(K:PySem.W.Frag)(a:Adr)(r:Nat->List W->FR):List S->SR:=
 (dSeq (dIfS (dAnd (dTest (dOp eq2 (dVar 6) (dC (.int 7)))) (dTest (dOp eq2 (dOp modW (dOp fdivW (dVar 2) (dC (.int 28))) (dC (.int 4))) (dC (.int 1)))))
  (dSeq (dSet 6 (dOp addX (dC (.int 12)) (dOp modW (dOp fdivW (dVar 2) (dC (.int 112))) (dC (.int 9)))))
  (dSet 4 (dOp modW (dVar 4) (dC (.int 2)))))
  dNx)
  (sts44 K a r))
noncomputable def q3e(K:PySem.W.Frag)(a:Adr)(r:Nat->List W->FR):List S->SR:=
 (dSeq (dSet 2 (dCall (r q1g) (dCons (dVar 0) (dCons (dVar 1) dNil))))
  (dSeq (dSet 3 (dCall (r q1g) (dCons (dVar 0) (dCons (dOp addX (dVar 1) (dC (.int 1))) dNil))))
  (dSeq (dSet 4 (dOp ixW (dFz (dLst (dCons (dC (.int 0)) (dCons (dC (.int 1)) (dCons (dC (.int 2)) (dCons (dOp ixW (dFz (dLst (dCons (dC (.int 1)) (dCons (dC (.int 1)) (dCons (dC (.int 2)) (dCons (dC (.int 3)) dNil)))))) (dOp modW (dOp fdivW (dVar 2) (dC (.int 28))) (dC (.int 4)))) dNil)))))) (dOp modW (dVar 2) (dC (.int 4)))))
  (dSeq (dSet 5 (dOp ixW (dFz (dLst (dCons (dC (.int 1)) (dCons (dC (.int 2)) (dCons (dC (.int 1)) (dCons (dC (.int 0)) (dCons (dC (.int 3)) (dCons (dOp addX (dC (.int 4)) (dOp modW (dOp fdivW (dVar 3) (dC (.int 24))) (dC (.int 9)))) (dCons (dC (.int 2)) (dCons (dC (.int 1)) dNil)))))))))) (dOp modW (dOp fdivW (dVar 3) (dC (.int 3))) (dC (.int 8)))))
  (dSeq (dSet 6 (dOp addX (dC (.int 1)) (dOp modW (dOp fdivW (dVar 2) (dC (.int 4))) (dC (.int 7)))))
  (dSeq (dIfS (dTest (dOp eq2 (dVar 6) (dC (.int 6))))
  (dSeq (dSet 6 (dOp addX (dC (.int 6)) (dOp modW (dOp fdivW (dVar 2) (dC (.int 28))) (dC (.int 5)))))
  (dSet 4 (dFn min2 (dCons (dVar 4) (dCons (dC (.int 2)) dNil)))))
  dNx)
  (sec44 K a r)))))))
noncomputable def q56(K:PySem.W.Frag)(a:Adr)(r:Nat->List W->FR):Den W:=
 (dFz (dList (dCons (dVar 0) dNil)))
noncomputable def q4i(K:PySem.W.Frag)(a:Adr)(r:Nat->List W->FR):List S->SR:=
 (dRet (dTup (dCons (dOp ixW (dVar 0) (dC (.int 0))) (dCons (dOp ixW (dVar 0) (dC (.int 1))) (dCons (dFz (dComp [] (dOp ixW (dVar 0) (dC (.int 2))) dYes (q56 K a r))) dNil)))))
noncomputable def q2r(K:PySem.W.Frag)(a:Adr)(r:Nat->List W->FR):List S->SR:=
 (dSeq (dSet 2 (dOrV (dIsi K (.ref a.NoName) (dVar 0)) (dOrV (dIsi K (.ref a.BadText) (dVar 0)) (dOrV (dIsi K (.ref a.NoRow) (dVar 0)) (dIsi K (.ref a.NoTable) (dVar 0))))))
  (dSeq (dIfS (dOr (dTru (dVar 2)) (dOr (dTru (dIsi K (.ref a.TooGreat) (dVar 0))) (dTru (dIsi K (.ref a.BadSheet) (dVar 0)))))
  (dRet (dC (.bl false)))
  dNx)
  (dSeq (dSet 3 (dFz (dLst (dCons (dIsi K (.ref a.NoPlace) (dVar 0)) (dCons (dIsi K (.ref a.UnlikeSizes) (dVar 0)) (dCons (dIsi K (.ref a.NoMachine) (dVar 0)) dNil))))))
  (dRet (dAndV (dOp eq2 (dVar 3) (dFz (dLst (dCons (dOp eq2 (dVar 1) (dC (.int 0))) (dCons (dOp eq2 (dVar 1) (dC (.int 1))) (dCons (dOp eq2 (dVar 1) (dC (.int 2))) dNil)))))) (dAndV (dIsi K (.ref a.CircuitError) (dVar 0)) (dIsi K (.type "ValueError") (dVar 0))))))))
noncomputable def q3l(K:PySem.W.Frag)(a:Adr)(r:Nat->List W->FR):List S->SR:=
 (dSeq (dSet 2 (dOp modW (dVar 1) (dC (.int 8))))
  (dSeq (dSetN 3 [] (dOp ixW (dVar 0) (dC (.int 2))) (dList (dCons (dVar 0) dNil)))
  (dSeq (dSet 4 (dOp modW (dOp fdivW (dVar 1) (dC (.int 8))) (dBorrow (dFn len1 (dCons (dVar 3) dNil)))))
  (dSeq (dSet 5 (dOp modW (dOp fdivW (dVar 1) (dC (.int 160))) (dBorrow (dFn len1 (dCons (dOp ixW (dVar 3) (dVar 4)) dNil)))))
  (dSeq (dSet 6 (dIxN 3 (dVar 4) (dVar 5)))
  (dSeq (dIfS (dTest (dOp eq2 (dVar 2) (dC (.int 0))))
  (dSet 3 (dFz (dLst dNil)))
  dNx)
  (dSeq (dIfS (dTest (dOp eq2 (dVar 2) (dC (.int 1))))
  (dMutN 3 insF (dVar 4) (dCons (dVar 5) (dCons (dVar 6) dNil)))
  dNx)
  (dSeq (dIfS (dTest (dOp eq2 (dVar 2) (dC (.int 2))))
  (dMutN 3 popF (dVar 4) (dCons (dVar 5) dNil))
  dNx)
  (dSeq (dIfS (dTest (dOp eq2 (dVar 2) (dC (.int 3))))
  (dPutN 3 (dTup (dCons (dOp addX (dOp ixW (dVar 6) (dC (.int 0))) (dTup (dCons (dC (.bl false)) dNil))) (dCons (dOp ixW (dVar 6) (dC (.int 1))) dNil))) (dVar 4) (dVar 5))
  dNx)
  (dSeq (dIfS (dAnd (dTest (dOp eq2 (dVar 2) (dC (.int 4)))) (dTest (dOp gtW (dOp ixW (dVar 0) (dC (.int 1))) (dC (.int 0)))))
  (dPutN 3 (dTup (dCons (dSl (dOp ixW (dVar 6) (dC (.int 0))) (dPart (dC (.int 1))) dNoPart) (dCons (dOp ixW (dVar 6) (dC (.int 1))) dNil))) (dVar 4) (dVar 5))
  dNx)
  (dSeq (dIfS (dOr (dTest (dOp gtW (dVar 2) (dC (.int 4)))) (dAnd (dTest (dOp eq2 (dVar 2) (dC (.int 4)))) (dTest (dOp eq2 (dOp ixW (dVar 0) (dC (.int 1))) (dC (.int 0))))))
  (dPutN 3 (dTup (dCons (dOp ixW (dVar 6) (dC (.int 0))) (dCons (dOp ixW (dFz (dLst (dCons (dUn negW (dC (.int 1))) (dCons (dBorrow (dFn len1 (dCons (dVar 3) dNil))) (dCons (dUn negW (dBorrow (dFn len1 (dCons (dVar 3) dNil)))) (dCons (dOp powW (dC (.int 10)) (dC (.int 12))) dNil)))))) (dOp modW (dOp fdivW (dVar 1) (dC (.int 1280))) (dC (.int 4)))) dNil))) (dVar 4) (dVar 5))
  dNx)
  (dRet (dTup (dCons (dOp ixW (dVar 0) (dC (.int 0))) (dCons (dOp ixW (dVar 0) (dC (.int 1))) (dCons (dVarN 3) dNil))))))))))))))))
noncomputable def q1r(K:PySem.W.Frag)(a:Adr)(r:Nat->List W->FR):List S->SR:=
 (dSeq (dTry2 K a.NoMachine a.UnlikeSizes 3 3 4
  (dIfS (dTest (dOp eq2 (dVar 2) (dC (.int 0))))
  (dDrop (dCall (r q28) (dCons (dVar 0) (dCons (dVar 1) dNil))))
  (dIfS (dTest (dOp eq2 (dVar 2) (dC (.int 1))))
  (dDrop (dCall (r q0z) (dCons (dVar 0) (dCons (dVar 1) dNil))))
  (dDrop (dCall (r q2u) (dCons (dVar 0) (dCons (dVar 1) (dCons (dFz (dLst (dCons (dTup (dCons (dC (.int 0)) (dCons (dC (.int 0)) dNil))) (dCons (dTup (dCons (dC (.int 99)) (dCons (dUn negW (dC (.int 1))) dNil))) dNil)))) dNil)))))))
  (dRet (dOp ixW (dFz (dLst (dCons (dC (.str "other")) (dCons (dC (.str "machine")) dNil)))) (dFn int1 (dCons (dCallH (r q1u) (dCons (dVar 3) (dCons (dC (.int 2)) dNil))) dNil))))
  (dRet (dOp ixW (dFz (dLst (dCons (dC (.str "other")) (dCons (dC (.str "sizes")) dNil)))) (dFn int1 (dCons (dCallH (r q1u) (dCons (dVar 3) (dCons (dC (.int 1)) dNil))) dNil)))))
  (dRet (dC (.str "none"))))
noncomputable def q86(K:PySem.W.Frag)(a:Adr)(r:Nat->List W->FR):Den W:=
 (dCall (r q0t) (dCons (dOp ixW (dVar 1) (dC (.int 0))) (dCons (dOp ixW (dVar 1) (dC (.int 1))) (dCons (dVar 0) dNil))))
noncomputable def x0t(K:PySem.W.Frag)(a:Adr)(r:Nat->List W->FR):List S->SR:=
 (dSeq (dSet 1 (dCall (r q09) (dCons (dVar 0) (dCons (dC (.int 0)) dNil))))
  (dSeq (dSet 2 (dCall (r q09) (dCons (dVar 0) (dCons (dC (.int 8)) dNil))))
  (dSeq (dSet 3 (dCall (r q1g) (dCons (dVar 0) (dCons (dC (.int 20)) dNil))))
  (dSeq (dSet 4 (dFz (dLst (dCons (dC (.str "none")) (dCons (dC (.str "none")) (dCons (dC (.str "none")) dNil))))))
  (dSeq (dIfS (dTest (dOp ne2 (dOp ixW (dVar 1) (dC (.int 1))) (dOp ixW (dVar 2) (dC (.int 1)))))
  (dSet 4 (dFz (dLst (dCons (dC (.str "none")) (dCons (dC (.str "sizes")) (dCons (dC (.str "sizes")) dNil))))))
  dNx)
  (dSeq (dIfS (dTest (dOp ne2 (dOp ixW (dVar 1) (dC (.int 0))) (dOp ixW (dVar 2) (dC (.int 0)))))
  (dSet 4 (dFz (dLst (dCons (dC (.str "sizes")) (dCons (dC (.str "sizes")) (dCons (dC (.str "sizes")) dNil))))))
  dNx)
  (dSeq (dIfS (dTest (dOp eq2 (dOp modW (dVar 3) (dC (.int 4))) (dC (.int 1))))
  (dSet 1 (dCall (r q1x) (dCons (dVar 1) (dCons (dOp fdivW (dVar 3) (dC (.int 4))) dNil))))
  dNx)
  (dSeq (dIfS (dTest (dOp eq2 (dOp modW (dVar 3) (dC (.int 4))) (dC (.int 3))))
  (dSet 2 (dCall (r q1x) (dCons (dVar 2) (dCons (dOp fdivW (dVar 3) (dC (.int 4))) dNil))))
  dNx)
  (dSeq (dIfS (dTest (dOp eq2 (dOp modW (dVar 3) (dC (.int 2))) (dC (.int 1))))
  (dSet 4 (dFz (dLst (dCons (dC (.str "machine")) (dCons (dC (.str "machine")) (dCons (dC (.str "machine")) dNil))))))
  dNx)
  (dSeq (dSet 5 (dFz (dLst (dCons (dCall (r q18) (dCons (dVar 1) dNil)) (dCons (dCall (r q18) (dCons (dVar 2) dNil)) dNil)))))
  (dSeq (dSet 6 (dFz (dCompR rng1 [5] (dCons (dC (.int 3)) dNil) dYes (q86 K a r))))
  (dRet (dAndV (dOp eq2 (dVar 6) (dVar 4)) (dOp eq2 (dFn repr1 (dCons (dVar 5) dNil)) (dFn repr1 (dCons (dFz (dLst (dCons (dVar 1) (dCons (dVar 2) dNil)))) dNil))))))))))))))))
noncomputable def body(K:PySem.W.Frag)(a:Adr)(r:Nat->List W->FR)(ws:List W):Nat->FR
 |0=>if ws.length=1 then(q4g K a r (init 3 ws)).fn else .no
 |1=>if ws.length=1 then(q2g K a r (init 6 ws)).fn else .no
 |2=>if ws.length=2 then(q3v K a r (init 2 ws)).fn else .no
 |3=>if ws.length=2 then(q49 K a r (init 9 ws)).fn else .no
 |4=>if ws.length=2 then(q5p K a r (init 3 ws)).fn else .no
 |5=>if ws.length=2 then(q16 K a r (init 2 ws)).fn else .no
 |6=>if ws.length=2 then(q3w K a r (init 2 ws)).fn else .no
 |7=>if ws.length=2 then(q2h K a r (init 10 ws)).fn else .no
 |8=>if ws.length=2 then(q2q K a r (init 2 ws)).fn else .no
 |9=>if ws.length=2 then(q5a K a r (init 4 ws)).fn else .no
 |10=>if ws.length=3 then(q44 K a r (init 5 ws)).fn else .no
 |11=>if ws.length=3 then(q4a K a r (init 5 ws)).fn else .no
 |12=>if ws.length=2 then(q3c K a r (init 2 ws)).fn else .no
 |13=>if ws.length=2 then(q3y K a r (init 3 ws)).fn else .no
 |14=>if ws.length=2 then(q4u K a r (init 4 ws)).fn else .no
 |15=>if ws.length=1 then(q3d K a r (init 1 ws)).fn else .no
 |16=>if ws.length=2 then(q3e K a r (init 16 ws)).fn else .no
 |17=>if ws.length=1 then(q4i K a r (init 1 ws)).fn else .no
 |18=>if ws.length=2 then(q2r K a r (init 4 ws)).fn else .no
 |19=>if ws.length=2 then(q3l K a r (init 7 ws)).fn else .no
 |20=>if ws.length=3 then(q1r K a r (init 4 ws)).fn else .no
 |21=>if ws.length=1 then(x0t K a r (init 7 ws)).fn else .no
 |22=>if ws.length=3 then exprFR (q3k K a r (ws.map .fr))else .no
 |_=>.no
noncomputable def run(K:PySem.W.Frag)(a:Adr):Nat->Nat->List W->FR
 |0,_,_=>.no
 |n+1,i,ws=>body K a (run K a n) ws i
theorem q4p:run K a (n+1) q3f ws=if ws.length=1 then(q4g K a (run K a n) (init 3 ws)).fn else .no:=rfl
theorem q2l:run K a (n+1) q1t ws=if ws.length=1 then(q2g K a (run K a n) (init 6 ws)).fn else .no:=rfl
theorem q3z:run K a (n+1) q17 ws=if ws.length=2 then(q3v K a (run K a n) (init 2 ws)).fn else .no:=rfl
theorem q5f:run K a (n+1) q4m ws=if ws.length=2 then(q49 K a (run K a n) (init 9 ws)).fn else .no:=rfl
theorem q5b:run K a (n+1) q28 ws=if ws.length=2 then(q5p K a (run K a n) (init 3 ws)).fn else .no:=rfl
theorem q13:run K a (n+1) q0y ws=if ws.length=2 then(q16 K a (run K a n) (init 2 ws)).fn else .no:=rfl
theorem q4b:run K a (n+1) q22 ws=if ws.length=2 then(q3w K a (run K a n) (init 2 ws)).fn else .no:=rfl
theorem q2m:run K a (n+1) q0z ws=if ws.length=2 then(q2h K a (run K a n) (init 10 ws)).fn else .no:=rfl
theorem q2s:run K a (n+1) q1l ws=if ws.length=2 then(q2q K a (run K a n) (init 2 ws)).fn else .no:=rfl
theorem q5g:run K a (n+1) q4n ws=if ws.length=2 then(q5a K a (run K a n) (init 4 ws)).fn else .no:=rfl
theorem q4v:run K a (n+1) q2u ws=if ws.length=3 then(q44 K a (run K a n) (init 5 ws)).fn else .no:=rfl
theorem q46:run K a (n+1) q29 ws=if ws.length=3 then(q4a K a (run K a n) (init 5 ws)).fn else .no:=rfl
theorem q3m:run K a (n+1) q1g ws=if ws.length=2 then(q3c K a (run K a n) (init 2 ws)).fn else .no:=rfl
theorem q4c:run K a (n+1) q2o ws=if ws.length=2 then(q3y K a (run K a n) (init 3 ws)).fn else .no:=rfl
theorem q47:run K a (n+1) q3u ws=if ws.length=2 then(q4u K a (run K a n) (init 4 ws)).fn else .no:=rfl
theorem q3n:run K a (n+1) q2p ws=if ws.length=1 then(q3d K a (run K a n) (init 1 ws)).fn else .no:=rfl
theorem q3o:run K a (n+1) q09 ws=if ws.length=2 then(q3e K a (run K a n) (init 16 ws)).fn else .no:=rfl
theorem q4q:run K a (n+1) q18 ws=if ws.length=1 then(q4i K a (run K a n) (init 1 ws)).fn else .no:=rfl
theorem q2a:run K a (n+1) q1u ws=if ws.length=2 then(q2r K a (run K a n) (init 4 ws)).fn else .no:=rfl
theorem q30:run K a (n+1) q1x ws=if ws.length=2 then(q3l K a (run K a n) (init 7 ws)).fn else .no:=rfl
theorem q1m:run K a (n+1) q0t ws=if ws.length=3 then(q1r K a (run K a n) (init 4 ws)).fn else .no:=rfl
theorem q5r:run K a (n+1) q63 ws=if ws.length=1 then(x0t K a (run K a n) (init 7 ws)).fn else .no:=rfl
theorem q31:run K a (n+1) q0w ws=if ws.length=3 then exprFR (q3k K a (run K a n) (ws.map .fr))else .no:=rfl
section
variable{P:Program}{w:World}{base:Heap}
structure Mks(K:PySem.W.Frag)(mg:Str->Option Value):Prop where
 woven:∀f oc od fd sl,mg "woven"=some (.ref f)->K.lookup f=some ⟨oc,od,.func fd,sl⟩->MakK K "woven" fd.code
structure Ats(K:PySem.W.Frag)(mg:Str->Option Value):Prop where
 rows_many:At K mg "rows_many" q2j ["many"]
 check_machine:At K mg "check_machine" q1v ["machine"]
 is_state:At K mg "is_state" q2v ["machine", "number"]
 come_to:At K mg "come_to" q23 ["begin", "pairs_of"]
 woven:At K mg "woven" q3a ["machine", "other"]
 check_both:At K mg "check_both" q2b ["machine", "other"]
 both_pairs:At K mg "both_pairs" q15 ["state", "other"]
 told_machines:At K mg "told_machines" q1w ["machine", "other"]
 check_like:At K mg "check_like" q2c ["machine", "other"]
 rows_to:At K mg "rows_to" q24 ["came", "pair"]
 closed:At K mg "closed" q25 ["machine", "other", "pairs"]
 stays_within:At K mg "stays_within" q1z ["state", "other", "known"]
 _law_cell_at:At K mg "_law_cell_at" q10 ["_law_script", "_law_k"]
 _law_mixed:At K mg "_law_mixed" q2d ["_law_cell", "_law_k"]
 _law_row:At K mg "_law_row" q2w ["_law_number", "_law_many"]
 _law_rows_of:At K mg "_law_rows_of" q11 ["_law_many"]
 _law_machine:At K mg "_law_machine" q12 ["_law_script", "_law_at"]
 _law_copy:At K mg "_law_copy" q19 ["_law_machine_here"]
 _law_alone:At K mg "_law_alone" q2e ["_law_e", "_law_due"]
 _law_spoilt:At K mg "_law_spoilt" q1y ["_law_machine_here", "_law_cell"]
 _law_word:At K mg "_law_word" q2k ["_law_machine_here", "_law_other", "_law_way"]
 law:At K mg "law" q3b ["_law_script"]
structure Cals(P:Program)(w:World)(K:PySem.W.Frag)(mg:Str->Option Value)(base:Heap)(a:Adr)(n:Nat):Prop where
 rows_many:Cal P w K mg base n "rows_many" ["many"] (spF K (run K a n q3f))
 check_machine:Cal P w K mg base n "check_machine" ["machine"] (spF K (run K a n q1t))
 is_state:Cal P w K mg base n "is_state" ["machine", "number"] (spF K (run K a n q17))
 come_to:Cal P w K mg base n "come_to" ["begin", "pairs_of"] (spF K (run K a n q4m))
 woven:Cal P w K mg base n "woven" ["machine", "other"] (spF K (run K a n q28))
 check_both:Cal P w K mg base n "check_both" ["machine", "other"] (spF K (run K a n q0y))
 both_pairs:Cal P w K mg base n "both_pairs" ["state", "other"] (spF K (run K a n q22))
 told_machines:Cal P w K mg base n "told_machines" ["machine", "other"] (spF K (run K a n q0z))
 check_like:Cal P w K mg base n "check_like" ["machine", "other"] (spF K (run K a n q1l))
 rows_to:Cal P w K mg base n "rows_to" ["came", "pair"] (spF K (run K a n q4n))
 closed:Cal P w K mg base n "closed" ["machine", "other", "pairs"] (spF K (run K a n q2u))
 stays_within:Cal P w K mg base n "stays_within" ["state", "other", "known"] (spF K (run K a n q29))
 _law_cell_at:Cal P w K mg base n "_law_cell_at" ["_law_script", "_law_k"] (spF K (run K a n q1g))
 _law_mixed:Cal P w K mg base n "_law_mixed" ["_law_cell", "_law_k"] (spF K (run K a n q2o))
 _law_row:Cal P w K mg base n "_law_row" ["_law_number", "_law_many"] (spF K (run K a n q3u))
 _law_rows_of:Cal P w K mg base n "_law_rows_of" ["_law_many"] (spF K (run K a n q2p))
 _law_machine:Cal P w K mg base n "_law_machine" ["_law_script", "_law_at"] (spF K (run K a n q09))
 _law_copy:Cal P w K mg base n "_law_copy" ["_law_machine_here"] (spF K (run K a n q18))
 _law_alone:Cal P w K mg base n "_law_alone" ["_law_e", "_law_due"] (spF K (run K a n q1u))
 _law_spoilt:Cal P w K mg base n "_law_spoilt" ["_law_machine_here", "_law_cell"] (spF K (run K a n q1x))
 _law_word:Cal P w K mg base n "_law_word" ["_law_machine_here", "_law_other", "_law_way"] (spF K (run K a n q0t))
 law:Cal P w K mg base n "law" ["_law_script"] (spF K (run K a n q63))
 lam:FnV P w K mg base (CX1 P w) n (spV K lams (run K a n))
structure CalsH(P:Program)(w:World)(K:PySem.W.Frag)(mg:Str->Option Value)(base:Heap)(a:Adr)(n:Nat):Prop where
 z:True
 _law_alone:CalH P w K mg base n "_law_alone" ["_law_e", "_law_due"] (spF K (run K a n q1u))
theorem q87(A:Ats K mg)(B:Blt mg)(M:Exs K mg a):CalH P w K mg base (n+1) "_law_alone" ["_law_e", "_law_due"] (spF K (run K a (n+1) q1u)):=by
 refine conH A._law_alone sc__law_alone (fun ws hw=>?_) (fun ws hw f cdv A outer s H Z hr=>⟨q2r K a (run K a n),(q0e (q0l 2 sc__law_alone.nd (q6w (q1h (c0:=.ref _) rfl (q1c M.m_NoName) B.b_isinstance (dv 0)) (q6w (q1h (c0:=.ref _) rfl (q1c M.m_BadText) B.b_isinstance (dv 0)) (q6w (q1h (c0:=.ref _) rfl (q1c M.m_NoRow) B.b_isinstance (dv 0)) (q5i (q1h (c0:=.ref _) rfl (q1c M.m_NoTable) B.b_isinstance (dv 0)))))))
  (q0e (q04 (dt_w (q5w (q3s (dv 2)) (q5w (q3s (q1h (c0:=.ref _) rfl (q1c M.m_TooGreat) B.b_isinstance (dv 0))) (q6h (q3s (q1h (c0:=.ref _) rfl (q1c M.m_BadSheet) B.b_isinstance (dv 0)))))))
  (q0g (q03 q4s))
  q0r)
  (q0e (q0l 3 sc__law_alone.nd (q1f (q0u (q0a (q1h (c0:=.ref _) rfl (q1c M.m_NoPlace) B.b_isinstance (dv 0)) (q0a (q1h (c0:=.ref _) rfl (q1c M.m_UnlikeSizes) B.b_isinstance (dv 0)) (q0a (q1h (c0:=.ref _) rfl (q1c M.m_NoMachine) B.b_isinstance (dv 0)) q0d))))))
  (q0g (q03 (q5j (q3j (q5z hr) (dv 3) (q1f (q0u (q0a (q3j (q5z hr) (dv 1) q0b) (q0a (q3j (q5z hr) (dv 1) q0b) (q0a (q3j (q5z hr) (dv 1) q0b) q0d)))))) (q5j (q1h (c0:=.ref _) rfl (q1c M.m_CircuitError) B.b_isinstance (dv 0)) (q5i (q1h (c0:=.ty _) rfl (x21 PyProof.Rows.Boot.«ValueError» B.b_ValueError) B.b_isinstance (dv 0)))))))))),?_⟩)
 ·rw[q2a]at hw;split at hw
  ·assumption
  ·exact absurd rfl hw
 ·rw[q2a]at hw |-;split at hw
  ·rename_i hl;rw[if_pos hl];rfl
  ·exact absurd rfl hw
section
variable(B:Blt mg)(M:Exs K mg a)(C:Cals P w K mg base a n)(CH:CalsH P w K mg base a n)(BM:BMain base mg)(MK:Mks K mg)
theorem lof{c:Prop} [Decidable c]{x r:FR}(e:r=if c then x else .no)(h:r≠.no):c/\x=r:=by
 rw[e]at h |-;split at h
 ·rename_i hl;rw[if_pos hl];exact⟨hl,rfl⟩
 ·exact absurd rfl h
include B M C CH BM MK
theorem x1s  (A:Ats K mg):Cal P w K mg base (n+1) "rows_many" ["many"] (spF K (run K a (n+1) q3f)):=
 con A.rows_many sc_rows_many (fun ws hw=>(lof q4p hw).1) fun ws hw f cdv A outer s H E Z hr=>⟨q4g K a (run K a n),(q0e (q0l 1 sc_rows_many.nd q0b)
  (q0e (q6x 2 sc_rows_many.nd PassesOwn.leaving rfl B.b_range (q0a (dv 0) q0d)
  (q0g (q0l 1 sc_rows_many.nd (q42 q0b (dv 1)))))
  (q0g (q03 (dv 1))))),(lof q4p hw).2⟩
theorem q7r  (A:Ats K mg):Cal P w K mg base (n+1) "check_machine" ["machine"] (spF K (run K a (n+1) q1t)):=
 con A.check_machine sc_check_machine (fun ws hw=>(lof q2l hw).1) fun ws hw f cdv A outer s H E Z hr=>⟨q2g K a (run K a n),(q0e (q0l 1 sc_check_machine.nd (q0i (dv 0) q0b))
  (q0e (q0l 2 sc_check_machine.nd (q0v C.rows_many hr pass1 (q0a (q0i (dv 0) q0b) q0d)))
  (q0e (q04 (q2f (q0j hr) (q3t B.b_len (q0a (dv 1) q0d)) q0b)
  (q0g (q37 rais1 M.e_NoMachine M.m_NoMachine rfl (q0a q06 q0d)))
  q0r)
  (q0g (x5c 3 sc_check_machine.nd PassesOwn.leaving rfl (dv 1)
  (q0e (q04 (q48 (q0j hr) (q3t B.b_len (q0a (dv 3) q0d)) (dv 2))
  (q0g (q37 rais1 M.e_NoMachine M.m_NoMachine rfl (q0a q06 q0d)))
  q0r)
  (q0g (q61 4 5 sc_check_machine.nd PassesOwn.leaving rfl (q7k (dv 3))
  (q0e (q04 (q48 (q0j hr) (q3t B.b_len (q0a (dv 4) q0d)) (q0i (dv 0) q0b))
  (q0g (q37 rais1 M.e_NoMachine M.m_NoMachine rfl (q0a q06 q0d)))
  q0r)
  (q0g (q04 (x06 (q3s (q0v C.is_state hr pass1 (q0a (dv 0) (q0a (dv 5) q0d)))))
  (q0g (q37 rais1 M.e_NoMachine M.m_NoMachine rfl (q0a q06 q0d)))
  q0r))))))))))),(lof q2l hw).2⟩
theorem x2k  (A:Ats K mg):Cal P w K mg base (n+1) "is_state" ["machine", "number"] (spF K (run K a (n+1) q17)):=
 con A.is_state x2j (fun ws hw=>(lof q3z hw).1) fun ws hw f cdv A outer s H E Z hr=>⟨q3v K a (run K a n),(q0g (q03 (q5j (y8j q0b (dv 1)) (q5i (y8i (dv 1) (q3t B.b_len (q0a (q0i (dv 0) q0b) q0d))))))),(lof q3z hw).2⟩
theorem x4m  (A:Ats K mg):Cal P w K mg base (n+1) "come_to" ["begin", "pairs_of"] (spF K (run K a (n+1) q4m)):=
 con A.come_to sc_come_to (fun ws hw=>(lof q5f hw).1) fun ws hw f cdv A outer s H E Z hr=>⟨q49 K a (run K a n),(q0e (q4j 2 sc_come_to.nd (q0u (q0a (dv 0) q0d)))
  (q0e (x9v 3 0 (.tup [.int,.int]) (w:=(.int 0)) M.nt (hu1 (q0j hr)) sc_come_to.nd q7z rfl)
  (q0e (q4j 4 sc_come_to.nd (q0u q0d))
  (q0e (q7g 1000000 PassesOwn.leaving (x31 (q5n 4 B.b_len) (q5n 2 B.b_len))
  (q0e (q0l 5 sc_come_to.nd (x5i 2 (q5n 4 B.b_len)))
  (q0e (q4j 6 sc_come_to.nd (q0u q0d))
  (q0e (q61 7 8 sc_come_to.nd PassesOwn.leaving rfl (q7k (x9p 1 C.lam hr pass1 (q0a (dv 5) q0d) (pv 1)))
  (q0e (q04 (q6n fun _=>(q62 M.nt (q0j hr) (dv 8) (dv 3)))
  (q0e (q83 3 M.nt (q0j hr) (q5n 2 B.b_len) (dv 8))
  (q0g (q4k 2 (q0a (dv 8) q0d))))
  q0r)
  (q0g (q4k 6 (q0a (q1b (q0a (dv 7) (q0a (q4l fun _=>(x1n M.nt (q0j hr) (dv 3) (dv 8))) q0d))) q0d)))))
  (q0g (q4k 4 (q0a (dv 6) q0d)))))))
  (q0g (q03 (q1b (q0a (dv 4) (q0a (dv 2) q0d))))))))),(lof q5f hw).2⟩
theorem x9z  (A:Ats K mg):Cal P w K mg base (n+1) "woven" ["machine", "other"] (spF K (run K a (n+1) q28)):=
 conM A.woven MK.woven sc_woven (fun ws hw=>(lof q5b hw).1) fun ws hw f cdv A outer s H E Z hr hmk=>⟨q5p K a (run K a n),(q0e (q27 (q0v C.check_both hr pass1 (q0a (dv 0) (q0a (dv 1) q0d))))
  (q0e (q0l 2 sc_woven.nd (x4h 22 q1d C.come_to hr pass1 (y9w hmk BM) (fun _=>rfl) (q1b (q0a q0b (q0a q0b q0d))) (sc:=defScope q3a) (N:=["machine", "other", "found"]) (nf:=["machine", "other"]) (by decide +kernel)))
  (q0g (q03 (q1b (q0a (q1b (q0a (q0i (dv 0) q0b) (q0a (q08 (q0i (dv 0) q0b) (q0i (dv 1) q0b)) (q0a (q0i (dv 2) q0b) q0d)))) (q0a (q0i (dv 2) q0b) q0d))))))),(lof q5b hw).2⟩
theorem x0k  (A:Ats K mg):Cal P w K mg base (n+1) "check_both" ["machine", "other"] (spF K (run K a (n+1) q0y)):=
 con A.check_both x0h (fun ws hw=>(lof q13 hw).1) fun ws hw f cdv A outer s H E Z hr=>⟨q16 K a (run K a n),(q0e (q27 (q0v C.check_machine hr pass1 (q0a (dv 0) q0d)))
  (q0e (q27 (q0v C.check_machine hr pass1 (q0a (dv 1) q0d)))
  (q0g (q04 (q48 (q0j hr) (q0i (dv 0) q0b) (q0i (dv 1) q0b))
  (q0g (q37 rais1 M.e_UnlikeSizes M.m_UnlikeSizes rfl (q0a q06 q0d)))
  q0r)))),(lof q13 hw).2⟩
theorem x0l  (A:Ats K mg):Cal P w K mg base (n+1) "both_pairs" ["state", "other"] (spF K (run K a (n+1) q22)):=
 con A.both_pairs x0i (fun ws hw=>(lof q4b hw).1) fun ws hw f cdv A outer s H E Z hr=>⟨q3w K a (run K a n),(q0g (x2x (x1g (x:="pair") (y:="like") (Nf:=[]) (js:=[]) (sc:=defScope q15) (N:=["state", "other"]) rfl (x1k B.b_zip (q0a (dv 0) (q0a (dv 1) q0d))) (by decide +kernel)
   (fun _ _ _ _ _ _=>q5m)
   (fun _ _ _ _ _ _=>(q1b (q0a (q08 (q0i (dv 0) q0b) (q0i (dv 1) q0b)) (q0a (q1b (q0a (q0i (dv 0) q0b) (q0a (q0i (dv 1) q0b) q0d))) q0d))))
   (fun _ _ _ _ _=>x52 (show(["pair", "like"]:List Str).Nodup by decide +kernel) rfl)))),(lof q4b hw).2⟩
theorem q7s  (A:Ats K mg):Cal P w K mg base (n+1) "told_machines" ["machine", "other"] (spF K (run K a (n+1) q0z)):=
 con A.told_machines sc_told_machines (fun ws hw=>(lof q2m hw).1) fun ws hw f cdv A outer s H E Z hr=>⟨q2h K a (run K a n),(q0e (q27 (q0v C.check_like hr pass1 (q0a (dv 0) (q0a (dv 1) q0d))))
  (q0e (x9s 2 (a:=(.inr 0)) (b:=(.inr 0)) (w:=.non) (hu1 (q0j hr)) sc_told_machines.nd (x42 (q3p q7z (q3p q7z q6a))) x4u rfl)
  (q0e (q4j 3 sc_told_machines.nd (q0u (q0a (q1b (q0a q0b (q0a q0b q0d))) q0d)))
  (q0e (q0l 4 sc_told_machines.nd q0b)
  (q0e (q7g 1000000 PassesOwn.leaving (x31 (dv 4) (q5n 3 B.b_len))
  (q0e (q0l 5 sc_told_machines.nd (x5i 3 (dv 4)))
  (q0e (q0l 6 sc_told_machines.nd q0b)
  (q0e (q61 7 8 sc_told_machines.nd PassesOwn.leaving rfl (x1k B.b_zip (q0a (q0i (q0i (dv 0) q0b) (q0i (dv 5) q0b)) (q0a (q0i (q0i (dv 1) q0b) (q0i (dv 5) q0b)) q0d)))
  (q0e (q04 (q48 (q0j hr) (q0i (dv 7) q0b) (q0i (dv 8) q0b))
  (q0g (y33 2 (q03 (q1b (q0a q06 (q0a (q08 (q0v C.rows_to hr pass1 (q0a (dv 2) (q0a (dv 5) q0d))) (q1f (q0u (q0a (dv 6) q0d)))) q0d))))))
  q0r)
  (q0e (q0l 9 sc_told_machines.nd (q1b (q0a (q0i (dv 7) q0b) (q0a (q0i (dv 8) q0b) q0d))))
  (q0e (q04 (q6n fun _=>(q62 M.nt (q0j hr) (dv 9) (dv 2)))
  (q0e (q83 2 M.nt (q0j hr) (q1b (q0a (dv 5) (q0a (dv 6) q0d))) (dv 9))
  (q0g (q4k 3 (q0a (dv 9) q0d))))
  q0r)
  (q0g (q0l 6 sc_told_machines.nd (q08 (dv 6) q0b)))))))
  (q0g (q0l 4 sc_told_machines.nd (q08 (dv 4) q0b)))))))
  (q0g (q03 (q1b (q0a q06 (q0a (dv 3) q0d)))))))))),(lof q2m hw).2⟩
theorem x0m  (A:Ats K mg):Cal P w K mg base (n+1) "check_like" ["machine", "other"] (spF K (run K a (n+1) q1l)):=
 con A.check_like x0j (fun ws hw=>(lof q2s hw).1) fun ws hw f cdv A outer s H E Z hr=>⟨q2q K a (run K a n),(q0e (q27 (q0v C.check_both hr pass1 (q0a (dv 0) (q0a (dv 1) q0d))))
  (q0g (q04 (q48 (q0j hr) (q0i (dv 0) q0b) (q0i (dv 1) q0b))
  (q0g (q37 rais1 M.e_UnlikeSizes M.m_UnlikeSizes rfl (q0a q06 q0d)))
  q0r))),(lof q2s hw).2⟩
theorem x4n  (A:Ats K mg):Cal P w K mg base (n+1) "rows_to" ["came", "pair"] (spF K (run K a (n+1) q4n)):=
 con A.rows_to sc_rows_to (fun ws hw=>(lof q5g hw).1) fun ws hw f cdv A outer s H E Z hr=>⟨q5a K a (run K a n),(q0e (q4j 2 sc_rows_to.nd (q0u q0d))
  (q0e (q0l 3 sc_rows_to.nd (x1n M.nt (q0j hr) (dv 0) (dv 1)))
  (q0e (q7g 1000000 PassesOwn.leaving (y5o (dv 3) y5b)
  (q0e (q4k 2 (q0a (q0i (dv 3) q0b) q0d))
  (q0g (q0l 3 sc_rows_to.nd (x1n M.nt (q0j hr) (dv 0) (q0i (dv 3) q0b))))))
  (q0g (x2x (x6w rfl B.b_list B.b_reversed (dv 2))))))),(lof q5g hw).2⟩
theorem x6y  (A:Ats K mg):Cal P w K mg base (n+1) "closed" ["machine", "other", "pairs"] (spF K (run K a (n+1) q2u)):=
 con A.closed sc_closed (fun ws hw=>(lof q4v hw).1) fun ws hw f cdv A outer s H E Z hr=>⟨q44 K a (run K a n),(q0e (q27 (q0v C.check_like hr pass1 (q0a (dv 0) (q0a (dv 1) q0d))))
  (q0e (y3w 3 (.tup [.int,.int]) sc_closed.nd)
  (q0e (x5c 4 sc_closed.nd PassesOwn.leaving rfl (dv 2)
  (q0e (q04 (dt_w (q5w (x06 (q3s (q0v C.is_state hr pass1 (q0a (dv 0) (q0a (q0i (dv 4) q0b) q0d))))) (q6h (x06 (q3s (q0v C.is_state hr pass1 (q0a (dv 1) (q0a (q0i (dv 4) q0b) q0d))))))))
  (q0g (q03 q4s))
  q0r)
  (q0g (q83 3 M.nt (q0j hr) q4s (dv 4)))))
  (q0e (q04 (q6n fun _=>(q62 M.nt (q0j hr) (q1b (q0a q0b (q0a q0b q0d))) (dv 3)))
  (q0g (q03 q4s))
  q0r)
  (q0g (q03 (y67 rfl B.b_all (q0a (q1f (x1g (x:="left") (y:="right") (Nf:=["machine", "other", "known"]) (js:=[0,1,3]) (sc:=defScope q25) (N:=["machine", "other", "pairs", "known", "pair"]) rfl (q7k (dv 3)) (by decide +kernel)
   (fun _ _ _ _ _ _=>q5m)
   (fun _ _ _ _ _ _=>(q0v C.stays_within hr passE (q0a (q0i (q0i (dv 2) q0b) (dv 0)) (q0a (q0i (q0i (dv 3) q0b) (dv 1)) (q0a (dv 4) q0d)))))
   (fun _ _ _ _ _=>x52 (show(["left", "right", "machine", "other", "known"]:List Str).Nodup by decide +kernel) rfl))) q0d)))))))),(lof q4v hw).2⟩
theorem q8f  (A:Ats K mg):Cal P w K mg base (n+1) "stays_within" ["state", "other", "known"] (spF K (run K a (n+1) q29)):=
 con A.stays_within sc_stays_within (fun ws hw=>(lof q46 hw).1) fun ws hw f cdv A outer s H E Z hr=>⟨q4a K a (run K a n),(q0e (q61 3 4 sc_stays_within.nd PassesOwn.leaving rfl (x1k B.b_zip (q0a (dv 0) (q0a (dv 1) q0d)))
  (q0g (q04 (dt_w (q5w (q48 (q0j hr) (q0i (dv 3) q0b) (q0i (dv 4) q0b)) (q6h (q62 M.nt (q0j hr) (q1b (q0a (q0i (dv 3) q0b) (q0a (q0i (dv 4) q0b) q0d))) (dv 2)))))
  (q0g (q03 q4s))
  q0r)))
  (q0g (q03 q4s))),(lof q46 hw).2⟩
theorem q8g  (A:Ats K mg):Cal P w K mg base (n+1) "_law_cell_at" ["_law_script", "_law_k"] (spF K (run K a (n+1) q1g)):=
 con A._law_cell_at q8d (fun ws hw=>(lof q3m hw).1) fun ws hw f cdv A outer s H E Z hr=>⟨q3c K a (run K a n),(q0e (q04 (x31 (dv 1) (q3t B.b_len (q0a (dv 0) q0d)))
  (q0g (q03 (q0i (dv 0) (dv 1))))
  q0r)
  (q0g (q03 q0b))),(lof q3m hw).2⟩
theorem x0n  (A:Ats K mg):Cal P w K mg base (n+1) "_law_mixed" ["_law_cell", "_law_k"] (spF K (run K a (n+1) q2o)):=
 con A._law_mixed sc__law_mixed (fun ws hw=>(lof q4c hw).1) fun ws hw f cdv A outer s H E Z hr=>⟨q3y K a (run K a n),(q0e (q0l 2 sc__law_mixed.nd (q0x (q42 (q08 (dv 0) (q42 q0b (dv 1))) q0b) q0b))
  (q0g (q03 (q0x (q08 (q08 (q42 (dv 2) (dv 2)) (q42 q0b (dv 2))) (dv 1)) q0b)))),(lof q4c hw).2⟩
theorem x2l  (A:Ats K mg):Cal P w K mg base (n+1) "_law_row" ["_law_number", "_law_many"] (spF K (run K a (n+1) q3u)):=
 con A._law_row sc__law_row (fun ws hw=>(lof q47 hw).1) fun ws hw f cdv A outer s H E Z hr=>⟨q4u K a (run K a n),(q0e (q4j 2 sc__law_row.nd (q0u q0d))
  (q0e (q6x 3 sc__law_row.nd PassesOwn.leaving rfl B.b_range (q0a (dv 1) q0d)
  (q0e (q4k 2 (q0a (q3j (q0j hr) (q0x (dv 0) q0b) q0b) q0d))
  (q0g (q0l 0 sc__law_row.nd (q1o (dv 0) q0b)))))
  (q0e (y7h 2)
  (q0g (q03 (x1e B.b_tuple (q0a (dv 2) q0d))))))),(lof q47 hw).2⟩
theorem q8h  (A:Ats K mg):Cal P w K mg base (n+1) "_law_rows_of" ["_law_many"] (spF K (run K a (n+1) q2p)):=
 con A._law_rows_of q8e (fun ws hw=>(lof q3n hw).1) fun ws hw f cdv A outer s H E Z hr=>⟨q3d K a (run K a n),(q0g (q03 (q0i (q1f (q0u (q0a q0b (q0a q0b (q0a q0b (q0a q0b q0d)))))) (dv 0)))),(lof q3n hw).2⟩
theorem q8i  (A:Ats K mg):Cal P w K mg base (n+1) "_law_machine" ["_law_script", "_law_at"] (spF K (run K a (n+1) q09)):=
 con A._law_machine sc__law_machine (fun ws hw=>(lof q3o hw).1) fun ws hw f cdv A outer s H E Z hr=>⟨q3e K a (run K a n),(q0e (q0l 2 sc__law_machine.nd (q0v C._law_cell_at hr pass1 (q0a (dv 0) (q0a (dv 1) q0d))))
  (q0e (q0l 3 sc__law_machine.nd (q0v C._law_cell_at hr pass1 (q0a (dv 0) (q0a (q08 (dv 1) q0b) q0d))))
  (q0e (q0l 4 sc__law_machine.nd (q0i (q1f (q0u (q0a q0b (q0a q0b (q0a q0b (q0a (q0i (q1f (q0u (q0a q0b (q0a q0b (q0a q0b (q0a q0b q0d)))))) (q0x (q1o (dv 2) q0b) q0b)) q0d)))))) (q0x (dv 2) q0b)))
  (q0e (q0l 5 sc__law_machine.nd (q0i (q1f (q0u (q0a q0b (q0a q0b (q0a q0b (q0a q0b (q0a q0b (q0a (q08 q0b (q0x (q1o (dv 3) q0b) q0b)) (q0a q0b (q0a q0b q0d)))))))))) (q0x (q1o (dv 3) q0b) q0b)))
  (q0e (q0l 6 sc__law_machine.nd (q08 q0b (q0x (q1o (dv 2) q0b) q0b)))
  (q0e (q04 (q2f (q0j hr) (dv 6) q0b)
  (q0e (q0l 6 sc__law_machine.nd (q08 q0b (q0x (q1o (dv 2) q0b) q0b)))
  (q0g (q0l 4 sc__law_machine.nd (q8z rfl B.b_min (q0a (dv 4) (q0a q0b q0d))))))
  q0r)
  (q0e (q04 (dt_w (x05 (q2f (q0j hr) (dv 6) q0b) (q8v (q2f (q0j hr) (q0x (q1o (dv 2) q0b) q0b) q0b))))
  (q0e (q0l 6 sc__law_machine.nd (q08 q0b (q0x (q1o (dv 2) q0b) q0b)))
  (q0g (q0l 4 sc__law_machine.nd (q0x (dv 4) q0b))))
  q0r)
  (q0e (q0l 7 sc__law_machine.nd (q6m (dv 6) (q0x (q1o (dv 3) q0b) (dv 6))))
  (q0e (q4j 8 sc__law_machine.nd (q0u q0d))
  (q0e (q6x 9 sc__law_machine.nd PassesOwn.leaving rfl B.b_range (q0a (dv 6) q0d)
  (q0e (q4j 10 sc__law_machine.nd (q0u q0d))
  (q0e (q6x 11 sc__law_machine.nd PassesOwn.leaving rfl B.b_range (q0a (q0v C._law_rows_of hr pass1 (q0a (dv 4) q0d)) q0d)
  (q0e (q0l 12 sc__law_machine.nd (q0v C._law_mixed hr pass1 (q0a (q0v C._law_cell_at hr pass1 (q0a (dv 0) (q0a (q08 (q08 (dv 1) q0b) (q0x (q0x (dv 9) (dv 7)) q0b)) q0d))) (q0a (q08 (q42 q0b (q0x (dv 9) (dv 7))) (dv 11)) q0d))))
  (q0e (q0l 13 sc__law_machine.nd (x56 (q1f (q0u (q0a q4s q0d))) (dv 5)))
  (q0e (q04 (q2f (q0j hr) (q0x (dv 12) q0b) q0b)
  (q0g (q0l 13 sc__law_machine.nd (q1f (q8y B.b_list (q0a (q0v C._law_row hr pass1 (q0a (q1o (dv 12) q0b) (q0a (dv 5) q0d))) q0d)))))
  q0r)
  (q0e (q0l 14 sc__law_machine.nd (q0x (q1o (dv 12) q0b) (dv 7)))
  (q0e (q04 (q2f (q0j hr) (q0x (dv 3) q0b) q0b)
  (q0e (q0l 13 sc__law_machine.nd (x56 (q1f (q0u (q0a (q3j (q0j hr) (q0x (dv 9) (dv 7)) (q6m (dv 7) q0b)) q0d))) (dv 5)))
  (q0g (q0l 14 sc__law_machine.nd (q0i (q1f (q0u (q0a (q8z rfl B.b_min (q0a (q08 (q0x (dv 9) (dv 7)) q0b) (q0a (q6m (dv 7) q0b) q0d))) (q0a q0b q0d)))) (q8z rfl B.b_min (q0a (dv 11) (q0a q0b q0d)))))))
  q0r)
  (q0e (q0l 15 sc__law_machine.nd (q0x (q0v C._law_mixed hr pass1 (q0a (q08 (dv 3) (dv 9)) (q0a (dv 11) q0d))) (q08 (q1o (q6m (q6m (dv 6) q0b) (dv 14)) (dv 7)) q0b)))
  (q0g (q4k 10 (q0a (q1b (q0a (x1e B.b_tuple (q0a (dv 13) q0d)) (q0a (q08 (dv 14) (q42 (dv 7) (dv 15))) q0d))) q0d))))))))))
  (q0g (q4k 8 (q0a (dv 10) q0d))))))
  (q0g (q03 (q1b (q0a (dv 4) (q0a (dv 5) (q0a (dv 8) q0d)))))))))))))))),(lof q3o hw).2⟩
theorem x1t  (A:Ats K mg):Cal P w K mg base (n+1) "_law_copy" ["_law_machine_here"] (spF K (run K a (n+1) q18)):=
 con A._law_copy x1q (fun ws hw=>(lof q4q hw).1) fun ws hw f cdv A outer s H E Z hr=>⟨q4i K a (run K a n),(q0g (q03 (q1b (q0a (q0i (dv 0) q0b) (q0a (q0i (dv 0) q0b) (q0a (q1f (y1q (x:="_law_state") (Nf:=[]) (js:=[]) (sc:=defScope q19) (N:=["_law_machine_here"]) rfl (q0i (dv 0) q0b) (by decide +kernel)
   (fun _ _ _ _ _ _=>q5m)
   (fun _ _ _ _ _ _=>(q1f (q8y B.b_list (q0a (dv 0) q0d))))
   (fun _ _ _ _ _=>q3r 0 (show(["_law_state"]:List Str).Nodup by decide +kernel)))) q0d)))))),(lof q4q hw).2⟩
theorem x0o  (A:Ats K mg):Cal P w K mg base (n+1) "_law_alone" ["_law_e", "_law_due"] (spF K (run K a (n+1) q1u)):=
 con A._law_alone sc__law_alone (fun ws hw=>(lof q2a hw).1) fun ws hw f cdv A outer s H E Z hr=>⟨q2r K a (run K a n),(q0e (q0l 2 sc__law_alone.nd (q6w (q1h (c0:=.ref _) rfl (q1c M.m_NoName) B.b_isinstance (dv 0)) (q6w (q1h (c0:=.ref _) rfl (q1c M.m_BadText) B.b_isinstance (dv 0)) (q6w (q1h (c0:=.ref _) rfl (q1c M.m_NoRow) B.b_isinstance (dv 0)) (q5i (q1h (c0:=.ref _) rfl (q1c M.m_NoTable) B.b_isinstance (dv 0)))))))
  (q0e (q04 (dt_w (q5w (q3s (dv 2)) (q5w (q3s (q1h (c0:=.ref _) rfl (q1c M.m_TooGreat) B.b_isinstance (dv 0))) (q6h (q3s (q1h (c0:=.ref _) rfl (q1c M.m_BadSheet) B.b_isinstance (dv 0)))))))
  (q0g (q03 q4s))
  q0r)
  (q0e (q0l 3 sc__law_alone.nd (q1f (q0u (q0a (q1h (c0:=.ref _) rfl (q1c M.m_NoPlace) B.b_isinstance (dv 0)) (q0a (q1h (c0:=.ref _) rfl (q1c M.m_UnlikeSizes) B.b_isinstance (dv 0)) (q0a (q1h (c0:=.ref _) rfl (q1c M.m_NoMachine) B.b_isinstance (dv 0)) q0d))))))
  (q0g (q03 (q5j (q3j (q0j hr) (dv 3) (q1f (q0u (q0a (q3j (q0j hr) (dv 1) q0b) (q0a (q3j (q0j hr) (dv 1) q0b) (q0a (q3j (q0j hr) (dv 1) q0b) q0d)))))) (q5j (q1h (c0:=.ref _) rfl (q1c M.m_CircuitError) B.b_isinstance (dv 0)) (q5i (q1h (c0:=.ty _) rfl (x21 PyProof.Rows.Boot.«ValueError» B.b_ValueError) B.b_isinstance (dv 0)))))))))),(lof q2a hw).2⟩
theorem q88  (A:Ats K mg):Cal P w K mg base (n+1) "_law_spoilt" ["_law_machine_here", "_law_cell"] (spF K (run K a (n+1) q1x)):=
 conZ A._law_spoilt sc__law_spoilt (fun ws hw=>(lof q30 hw).1) fun ws hw f cdv A outer s H E Z hr hz=>⟨q3l K a (run K a n),(q0e (q0l 2 sc__law_spoilt.nd (q0x (dv 1) q0b))
  (q0e (y3i 3 (x:="_law_state") (Nf:=[]) (js:=[]) (sc:=defScope q1y) (N:=["_law_machine_here", "_law_cell", "_law_kind", "_law_states", "_law_at", "_law_number", "_law_pair"]) sc__law_spoilt.nd rfl (q0i (dv 0) q0b) (by decide +kernel)
   (fun _ _ _ _ _ _=>(q8y B.b_list (q0a (dv 0) q0d)))
   (fun _ _ _ _ _=>q3r 0 (show(["_law_state"]:List Str).Nodup by decide +kernel)))
  (q0e (q0l 4 sc__law_spoilt.nd (q0x (q1o (dv 1) q0b) (q4l fun _=>(q3t B.b_len (q0a (dv 3) q0d)))))
  (q0e (q0l 5 sc__law_spoilt.nd (q0x (q1o (dv 1) q0b) (q4l fun _=>(q3t B.b_len (q0a (q0i (dv 3) (dv 4)) q0d)))))
  (q0e (q0l 6 sc__law_spoilt.nd (y7k 3 (dv 4) (dv 5)))
  (q0e (q04 (q2f (q0j hr) (dv 2) q0b)
  (q0g (q0l 3 sc__law_spoilt.nd (q1f (q0u q0d))))
  q0r)
  (q0e (q04 (q2f (q0j hr) (dv 2) q0b)
  (q0g (x27 3 x9j PySem.F.slot_list_insert PySem.F.type_list_insert x6m hz.1 (dv 4) (q0a (dv 5) (q0a (dv 6) q0d))))
  q0r)
  (q0e (q04 (q2f (q0j hr) (dv 2) q0b)
  (q0g (x27 3 x9k PySem.F.slot_list_pop PySem.F.type_list_pop x7w hz.1 (dv 4) (q0a (dv 5) q0d)))
  q0r)
  (q0e (q04 (q2f (q0j hr) (dv 2) q0b)
  (q0g (q82 3 hz.1 (q1b (q0a (q08 (q0i (dv 6) q0b) (q1b (q0a q4s q0d))) (q0a (q0i (dv 6) q0b) q0d))) (dv 4) (dv 5)))
  q0r)
  (q0e (q04 (dt_w (x05 (q2f (q0j hr) (dv 2) q0b) (q8v (y0q (q0i (dv 0) q0b) q0b))))
  (q0g (q82 3 hz.1 (q1b (q0a (x8e (q0i (dv 6) q0b) (y1u q0b) y1t) (q0a (q0i (dv 6) q0b) q0d))) (dv 4) (dv 5)))
  q0r)
  (q0e (q04 (dt_w (q5w (y0q (dv 2) q0b) (q6h (dt_w (x05 (q2f (q0j hr) (dv 2) q0b) (q8v (q2f (q0j hr) (q0i (dv 0) q0b) q0b)))))))
  (q0g (q82 3 hz.1 (q1b (q0a (q0i (dv 6) q0b) (q0a (q0i (q1f (q0u (q0a (x1d q0b) (q0a (q4l fun _=>(q3t B.b_len (q0a (dv 3) q0d))) (q0a (x1d (q4l fun _=>(q3t B.b_len (q0a (dv 3) q0d)))) (q0a (y5n q0b q0b) q0d)))))) (q0x (q1o (dv 1) q0b) q0b)) q0d))) (dv 4) (dv 5)))
  q0r)
  (q0g (q03 (q1b (q0a (q0i (dv 0) q0b) (q0a (q0i (dv 0) q0b) (q0a (y3j 3) q0d))))))))))))))))),(lof q30 hw).2⟩
theorem x1u  (A:Ats K mg):Cal P w K mg base (n+1) "_law_word" ["_law_machine_here", "_law_other", "_law_way"] (spF K (run K a (n+1) q0t)):=
 con A._law_word sc__law_word (fun ws hw=>(lof q1m hw).1) fun ws hw f cdv A outer s H E Z hr=>⟨q1r K a (run K a n),(q0e (y3k M.m_NoMachine M.m_UnlikeSizes sc__law_word.nd (i:=3) rfl rfl (i2:=3) rfl rfl (fun EE pn xe hx1=>(q0g (q04 (q2f (q0j hr) (dv 2) q0b)
  (q0g (q27 (q0v C.woven hr hx1 (q0a (dv 0) (q0a (dv 1) q0d)))))
  (q0g (q04 (q2f (q0j hr) (dv 2) q0b)
  (q0g (q27 (q0v C.told_machines hr hx1 (q0a (dv 0) (q0a (dv 1) q0d)))))
  (q0g (q27 (q0v C.closed hr hx1 (q0a (dv 0) (q0a (dv 1) (q0a (q1f (q0u (q0a (q1b (q0a q0b (q0a q0b q0d))) (q0a (q1b (q0a q0b (q0a (x1d q0b) q0d))) q0d)))) q0d)))))))))))
  (fun e=>(q0g (q03 (q0i (q1f (q0u (q0a q06 (q0a q06 q0d)))) (x23 B.b_int (q0a (x2z CH._law_alone (hr.hm _) (q0a (dv 3) (q0a q0b q0d))) q0d))))))
  (fun e=>(q0g (q03 (q0i (q1f (q0u (q0a q06 (q0a q06 q0d)))) (x23 B.b_int (q0a (x2z CH._law_alone (hr.hm _) (q0a (dv 3) (q0a q0b q0d))) q0d)))))))
  (q0g (q03 q06))),(lof q1m hw).2⟩
theorem y0t  {f:Addr}{cdv:Value}{A:Around}{outer:List Env}{s:Shared}{H:Hp}{E:XK}{Z:Zt}(hr:Room n (A.deeper (PyProof.Rows.envOfC "law" (defScope q3b) s.heap.objs.size f cdv))):
  DSs Z (cxOf (CX1 P w) P w K mg base ["_law_script", "_law_machine_here", "_law_other", "_law_cell", "_law_due", "_law_handed", "_law_found"] "law" (defScope q3b) f cdv A outer s H E) (fun _=>E) (defBody q3b) (x0t K a (run K a n)):=
 (q0e (q0l 1 sc_law.nd (q0v C._law_machine hr pass1 (q0a (dv 0) (q0a q0b q0d))))
  (q0e (q0l 2 sc_law.nd (q0v C._law_machine hr pass1 (q0a (dv 0) (q0a q0b q0d))))
  (q0e (q0l 3 sc_law.nd (q0v C._law_cell_at hr pass1 (q0a (dv 0) (q0a q0b q0d))))
  (q0e (q0l 4 sc_law.nd (q1f (q0u (q0a q06 (q0a q06 (q0a q06 q0d))))))
  (q0e (q04 (q48 (q0j hr) (q0i (dv 1) q0b) (q0i (dv 2) q0b))
  (q0g (q0l 4 sc_law.nd (q1f (q0u (q0a q06 (q0a q06 (q0a q06 q0d)))))))
  q0r)
  (q0e (q04 (q48 (q0j hr) (q0i (dv 1) q0b) (q0i (dv 2) q0b))
  (q0g (q0l 4 sc_law.nd (q1f (q0u (q0a q06 (q0a q06 (q0a q06 q0d)))))))
  q0r)
  (q0e (q04 (q2f (q0j hr) (q0x (dv 3) q0b) q0b)
  (q0g (q0l 1 sc_law.nd (q0v C._law_spoilt hr pass1 (q0a (dv 1) (q0a (q1o (dv 3) q0b) q0d)))))
  q0r)
  (q0e (q04 (q2f (q0j hr) (q0x (dv 3) q0b) q0b)
  (q0g (q0l 2 sc_law.nd (q0v C._law_spoilt hr pass1 (q0a (dv 2) (q0a (q1o (dv 3) q0b) q0d)))))
  q0r)
  (q0e (q04 (q2f (q0j hr) (q0x (dv 3) q0b) q0b)
  (q0g (q0l 4 sc_law.nd (q1f (q0u (q0a q06 (q0a q06 (q0a q06 q0d)))))))
  q0r)
  (q0e (q0l 5 sc_law.nd (q1f (q0u (q0a (q0v C._law_copy hr pass1 (q0a (dv 1) q0d)) (q0a (q0v C._law_copy hr pass1 (q0a (dv 2) q0d)) q0d)))))
  (q0e (x2d 6 sc_law.nd (x:="_law_way") (Nf:=["_law_handed"]) (js:=[5]) (sc:=defScope q3b) (N:=["_law_script", "_law_machine_here", "_law_other", "_law_cell", "_law_due", "_law_handed", "_law_found"]) rfl B.b_range (q0a q0b q0d) (by decide +kernel)
   (fun _ _ _ _ _ _=>q5m)
   (fun _ _ _ _ _ _=>(q0v C._law_word hr passE (q0a (q0i (dv 1) q0b) (q0a (q0i (dv 1) q0b) (q0a (dv 0) q0d)))))
   (fun _ _ _ _ _=>q3r 0 (show(["_law_way", "_law_handed"]:List Str).Nodup by decide +kernel)))
  (q0g (q03 (q5j (q3j (q0j hr) (dv 6) (dv 4)) (q5i (q3j (q0j hr) (x25 (q0j hr) hr.gd B.b_repr (q0a (dv 5) q0d)) (x25 (q0j hr) hr.gd B.b_repr (q0a (q1f (q0u (q0a (dv 1) (q0a (dv 2) q0d)))) q0d))))))))))))))))))
theorem y70  (A:Ats K mg):Cal P w K mg base (n+1) "law" ["_law_script"] (spF K (run K a (n+1) q63)):=
 con A.law sc_law (fun ws hw=>(lof q5r hw).1) fun ws hw f cdv A outer s H E Z hr=>⟨_,y0t B M C CH BM MK hr,(lof q5r hw).2⟩
end
theorem allH(A:Ats K mg)(B:Blt mg)(M:Exs K mg a):∀n,CalsH P w K mg base a n
 |0=>⟨trivial,con0H A._law_alone⟩
 |n+1=>⟨trivial,q87 A B M⟩
theorem x2m(B:Blt mg)(M:Exs K mg a)(C:Cals P w K mg base a n)(CH:CalsH P w K mg base a n):LamOk P w K mg base n q1d ["pair"] (run K a (n+1) q0w) where
 sc:=⟨rfl,rfl,rfl,by decide +kernel,by decide +kernel,by decide +kernel,by decide +kernel⟩
 bind:=fun cl pm c' ctv=>us1 fun _=>rfl
 len:=fun ws h=>by
  rw[q31]at h;split at h
  ·assumption
  ·exact absurd rfl h
 body:=fun ws h Z f cd cl A outer s H hr=>⟨q3k K a (run K a n),(q0v C.both_pairs hr passE (q0a (q0i (q0i (dv 1) q0b) (q0i (dv 0) q0b)) (q0a (q0i (q0i (dv 2) q0b) (q0i (dv 0) q0b)) q0d))),by
  rw[q31]at h |-;split at h
  ·rename_i hl;rw[if_pos hl]
  ·exact absurd rfl h⟩
theorem okl(B:Blt mg)(M:Exs K mg a)(C:Cals P w K mg base a n)(CH:CalsH P w K mg base a n):FnV P w K mg base (CX1 P w) (n+1) (spV K lams (run K a (n+1))):=y7x fun i l h=>by
 unfold lams at h;split at h
 ·cases h;exact⟨_,x2m B M C CH⟩
 ·cases h
theorem all(A:Ats K mg)(B:Blt mg)(M:Exs K mg a)(BM:BMain base mg)(MK:Mks K mg):∀n,Cals P w K mg base a n
 |0=>⟨con0 A.rows_many,con0 A.check_machine,con0 A.is_state,con0 A.come_to,con0 A.woven,con0 A.check_both,con0 A.both_pairs,con0 A.told_machines,con0 A.check_like,con0 A.rows_to,con0 A.closed,con0 A.stays_within,con0 A._law_cell_at,con0 A._law_mixed,con0 A._law_row,con0 A._law_rows_of,con0 A._law_machine,con0 A._law_copy,con0 A._law_alone,con0 A._law_spoilt,con0 A._law_word,con0 A.law,fnV0⟩
 |n+1=>⟨x1s B M (all A B M BM MK n) (allH A B M n) BM MK A,q7r B M (all A B M BM MK n) (allH A B M n) BM MK A,x2k B M (all A B M BM MK n) (allH A B M n) BM MK A,x4m B M (all A B M BM MK n) (allH A B M n) BM MK A,x9z B M (all A B M BM MK n) (allH A B M n) BM MK A,x0k B M (all A B M BM MK n) (allH A B M n) BM MK A,x0l B M (all A B M BM MK n) (allH A B M n) BM MK A,q7s B M (all A B M BM MK n) (allH A B M n) BM MK A,x0m B M (all A B M BM MK n) (allH A B M n) BM MK A,x4n B M (all A B M BM MK n) (allH A B M n) BM MK A,x6y B M (all A B M BM MK n) (allH A B M n) BM MK A,q8f B M (all A B M BM MK n) (allH A B M n) BM MK A,q8g B M (all A B M BM MK n) (allH A B M n) BM MK A,x0n B M (all A B M BM MK n) (allH A B M n) BM MK A,x2l B M (all A B M BM MK n) (allH A B M n) BM MK A,q8h B M (all A B M BM MK n) (allH A B M n) BM MK A,q8i B M (all A B M BM MK n) (allH A B M n) BM MK A,x1t B M (all A B M BM MK n) (allH A B M n) BM MK A,x0o B M (all A B M BM MK n) (allH A B M n) BM MK A,q88 B M (all A B M BM MK n) (allH A B M n) BM MK A,x1u B M (all A B M BM MK n) (allH A B M n) BM MK A,y70 B M (all A B M BM MK n) (allH A B M n) BM MK A,okl B M (all A B M BM MK n) (allH A B M n)⟩
theorem law_fn{f:Addr}{fd:FuncData}(A:Ats K mg)(B:Blt mg)(M:Exs K mg a)(BM:BMain base mg)(MK:Mks K mg)(F:Fun K "law" "law" q3b f fd)(n:Nat):FnOk P w K mg base (CX1 P w) (n+1) f fd ["_law_script"] (spF K (run K a (n+1) q63)):=
 conF F sc_law (fun ws hw=>(lof q5r hw).1) fun ws hw cdv A' outer s H E Z hr=>⟨_,y0t B M (all A B M BM MK n) (allH A B M n) BM MK hr,(lof q5r hw).2⟩
end
theorem mk{l:PySem.W.OpenLaw}{w:World}{h:Heap}{fa:Addr}(X:K.In h)(G:h.Ns mainGlobals mg)(hfa:mg "law"=some (.ref fa))
  {f0:Addr}{od0 an0:Option Addr}{sl0:Array (Option Value)}{oc0 kV0 dc0 pm0 cd0 ct0:Value}
  {f1:Addr}{od1 an1:Option Addr}{sl1:Array (Option Value)}{oc1 kV1 dc1 pm1 cd1 ct1:Value}
  {f2:Addr}{od2 an2:Option Addr}{sl2:Array (Option Value)}{oc2 kV2 dc2 pm2 cd2 ct2:Value}
  {f3:Addr}{od3 an3:Option Addr}{sl3:Array (Option Value)}{oc3 kV3 dc3 pm3 cd3 ct3:Value}
  {f4:Addr}{od4 an4:Option Addr}{sl4:Array (Option Value)}{oc4 kV4 dc4 pm4 cd4 ct4:Value}
  {f5:Addr}{od5 an5:Option Addr}{sl5:Array (Option Value)}{oc5 kV5 dc5 pm5 cd5 ct5:Value}
  {f6:Addr}{od6 an6:Option Addr}{sl6:Array (Option Value)}{oc6 kV6 dc6 pm6 cd6 ct6:Value}
  {f7:Addr}{od7 an7:Option Addr}{sl7:Array (Option Value)}{oc7 kV7 dc7 pm7 cd7 ct7:Value}
  {f8:Addr}{od8 an8:Option Addr}{sl8:Array (Option Value)}{oc8 kV8 dc8 pm8 cd8 ct8:Value}
  {f9:Addr}{od9 an9:Option Addr}{sl9:Array (Option Value)}{oc9 kV9 dc9 pm9 cd9 ct9:Value}
  {f10:Addr}{od10 an10:Option Addr}{sl10:Array (Option Value)}{oc10 kV10 dc10 pm10 cd10 ct10:Value}
  {f11:Addr}{od11 an11:Option Addr}{sl11:Array (Option Value)}{oc11 kV11 dc11 pm11 cd11 ct11:Value}
  {f12:Addr}{od12 an12:Option Addr}{sl12:Array (Option Value)}{oc12 kV12 dc12 pm12 cd12 ct12:Value}
  {f13:Addr}{od13 an13:Option Addr}{sl13:Array (Option Value)}{oc13 kV13 dc13 pm13 cd13 ct13:Value}
  {f14:Addr}{od14 an14:Option Addr}{sl14:Array (Option Value)}{oc14 kV14 dc14 pm14 cd14 ct14:Value}
  {f15:Addr}{od15 an15:Option Addr}{sl15:Array (Option Value)}{oc15 kV15 dc15 pm15 cd15 ct15:Value}
  {f16:Addr}{od16 an16:Option Addr}{sl16:Array (Option Value)}{oc16 kV16 dc16 pm16 cd16 ct16:Value}
  {f17:Addr}{od17 an17:Option Addr}{sl17:Array (Option Value)}{oc17 kV17 dc17 pm17 cd17 ct17:Value}
  {f18:Addr}{od18 an18:Option Addr}{sl18:Array (Option Value)}{oc18 kV18 dc18 pm18 cd18 ct18:Value}
  {f19:Addr}{od19 an19:Option Addr}{sl19:Array (Option Value)}{oc19 kV19 dc19 pm19 cd19 ct19:Value}
  {f20:Addr}{od20 an20:Option Addr}{sl20:Array (Option Value)}{oc20 kV20 dc20 pm20 cd20 ct20:Value}
  {f21:Addr}{od21 an21:Option Addr}{sl21:Array (Option Value)}{oc21 kV21 dc21 pm21 cd21 ct21:Value}
  {A_CircuitError:Addr}
  {A_NoPlace:Addr}
  {A_NoName:Addr}
  {A_BadText:Addr}
  {A_NoRow:Addr}
  {A_NoTable:Addr}
  {A_UnlikeSizes:Addr}
  {A_TooGreat:Addr}
  {A_NoMachine:Addr}
  {A_BadSheet:Addr}
  {cc4 PP4:Addr}
  (a0:PySem.W.nsIn K mainGlobals "rows_many"=some (some (.ref f0)))
  (l0:K.lookup f0=some ⟨oc0,od0,.func (PySem.W.fnOf "rows_many" "rows_many" (defArgs q2j) (defBody q2j) (defScope q2j) .none kV0 dc0 pm0 an0 cd0 ct0),sl0⟩)
  (c0:PySem.W.codeIn K cd0 "rows_many"=true)
  (k0:keepIn K (.ref f0)=true)
  (a1:PySem.W.nsIn K mainGlobals "check_machine"=some (some (.ref f1)))
  (l1:K.lookup f1=some ⟨oc1,od1,.func (PySem.W.fnOf "check_machine" "check_machine" (defArgs q1v) (defBody q1v) (defScope q1v) .none kV1 dc1 pm1 an1 cd1 ct1),sl1⟩)
  (c1:PySem.W.codeIn K cd1 "check_machine"=true)
  (k1:keepIn K (.ref f1)=true)
  (a2:PySem.W.nsIn K mainGlobals "is_state"=some (some (.ref f2)))
  (l2:K.lookup f2=some ⟨oc2,od2,.func (PySem.W.fnOf "is_state" "is_state" (defArgs q2v) (defBody q2v) (defScope q2v) .none kV2 dc2 pm2 an2 cd2 ct2),sl2⟩)
  (c2:PySem.W.codeIn K cd2 "is_state"=true)
  (k2:keepIn K (.ref f2)=true)
  (a3:PySem.W.nsIn K mainGlobals "come_to"=some (some (.ref f3)))
  (l3:K.lookup f3=some ⟨oc3,od3,.func (PySem.W.fnOf "come_to" "come_to" (defArgs q23) (defBody q23) (defScope q23) .none kV3 dc3 pm3 an3 cd3 ct3),sl3⟩)
  (c3:PySem.W.codeIn K cd3 "come_to"=true)
  (k3:keepIn K (.ref f3)=true)
  (a4:PySem.W.nsIn K mainGlobals "woven"=some (some (.ref f4)))
  (l4:K.lookup f4=some ⟨oc4,od4,.func (PySem.W.fnOf "woven" "woven" (defArgs q3a) (defBody q3a) (defScope q3a) .none kV4 dc4 pm4 an4 cd4 ct4),sl4⟩)
  (c4:PySem.W.codeIn K cd4 "woven"=true)
  (k4:keepIn K (.ref f4)=true)
  (a5:PySem.W.nsIn K mainGlobals "check_both"=some (some (.ref f5)))
  (l5:K.lookup f5=some ⟨oc5,od5,.func (PySem.W.fnOf "check_both" "check_both" (defArgs q2b) (defBody q2b) (defScope q2b) .none kV5 dc5 pm5 an5 cd5 ct5),sl5⟩)
  (c5:PySem.W.codeIn K cd5 "check_both"=true)
  (k5:keepIn K (.ref f5)=true)
  (a6:PySem.W.nsIn K mainGlobals "both_pairs"=some (some (.ref f6)))
  (l6:K.lookup f6=some ⟨oc6,od6,.func (PySem.W.fnOf "both_pairs" "both_pairs" (defArgs q15) (defBody q15) (defScope q15) .none kV6 dc6 pm6 an6 cd6 ct6),sl6⟩)
  (c6:PySem.W.codeIn K cd6 "both_pairs"=true)
  (k6:keepIn K (.ref f6)=true)
  (a7:PySem.W.nsIn K mainGlobals "told_machines"=some (some (.ref f7)))
  (l7:K.lookup f7=some ⟨oc7,od7,.func (PySem.W.fnOf "told_machines" "told_machines" (defArgs q1w) (defBody q1w) (defScope q1w) .none kV7 dc7 pm7 an7 cd7 ct7),sl7⟩)
  (c7:PySem.W.codeIn K cd7 "told_machines"=true)
  (k7:keepIn K (.ref f7)=true)
  (a8:PySem.W.nsIn K mainGlobals "check_like"=some (some (.ref f8)))
  (l8:K.lookup f8=some ⟨oc8,od8,.func (PySem.W.fnOf "check_like" "check_like" (defArgs q2c) (defBody q2c) (defScope q2c) .none kV8 dc8 pm8 an8 cd8 ct8),sl8⟩)
  (c8:PySem.W.codeIn K cd8 "check_like"=true)
  (k8:keepIn K (.ref f8)=true)
  (a9:PySem.W.nsIn K mainGlobals "rows_to"=some (some (.ref f9)))
  (l9:K.lookup f9=some ⟨oc9,od9,.func (PySem.W.fnOf "rows_to" "rows_to" (defArgs q24) (defBody q24) (defScope q24) .none kV9 dc9 pm9 an9 cd9 ct9),sl9⟩)
  (c9:PySem.W.codeIn K cd9 "rows_to"=true)
  (k9:keepIn K (.ref f9)=true)
  (a10:PySem.W.nsIn K mainGlobals "closed"=some (some (.ref f10)))
  (l10:K.lookup f10=some ⟨oc10,od10,.func (PySem.W.fnOf "closed" "closed" (defArgs q25) (defBody q25) (defScope q25) .none kV10 dc10 pm10 an10 cd10 ct10),sl10⟩)
  (c10:PySem.W.codeIn K cd10 "closed"=true)
  (k10:keepIn K (.ref f10)=true)
  (a11:PySem.W.nsIn K mainGlobals "stays_within"=some (some (.ref f11)))
  (l11:K.lookup f11=some ⟨oc11,od11,.func (PySem.W.fnOf "stays_within" "stays_within" (defArgs q1z) (defBody q1z) (defScope q1z) .none kV11 dc11 pm11 an11 cd11 ct11),sl11⟩)
  (c11:PySem.W.codeIn K cd11 "stays_within"=true)
  (k11:keepIn K (.ref f11)=true)
  (a12:PySem.W.nsIn K mainGlobals "_law_cell_at"=some (some (.ref f12)))
  (l12:K.lookup f12=some ⟨oc12,od12,.func (PySem.W.fnOf "_law_cell_at" "_law_cell_at" (defArgs q10) (defBody q10) (defScope q10) .none kV12 dc12 pm12 an12 cd12 ct12),sl12⟩)
  (c12:PySem.W.codeIn K cd12 "_law_cell_at"=true)
  (k12:keepIn K (.ref f12)=true)
  (a13:PySem.W.nsIn K mainGlobals "_law_mixed"=some (some (.ref f13)))
  (l13:K.lookup f13=some ⟨oc13,od13,.func (PySem.W.fnOf "_law_mixed" "_law_mixed" (defArgs q2d) (defBody q2d) (defScope q2d) .none kV13 dc13 pm13 an13 cd13 ct13),sl13⟩)
  (c13:PySem.W.codeIn K cd13 "_law_mixed"=true)
  (k13:keepIn K (.ref f13)=true)
  (a14:PySem.W.nsIn K mainGlobals "_law_row"=some (some (.ref f14)))
  (l14:K.lookup f14=some ⟨oc14,od14,.func (PySem.W.fnOf "_law_row" "_law_row" (defArgs q2w) (defBody q2w) (defScope q2w) .none kV14 dc14 pm14 an14 cd14 ct14),sl14⟩)
  (c14:PySem.W.codeIn K cd14 "_law_row"=true)
  (k14:keepIn K (.ref f14)=true)
  (a15:PySem.W.nsIn K mainGlobals "_law_rows_of"=some (some (.ref f15)))
  (l15:K.lookup f15=some ⟨oc15,od15,.func (PySem.W.fnOf "_law_rows_of" "_law_rows_of" (defArgs q11) (defBody q11) (defScope q11) .none kV15 dc15 pm15 an15 cd15 ct15),sl15⟩)
  (c15:PySem.W.codeIn K cd15 "_law_rows_of"=true)
  (k15:keepIn K (.ref f15)=true)
  (a16:PySem.W.nsIn K mainGlobals "_law_machine"=some (some (.ref f16)))
  (l16:K.lookup f16=some ⟨oc16,od16,.func (PySem.W.fnOf "_law_machine" "_law_machine" (defArgs q12) (defBody q12) (defScope q12) .none kV16 dc16 pm16 an16 cd16 ct16),sl16⟩)
  (c16:PySem.W.codeIn K cd16 "_law_machine"=true)
  (k16:keepIn K (.ref f16)=true)
  (a17:PySem.W.nsIn K mainGlobals "_law_copy"=some (some (.ref f17)))
  (l17:K.lookup f17=some ⟨oc17,od17,.func (PySem.W.fnOf "_law_copy" "_law_copy" (defArgs q19) (defBody q19) (defScope q19) .none kV17 dc17 pm17 an17 cd17 ct17),sl17⟩)
  (c17:PySem.W.codeIn K cd17 "_law_copy"=true)
  (k17:keepIn K (.ref f17)=true)
  (a18:PySem.W.nsIn K mainGlobals "_law_alone"=some (some (.ref f18)))
  (l18:K.lookup f18=some ⟨oc18,od18,.func (PySem.W.fnOf "_law_alone" "_law_alone" (defArgs q2e) (defBody q2e) (defScope q2e) .none kV18 dc18 pm18 an18 cd18 ct18),sl18⟩)
  (c18:PySem.W.codeIn K cd18 "_law_alone"=true)
  (k18:keepIn K (.ref f18)=true)
  (a19:PySem.W.nsIn K mainGlobals "_law_spoilt"=some (some (.ref f19)))
  (l19:K.lookup f19=some ⟨oc19,od19,.func (PySem.W.fnOf "_law_spoilt" "_law_spoilt" (defArgs q1y) (defBody q1y) (defScope q1y) .none kV19 dc19 pm19 an19 cd19 ct19),sl19⟩)
  (c19:PySem.W.codeIn K cd19 "_law_spoilt"=true)
  (k19:keepIn K (.ref f19)=true)
  (a20:PySem.W.nsIn K mainGlobals "_law_word"=some (some (.ref f20)))
  (l20:K.lookup f20=some ⟨oc20,od20,.func (PySem.W.fnOf "_law_word" "_law_word" (defArgs q2k) (defBody q2k) (defScope q2k) .none kV20 dc20 pm20 an20 cd20 ct20),sl20⟩)
  (c20:PySem.W.codeIn K cd20 "_law_word"=true)
  (k20:keepIn K (.ref f20)=true)
  (a21:PySem.W.nsIn K mainGlobals "law"=some (some (.ref f21)))
  (l21:K.lookup f21=some ⟨oc21,od21,.func (PySem.W.fnOf "law" "law" (defArgs q3b) (defBody q3b) (defScope q3b) .none kV21 dc21 pm21 an21 cd21 ct21),sl21⟩)
  (c21:PySem.W.codeIn K cd21 "law"=true)
  (k21:keepIn K (.ref f21)=true)
  (v4:cd4=.ref cc4)
  (h4:codeHdIn K cc4 PP4=true)
  (m4:(mainGlobals,markO PP4 (("woven"++".<locals>.")++"<lambda>"))∈K)
  (n_CircuitError:PySem.W.nsIn K mainGlobals "CircuitError"=some (some (.ref A_CircuitError)))
  (n_NoPlace:PySem.W.nsIn K mainGlobals "NoPlace"=some (some (.ref A_NoPlace)))
  (n_NoName:PySem.W.nsIn K mainGlobals "NoName"=some (some (.ref A_NoName)))
  (n_BadText:PySem.W.nsIn K mainGlobals "BadText"=some (some (.ref A_BadText)))
  (n_NoRow:PySem.W.nsIn K mainGlobals "NoRow"=some (some (.ref A_NoRow)))
  (n_NoTable:PySem.W.nsIn K mainGlobals "NoTable"=some (some (.ref A_NoTable)))
  (n_UnlikeSizes:PySem.W.nsIn K mainGlobals "UnlikeSizes"=some (some (.ref A_UnlikeSizes)))
  (n_TooGreat:PySem.W.nsIn K mainGlobals "TooGreat"=some (some (.ref A_TooGreat)))
  (n_NoMachine:PySem.W.nsIn K mainGlobals "NoMachine"=some (some (.ref A_NoMachine)))
  (n_BadSheet:PySem.W.nsIn K mainGlobals "BadSheet"=some (some (.ref A_BadSheet)))
  (z_ValueError:PySem.W.nsIn K mainGlobals "ValueError"=some none)
  (z_all:PySem.W.nsIn K mainGlobals "all"=some none)
  (z_int:PySem.W.nsIn K mainGlobals "int"=some none)
  (z_isinstance:PySem.W.nsIn K mainGlobals "isinstance"=some none)
  (z_len:PySem.W.nsIn K mainGlobals "len"=some none)
  (z_list:PySem.W.nsIn K mainGlobals "list"=some none)
  (z_min:PySem.W.nsIn K mainGlobals "min"=some none)
  (z_range:PySem.W.nsIn K mainGlobals "range"=some none)
  (z_repr:PySem.W.nsIn K mainGlobals "repr"=some none)
  (z_reversed:PySem.W.nsIn K mainGlobals "reversed"=some none)
  (z_tuple:PySem.W.nsIn K mainGlobals "tuple"=some none)
  (z_zip:PySem.W.nsIn K mainGlobals "zip"=some none)
  (e_NoMachine:excIn K A_NoMachine A_CircuitError=true)
  (e_UnlikeSizes:excIn K A_UnlikeSizes A_CircuitError=true)
  (c_NoMachine:excClsIn K A_NoMachine=true)
  (x_NoMachine_NoMachine:exmOne K (.ref A_NoMachine) (.ref A_NoMachine)=some true)
  (x_NoMachine_UnlikeSizes:exmOne K (.ref A_NoMachine) (.ref A_UnlikeSizes)=some false)
  (k_NoMachine_NoName:kitOne K (.ref A_NoMachine) (.ref A_NoName)=some false)
  (k_NoMachine_BadText:kitOne K (.ref A_NoMachine) (.ref A_BadText)=some false)
  (k_NoMachine_NoRow:kitOne K (.ref A_NoMachine) (.ref A_NoRow)=some false)
  (k_NoMachine_NoTable:kitOne K (.ref A_NoMachine) (.ref A_NoTable)=some false)
  (k_NoMachine_TooGreat:kitOne K (.ref A_NoMachine) (.ref A_TooGreat)=some false)
  (k_NoMachine_BadSheet:kitOne K (.ref A_NoMachine) (.ref A_BadSheet)=some false)
  (k_NoMachine_NoPlace:kitOne K (.ref A_NoMachine) (.ref A_NoPlace)=some false)
  (k_NoMachine_UnlikeSizes:kitOne K (.ref A_NoMachine) (.ref A_UnlikeSizes)=some false)
  (k_NoMachine_NoMachine:kitOne K (.ref A_NoMachine) (.ref A_NoMachine)=some true)
  (k_NoMachine_CircuitError:kitOne K (.ref A_NoMachine) (.ref A_CircuitError)=some true)
  (k_NoMachine_ValueError:kitOne K (.ref A_NoMachine) (.type "ValueError")=some true)
  (c_UnlikeSizes:excClsIn K A_UnlikeSizes=true)
  (x_UnlikeSizes_NoMachine:exmOne K (.ref A_UnlikeSizes) (.ref A_NoMachine)=some false)
  (x_UnlikeSizes_UnlikeSizes:exmOne K (.ref A_UnlikeSizes) (.ref A_UnlikeSizes)=some true)
  (k_UnlikeSizes_NoName:kitOne K (.ref A_UnlikeSizes) (.ref A_NoName)=some false)
  (k_UnlikeSizes_BadText:kitOne K (.ref A_UnlikeSizes) (.ref A_BadText)=some false)
  (k_UnlikeSizes_NoRow:kitOne K (.ref A_UnlikeSizes) (.ref A_NoRow)=some false)
  (k_UnlikeSizes_NoTable:kitOne K (.ref A_UnlikeSizes) (.ref A_NoTable)=some false)
  (k_UnlikeSizes_TooGreat:kitOne K (.ref A_UnlikeSizes) (.ref A_TooGreat)=some false)
  (k_UnlikeSizes_BadSheet:kitOne K (.ref A_UnlikeSizes) (.ref A_BadSheet)=some false)
  (k_UnlikeSizes_NoPlace:kitOne K (.ref A_UnlikeSizes) (.ref A_NoPlace)=some false)
  (k_UnlikeSizes_UnlikeSizes:kitOne K (.ref A_UnlikeSizes) (.ref A_UnlikeSizes)=some true)
  (k_UnlikeSizes_NoMachine:kitOne K (.ref A_UnlikeSizes) (.ref A_NoMachine)=some false)
  (k_UnlikeSizes_CircuitError:kitOne K (.ref A_UnlikeSizes) (.ref A_CircuitError)=some true)
  (k_UnlikeSizes_ValueError:kitOne K (.ref A_UnlikeSizes) (.type "ValueError")=some true)
  (nt:NoTup K)
  (n:Nat)(hL:∀a:Adr,Exs K mg a->∀ns:List Int,ns.length<=63->run K a (n+1) q63 [.lst (ns.map .int)]=.ok (.fr (.bl true))):
  ∃fd:FuncData,(∀(s:Shared)(v:Value),BindsTo s fd ⟨[v],[]⟩ [("_law_script", v)])/\∀base:Heap,K.In base->base.Ns mainGlobals mg->BMain base mg->FnOk l.prog w K mg base (CX1 l.prog w) (n+1) fa fd ["_law_script"] (spLaw K):=by
 have e:=hfa.symm.trans (mg_of X G a21);cases e
 have A:Ats K mg:=⟨⟨⟨_,_,q0n (st:=q2j) l0 c0 k0,mg_of X G a0,(q0n (st:=q2j) l0 c0 k0).binds (ps:=["many"]) fun _ _ _ _ _ _=>us1 fun _=>rfl⟩⟩,
  ⟨⟨_,_,q0n (st:=q1v) l1 c1 k1,mg_of X G a1,(q0n (st:=q1v) l1 c1 k1).binds (ps:=["machine"]) fun _ _ _ _ _ _=>us1 fun _=>rfl⟩⟩,
  ⟨⟨_,_,q0n (st:=q2v) l2 c2 k2,mg_of X G a2,(q0n (st:=q2v) l2 c2 k2).binds (ps:=["machine", "number"]) fun _ _ _ _ _ _=>us2 fun _ _=>rfl⟩⟩,
  ⟨⟨_,_,q0n (st:=q23) l3 c3 k3,mg_of X G a3,(q0n (st:=q23) l3 c3 k3).binds (ps:=["begin", "pairs_of"]) fun _ _ _ _ _ _=>us2 fun _ _=>rfl⟩⟩,
  ⟨⟨_,_,q0n (st:=q3a) l4 c4 k4,mg_of X G a4,(q0n (st:=q3a) l4 c4 k4).binds (ps:=["machine", "other"]) fun _ _ _ _ _ _=>us2 fun _ _=>rfl⟩⟩,
  ⟨⟨_,_,q0n (st:=q2b) l5 c5 k5,mg_of X G a5,(q0n (st:=q2b) l5 c5 k5).binds (ps:=["machine", "other"]) fun _ _ _ _ _ _=>us2 fun _ _=>rfl⟩⟩,
  ⟨⟨_,_,q0n (st:=q15) l6 c6 k6,mg_of X G a6,(q0n (st:=q15) l6 c6 k6).binds (ps:=["state", "other"]) fun _ _ _ _ _ _=>us2 fun _ _=>rfl⟩⟩,
  ⟨⟨_,_,q0n (st:=q1w) l7 c7 k7,mg_of X G a7,(q0n (st:=q1w) l7 c7 k7).binds (ps:=["machine", "other"]) fun _ _ _ _ _ _=>us2 fun _ _=>rfl⟩⟩,
  ⟨⟨_,_,q0n (st:=q2c) l8 c8 k8,mg_of X G a8,(q0n (st:=q2c) l8 c8 k8).binds (ps:=["machine", "other"]) fun _ _ _ _ _ _=>us2 fun _ _=>rfl⟩⟩,
  ⟨⟨_,_,q0n (st:=q24) l9 c9 k9,mg_of X G a9,(q0n (st:=q24) l9 c9 k9).binds (ps:=["came", "pair"]) fun _ _ _ _ _ _=>us2 fun _ _=>rfl⟩⟩,
  ⟨⟨_,_,q0n (st:=q25) l10 c10 k10,mg_of X G a10,(q0n (st:=q25) l10 c10 k10).binds (ps:=["machine", "other", "pairs"]) fun _ _ _ _ _ _=>us3 fun _ _ _=>rfl⟩⟩,
  ⟨⟨_,_,q0n (st:=q1z) l11 c11 k11,mg_of X G a11,(q0n (st:=q1z) l11 c11 k11).binds (ps:=["state", "other", "known"]) fun _ _ _ _ _ _=>us3 fun _ _ _=>rfl⟩⟩,
  ⟨⟨_,_,q0n (st:=q10) l12 c12 k12,mg_of X G a12,(q0n (st:=q10) l12 c12 k12).binds (ps:=["_law_script", "_law_k"]) fun _ _ _ _ _ _=>us2 fun _ _=>rfl⟩⟩,
  ⟨⟨_,_,q0n (st:=q2d) l13 c13 k13,mg_of X G a13,(q0n (st:=q2d) l13 c13 k13).binds (ps:=["_law_cell", "_law_k"]) fun _ _ _ _ _ _=>us2 fun _ _=>rfl⟩⟩,
  ⟨⟨_,_,q0n (st:=q2w) l14 c14 k14,mg_of X G a14,(q0n (st:=q2w) l14 c14 k14).binds (ps:=["_law_number", "_law_many"]) fun _ _ _ _ _ _=>us2 fun _ _=>rfl⟩⟩,
  ⟨⟨_,_,q0n (st:=q11) l15 c15 k15,mg_of X G a15,(q0n (st:=q11) l15 c15 k15).binds (ps:=["_law_many"]) fun _ _ _ _ _ _=>us1 fun _=>rfl⟩⟩,
  ⟨⟨_,_,q0n (st:=q12) l16 c16 k16,mg_of X G a16,(q0n (st:=q12) l16 c16 k16).binds (ps:=["_law_script", "_law_at"]) fun _ _ _ _ _ _=>us2 fun _ _=>rfl⟩⟩,
  ⟨⟨_,_,q0n (st:=q19) l17 c17 k17,mg_of X G a17,(q0n (st:=q19) l17 c17 k17).binds (ps:=["_law_machine_here"]) fun _ _ _ _ _ _=>us1 fun _=>rfl⟩⟩,
  ⟨⟨_,_,q0n (st:=q2e) l18 c18 k18,mg_of X G a18,(q0n (st:=q2e) l18 c18 k18).binds (ps:=["_law_e", "_law_due"]) fun _ _ _ _ _ _=>us2 fun _ _=>rfl⟩⟩,
  ⟨⟨_,_,q0n (st:=q1y) l19 c19 k19,mg_of X G a19,(q0n (st:=q1y) l19 c19 k19).binds (ps:=["_law_machine_here", "_law_cell"]) fun _ _ _ _ _ _=>us2 fun _ _=>rfl⟩⟩,
  ⟨⟨_,_,q0n (st:=q2k) l20 c20 k20,mg_of X G a20,(q0n (st:=q2k) l20 c20 k20).binds (ps:=["_law_machine_here", "_law_other", "_law_way"]) fun _ _ _ _ _ _=>us3 fun _ _ _=>rfl⟩⟩,
  ⟨⟨_,_,q0n (st:=q3b) l21 c21 k21,mg_of X G a21,(q0n (st:=q3b) l21 c21 k21).binds (ps:=["_law_script"]) fun _ _ _ _ _ _=>us1 fun _=>rfl⟩⟩⟩
 have B:Blt mg:=⟨mg_none_of X G z_ValueError,mg_none_of X G z_all,mg_none_of X G z_int,mg_none_of X G z_isinstance,mg_none_of X G z_len,mg_none_of X G z_list,mg_none_of X G z_min,mg_none_of X G z_range,mg_none_of X G z_repr,mg_none_of X G z_reversed,mg_none_of X G z_tuple,mg_none_of X G z_zip⟩;have M:Exs K mg ⟨A_CircuitError,A_NoPlace,A_NoName,A_BadText,A_NoRow,A_NoTable,A_UnlikeSizes,A_TooGreat,A_NoMachine,A_BadSheet⟩:=⟨trivial,mg_of X G n_CircuitError,mg_of X G n_NoPlace,mg_of X G n_NoName,mg_of X G n_BadText,mg_of X G n_NoRow,mg_of X G n_NoTable,mg_of X G n_UnlikeSizes,mg_of X G n_TooGreat,mg_of X G n_NoMachine,mg_of X G n_BadSheet,e_NoMachine,e_UnlikeSizes,c_NoMachine,x_NoMachine_NoMachine,x_NoMachine_UnlikeSizes,k_NoMachine_NoName,k_NoMachine_BadText,k_NoMachine_NoRow,k_NoMachine_NoTable,k_NoMachine_TooGreat,k_NoMachine_BadSheet,k_NoMachine_NoPlace,k_NoMachine_UnlikeSizes,k_NoMachine_NoMachine,k_NoMachine_CircuitError,k_NoMachine_ValueError,c_UnlikeSizes,x_UnlikeSizes_NoMachine,x_UnlikeSizes_UnlikeSizes,k_UnlikeSizes_NoName,k_UnlikeSizes_BadText,k_UnlikeSizes_NoRow,k_UnlikeSizes_NoTable,k_UnlikeSizes_TooGreat,k_UnlikeSizes_BadSheet,k_UnlikeSizes_NoPlace,k_UnlikeSizes_UnlikeSizes,k_UnlikeSizes_NoMachine,k_UnlikeSizes_CircuitError,k_UnlikeSizes_ValueError,nt⟩
 have MK:Mks K mg:=⟨fun f oc od fd sl e1 e2=>by
  have z:=(mg_of X G a4).symm.trans e1;cases z;rw[l4]at e2;cases e2;exact⟨cc4,PP4,_,v4,h4,m4⟩⟩
 exact⟨_,fun s v=>.of_eq rfl,fun base _ _ BM=>(law_fn A B M BM MK (q0n (st:=q3b) l21 c21 k21) n).imp fun vs H Q E q=>x8f (hL _ M) q⟩
local macro_rules | `(tactic| walk_at "den") => do
 let l:=(("x9w x9x x9y x9q x6r x4j q55 x9r x9n y3x y3y y3z y30 y3l x4f x4g y7l y7m y7n y7o y3m y7p y3n y3o y3p y3q y3r y7q y3s y3t y3u x6l x9h x8h y25 y26 y27 y28 x9e x6g x6h x6c x39 x6d x6e x4a x4b x4c x2g x9c x6f x9d y23 y24 y22 x9a y7g x86 x87 x88 x89 x8v x5y x5z y2x x8x x8y x8z x80 x81 x82 x53 y7a x37 x83 x84 y5u y5v y5w y5x y5y y5z y50 y16 y1w y1x y1y x8g y5r y5s y5t y1z y8k y8l y8m y8n y51 x32 x33 x5o y52 y53 y17 dC_s y8o y8p y18 y19 y54 y55 y8q y56 y2a y57 y58 y8r y59 y2b y6a y6b y8s y8t y2c y8u y2d y6c y2e y6d y6e y2f y2g y2h x8j y2i y2j x8k x5p x8l x5q x8m x8n x5r y6f y2k x5s q6z y2l y2m y2n x22 y2o x8o y6g x5t y8v y6h y6i y6j y2p y6k y8w y8x x8p y8y x5u y2q x8q y6l y6m y2r y2s y2t y2u x8r x34 x35 y6n x8s x5v y2v x8t y6o y6p y6q y6r y6s y2w y6t y6u y8z y80 y81 y82 y83 y84 y85 y86 y87 y88 y89 y9a y9b y9c y9d y9e y9f y6v y6w y6x y6y y6z y60 y61 ix_t ix_l y9g y9h y9i y9j y9k y9l y9m y9n y9o y9p y9q y9r y9s sc_i sc_b sc_s sc_n sl_l at0 at1 at2 y63 rng1 rng2 init Option.map_some Option.bind_some List.map_cons List.map_nil List.length_cons List.length_nil List.replicate_succ List.replicate_zero List.cons_append List.nil_append List.getElem?_cons_zero List.getElem?_cons_succ List.set_cons_zero List.set_cons_succ if_true if_false decide_eq_true_eq reduceIte Bool.false_eq_true ite_true ite_false Nat.reduceSub Nat.reduceAdd Nat.reduceLeDiff Nat.zero_add Nat.le_refl Int.reduceLT Int.reduceLE Int.reduceNeg true_and and_true true_or or_true false_and and_false false_or or_false not_true_eq_false not_false_eq_true decide_true decide_false Bool.not_true Bool.not_false String.reduceEq Nat.reduceEqDiff x8u y68 y69 y9t y9u Int.reduceToNat Int.reducePow Nat.reduceLT cast0 cast1 Int.reduceEq Int.reduceMod Int.reduceDiv Int.reduceAdd Int.reduceSub Int.reduceMul x8i y34 y7y y35 y7z x9t y9x y9y y9z x9u True.intro".splitOn " ").map fun s=>Lean.mkIdent s.toName).toArray
 `(tactic| try simp only [$[$l:ident],*])
theorem q53(n:Nat)(ns:List Int){k:Int}(hk:0<=k):run K a (n+1) q1g [.lst (ns.map .int),.int k]=.ok (.fr (.int (ns.getD k.toNat 0))):=by
 rw[q3m];unfold q3c;walk_at "den"
 by_cases h:k<ns.length
 ·rw[if_pos (by simpa using h),y62 hk]
  have e:(ns.map W.int)[k.toNat]?=some (.int (ns.getD k.toNat 0)):=by
   have:k.toNat<ns.length:=by omega
   simp[List.getD,this]
  rw[e];walk_at "den"
 ·rw[if_neg (by simpa using h)]
  have:ns.getD k.toNat 0=0:=by
   have:¬k.toNat<ns.length:=by omega
   simp[List.getD,this]
  rw[this]
theorem x29{i:Nat}(I:Nat->List S->Prop):∀(ws:List W)(k:Nat)(e:List S),I k e->(∀(j:Nat)(w:W)(e:List S),w∈ws->I j e->∃e',b (e.set i (.fr w))=.nx e'/\I (j+1) e')->∃e',forD i b ws e=.nx e'/\I (k+ws.length) e'
 |[],k,e,h0,_=>⟨e,rfl,h0⟩
 |w::ws,k,e,h0,h=>by
  obtain⟨e1,h1,h2⟩:=h k w e (by simp) h0;obtain⟨e2,h3,h4⟩:=x29 I ws (k+1) e1 h2 fun j u e hu=>h j u e (by simp[hu])
  refine⟨e2,?_,?_⟩
  ·rw[q39,h1,q6z,h3]
  ·rw[w0x];have:k+1+ws.length=k+(ws.length+1):=by omega
   rw[<- this];exact h4
theorem len_range{lo hi:Int}:(rangeW lo hi).length=(hi-lo).toNat:=by simp[rangeW]
noncomputable def mix2(c k:Int):Int:=((c+7919*k)*48271%2147483647*((c+7919*k)*48271%2147483647)+7*((c+7919*k)*48271%2147483647)+k)%2147483629
theorem x1v(n:Nat)(c k:Int):run K a (n+1) q2o [.int c,.int k]=.ok (.fr (.int (mix2 c k))):=by
 rw[q4c];unfold q3y;walk_at "den";rw[if_pos (by omega)];rfl
theorem x90(n:Nat)(c:Int)(m:Nat)(hm:m<=1000):∃bs:List Bool,run K a (n+1) q3u [.int c,.int (m:Int)]=.ok (.fr (.tup (bs.map .bl)))/\bs.length=m:=by
 rw[q47];unfold q4u;walk_at "den";rw[if_pos (q6j (by omega) (by omega))];walk_at "den"
 obtain⟨e',h2,bs,c',z,rfl,hl⟩:=q4t (b:=q45 K a (run K a n)) (i:=3) (lo:=0) (hi:=(m:Int)) m (by omega) (fun j e=>∃(bs:List Bool)(c':Int)(z:S),e=[.fr (.int c'),.fr (.int (m:Int)),.own none (bs.map .bl),z]/\bs.length=j) [.fr (.int c),.fr (.int (m:Int)),.own none [],.no] ⟨[],_,_,rfl,rfl⟩ (by
  rintro j e hj ⟨bs,c',z,rfl,hl⟩;unfold q45;walk_at "den";rw[if_pos (by rw[w0b];omega)];walk_at "den";exact⟨_,rfl,bs++[_],_,_,by rw[w0l];rfl,by simp[hl]⟩)
 rw[h2];walk_at "den";exact⟨bs.reverse,by rw[w3l],by simpa using hl⟩
noncomputable def encB(bs:List Bool):W:=.tup (bs.map .bl)
noncomputable abbrev Pr:=List Bool×Nat
structure Mc where
 m:Nat
 wide:Nat
 states:List (List Pr)
structure Mc.Ok(c:Mc):Prop where
 few:c.m<=3
 wd:c.wide<=12
 pos:0<c.states.length
 most:c.states.length<=20
 st:∀s∈c.states,s.length=2^c.m
 pr:∀s∈c.states,∀p∈s,p.1.length=c.wide/\p.2<c.states.length
noncomputable def bN1(b:Bool):Nat:=if b=true then 1 else 0
noncomputable def numF(row:List Bool):Nat:=row.foldl (fun n b=>2*n+bN1 b) 0
noncomputable def Mc.at(c:Mc)(s:Nat)(row:List Bool):Pr:=(c.states.getD s []).getD (numF row) ([],0)
theorem Mc.Ok.state{c:Mc}(h:c.Ok)(hs:s<c.states.length):c.states.getD s []∈c.states/\c.states[s]?=some (c.states.getD s []):=by
 have e:c.states.getD s []=c.states[s]:=by simp[List.getD,hs]
 rw[e];exact⟨w1r hs,w0d hs⟩
theorem y36{size base goal v:Int}(h1:0<base)(h2:base<=size)(h3:0<=goal)(h4:goal<base):0<(size-1-goal) / base+1/\0<=goal+base*(v%((size-1-goal) / base+1))/\goal+base*(v%((size-1-goal) / base+1))<size:=by
 have q0:0<=(size-1-goal) / base:=Int.ediv_nonneg (by omega) (by omega);have q1:base*((size-1-goal) / base)<=size-1-goal:=Int.mul_ediv_self_le (by omega);generalize (size-1-goal) / base=q at q0 q1;have t0:0<=v%(q+1):=w1z _ (by omega);have t1:v%(q+1)<q+1:=w1w _ (by omega);generalize v%(q+1)=t at t0 t1;have m0:0<=base*t:=Int.mul_nonneg (by omega) t0;have m1:base*t<=base*q:=Int.mul_le_mul_of_nonneg_left (by omega) (by omega);exact⟨by omega,by omega,by omega⟩
noncomputable def encPr(p:Pr):W:=.tup [encB p.1,.int (p.2:Int)]
noncomputable def encSt(s:List Pr):W:=.lst (s.map encPr)
noncomputable def encMc(c:Mc):W:=.tup [.int (c.m:Int),.int (c.wide:Int),.lst (c.states.map encSt)]
theorem x1w(n m:Nat)(hm:m<=100):run K a (n+1) q3f [.int (m:Int)]=.ok (.fr (.int ((2^m:Nat):Int))):=by
 rw[q4p];unfold q4g;walk_at "den";rw[if_pos (q6j (by omega) (by omega))];walk_at "den"
 obtain⟨e',h2,z,rfl⟩:=q4t (b:=q4o K a (run K a n)) (i:=2) (lo:=0) (hi:=(m:Int)) m (by omega) (fun j e=>∃z,e=[.fr (.int (m:Int)),.fr (.int ((2^j:Nat):Int)),z]) [.fr (.int (m:Int)),.fr (.int 1),.no] ⟨.no,rfl⟩ (by
  rintro j e hj ⟨z,rfl⟩;unfold q4o;walk_at "den";refine⟨_,rfl,.fr (.int (0+(j:Int))),?_⟩;rw[Nat.pow_succ,Int.natCast_mul,Int.mul_comm];rfl)
 rw[h2];walk_at "den"
theorem x2n(n:Nat)(c:Mc)(h:s<c.states.length):run K a (n+1) q17 [encMc c,.int (s:Int)]=.ok (.fr (.bl true)):=by
 rw[q3z];unfold q3v encMc;walk_at "den";rw[w0b,if_pos (show(0:Int)<=s by omega),decide_eq_true (show(s:Int)<(c.states.length:Int) by omega)]
theorem x2o(l:List Pr):pairsW (l.map encPr)=some (l.map fun p=>(encB p.1,W.int (p.2:Int))):=by
 induction l with
 |nil=>rfl
 |cons p l ih=>
  rw[w0r,w0r];show(pairsW (l.map encPr)).map _=_;rw[ih];rfl
theorem q7t{i:Nat}(I:List S->Prop):∀(ps:List (W×W))(e:List S),I e->(∀p∈ps,∀e,I e->∃e',b ((e.set i (.fr p.1)).set j (.fr p.2))=.nx e'/\I e')->∃e',forP i j b ps e=.nx e'/\I e'
 |[],e,h,_=>⟨e,rfl,h⟩
 |p::ps,e,h,st=>by
  obtain⟨e1,h1,h2⟩:=st p (by simp) e h;obtain⟨e2,h3,h4⟩:=q7t I ps e1 h2 (fun q hq=>st q (by simp[hq]))
  refine⟨e2,?_,h4⟩;show(b ((e.set i (.fr p.1)).set j (.fr p.2))).turnT (forP i j b ps)=_;rw[h1];exact h3
theorem q1e(c:Mc):ixW (encMc c) (.int 0)=some (.int (c.m:Int)):=rfl
theorem q1p(c:Mc):ixW (encMc c) (.int 1)=some (.int (c.wide:Int)):=rfl
theorem q5s(c:Mc):ixW (encMc c) (.int 2)=some (.lst (c.states.map encSt)):=rfl
theorem q26(n:Nat)(c:Mc)(hc:c.Ok):run K a (n+2) q1t [encMc c]=.ok (.fr .non):=by
 rw[q2l];unfold q2g;walk_at "den";rw[q5s];walk_at "den";rw[q1e];walk_at "den";rw[x1w n c.m (by have:=hc.few;omega)];walk_at "den";rw[w0b,if_neg (by have:=hc.pos;omega)];walk_at "den"
 obtain⟨e',k1,z3,z4,z5,k2⟩:=x29 (i:=3) (b:=q1k K a (run K a (n+1))) (fun _ e=>∃z3 z4 z5,e=[.fr (encMc c),.fr (.lst (c.states.map encSt)),.fr (.int ((2^c.m:Nat):Int)),z3,z4,z5]) (c.states.map encSt) 0 [.fr (encMc c),.fr (.lst (c.states.map encSt)),.fr (.int ((2^c.m:Nat):Int)),.no,.no,.no] ⟨_,_,_,rfl⟩ (by
  rintro j w e hw ⟨z3,z4,z5,rfl⟩;obtain⟨s,hs,rfl⟩:=w0q.mp hw;unfold q1k;simp only[encSt];walk_at "den";rw[w0b,hc.st s hs,if_neg (by simp)];walk_at "den";rw[x2o];walk_at "den"
  obtain⟨e1,h1,z4,z5,rfl⟩:=q7t (i:=4) (j:=5) (b:=q1a K a (run K a (n+1))) (fun e=>∃z4 z5,e=[.fr (encMc c),.fr (.lst (c.states.map encSt)),.fr (.int ((2^c.m:Nat):Int)),.fr (.lst (s.map encPr)),z4,z5]) (s.map fun p=>(encB p.1,W.int (p.2:Int))) [.fr (encMc c),.fr (.lst (c.states.map encSt)),.fr (.int ((2^c.m:Nat):Int)),.fr (.lst (s.map encPr)),z4,z5] ⟨_,_,rfl⟩ (by
   rintro q hq e ⟨z4,z5,rfl⟩;obtain⟨p,hp,rfl⟩:=w0q.mp hq;obtain⟨p1,p2⟩:=hc.pr s hs p hp;unfold q1a;simp only[encB];walk_at "den";rw[q1p];walk_at "den";rw[w0b,p1,if_neg (by simp)];walk_at "den";rw[x2n n c p2];walk_at "den";exact⟨_,rfl,_,_,rfl⟩)
  rw[h1];exact⟨_,rfl,_,_,_,rfl⟩)
 rw[k1,k2];rfl
theorem q8j{c:Mc}(hs:s<c.states.length):atI (c.states.map encSt) (s:Int)=some (encSt (c.states.getD s [])):=by
 refine q3q ?_;rw[w0n,w0d hs];simp[List.getD,hs]
theorem y0u(b:Bool)(m:Nat)(h:m<=100):repW (.lst [.bl b]) (.int (m:Int))=some (.lst ((List.replicate m b).map .bl)):=by
 rw[y7c,if_pos ⟨q6j (by omega) (by omega),by simp;omega⟩,w1x];congr 2
 have:∀k:Nat,(List.replicate k [W.bl b]).flatten=(List.replicate k b).map W.bl:=fun k=>by
  induction k with
  |zero=>rfl
  |succ k ih=>rw[w1c,w1p,ih,w1c];rfl
 exact this _
theorem at4{m:Nat}(h:m<=3):atI [W.int 1,.int 2,.int 4,.int 8] (m:Int)=some (.int ((2^m:Nat):Int)):=by
 have:m=0\/m=1\/m=2\/m=3:=by omega
 rcases this with rfl|rfl|rfl|rfl<;>rfl
theorem x4o(n m:Nat)(h:m<=3):run K a (n+1) q2p [.int (m:Int)]=.ok (.fr (.int ((2^m:Nat):Int))):=by
 rw[q3n];unfold q3d;walk_at "den";rw[at4 h];walk_at "den"
theorem q32{c:Mc}(h:i<c.states.length):c.states.getD i []∈c.states:=by
 have e:c.states.getD i []=c.states[i]:=by simp[List.getD,h]
 rw[e];exact w1r h
theorem x3a:∀x y:List Bool,eqWs (x.map .bl) (y.map .bl)=some (decide (x=y))
 |[],[]=>rfl
 |[],_::_=>rfl
 |_::_,[]=>rfl
 |a::x,b::y=>by
  show(match eqW (.bl a) (.bl b),eqWs (x.map .bl) (y.map .bl)with|some p,some q=>some (p&&q)|_,_=>none)=_;rw[x3a x y];show some ((a==b)&&decide (x=y))=_;congr 1;cases a<;>cases b<;>simp
theorem q8k(p:Pr):ixW (encPr p) (.int 0)=some (encB p.1):=rfl
theorem x6z(p:Pr):ixW (encPr p) (.int 1)=some (.int (p.2:Int)):=rfl
noncomputable def prAt(c:Mc)(i r:Nat):Pr:=(c.states.getD i []).getD r ([],0)
theorem x1x(n:Nat)(z0 z1 z2 z4 z5 z8 z12 z15:S)(kinds k num goal size base:Int)(h1:0<base)(h2:base<=size)(h3:size<=20)(h4:0<=goal)(h5:goal<base)(st:List Pr)(hl:st.length<=100)(bs:List Bool):
  ∃p:Pr,∃z,p.1.length=bs.length/\(p.2:Int)<size/\pair44 K a (run K a (n+2)) [z0,z1,z2,.fr (.int kinds),z4,z5,.fr (.int size),.fr (.int base),z8,.fr (.int k),.own none (st.map encPr),.fr (.int num),z12,.fr (.lst (bs.map .bl)),.fr (.int goal),z15] =
   .nx [z0,z1,z2,.fr (.int kinds),z4,z5,.fr (.int size),.fr (.int base),z8,.fr (.int k),.own none ((st++[p]).map encPr),.fr (.int num),z12,.fr (.lst (bs.map .bl)),.fr (.int goal),z]:=by
 have t:=y36 (size:=size) (base:=base) (goal:=goal) (v:=mix2 (kinds+k) num) h1 h2 h4 h5;unfold pair44;walk_at "den";rw[x1v (n+1)];walk_at "den";rw[if_pos ⟨h1,by omega⟩,if_pos t.1,if_pos (.inl ⟨by omega,by omega⟩),if_pos (by rw[w0b];omega)];obtain⟨q,hq⟩:∃q:Nat,goal+base*(mix2 (kinds+k) num%((size-1-goal) / base+1))=(q:Int):=⟨(goal+base*(mix2 (kinds+k) num%((size-1-goal) / base+1))).toNat,by have:=t.2.1;omega⟩;have t3:=t.2.2;rw[hq]at t3;refine⟨(bs,q),.fr (.int (mix2 (kinds+k) num%((size-1-goal) / base+1))),rfl,t3,?_⟩;rw[hq,w0l];rfl
theorem x1y(n:Nat)(z0 z1 z2 z4 z8 z14 z15:S)(wide:Nat)(hw:wide<=12)(kinds k left size base:Int)(num:Nat)(h1:0<base)(h2:base<=size)(h3:size<=20)(st:List Pr)(hl:st.length<=100)(bs:List Bool)(hb:bs.length=wide):
  ∃p:Pr,∃z13 z14' z15',p.1.length=wide/\(p.2:Int)<size/\goal44 K a (run K a (n+2)) [z0,z1,z2,.fr (.int kinds),z4,.fr (.int (wide:Int)),.fr (.int size),.fr (.int base),z8,.fr (.int k),.own none (st.map encPr),.fr (.int (num:Int)),.fr (.int left),.fr (.lst (bs.map .bl)),z14,z15] =
   .nx [z0,z1,z2,.fr (.int kinds),z4,.fr (.int (wide:Int)),.fr (.int size),.fr (.int base),z8,.fr (.int k),.own none ((st++[p]).map encPr),.fr (.int (num:Int)),.fr (.int left),z13,z14',z15']:=by
 have g0:=w1z (left / 64) (show base≠0 by omega);have g1:=w1w (left / 64) h1;unfold goal44;walk_at "den";rw[if_pos h1];walk_at "den"
 by_cases hc:kinds%3=1
 ·rw[if_pos hc,if_pos h1];walk_at "den";rw[y0u _ _ (by omega)];walk_at "den";rw[if_pos h1];have k0:=w1z k (show base≠0 by omega);have k1:=w1w k h1
  have gg:∃g:Int,atI [W.int (if base-1<k%base+1 then base-1 else k%base+1),W.int 0] (if 1<(num:Int)then 1 else(num:Int))=some (.int g)/\0<=g/\g<base:=by
   by_cases q:num=0
   ·subst q;refine⟨_,rfl,?_,?_⟩<;>split<;>omega
   ·have e:(if 1<(num:Int)then 1 else(num:Int))=1:=by split<;>omega
    rw[e];exact⟨0,rfl,by omega,by omega⟩
  obtain⟨g,e1,e2,e3⟩:=gg;rw[e1];walk_at "den";obtain⟨p,z,p1,p2,p3⟩:=x1x (K:=K) (a:=a) n z0 z1 z2 z4 (.fr (.int (wide:Int))) z8 (.fr (.int left)) z15 kinds k (num:Int) g size base h1 h2 h3 e2 e3 st hl (List.replicate wide (decide (k%base=base-1)));exact⟨p,_,_,z,by rw[p1,w1u],p2,p3⟩
 ·rw[if_neg hc];walk_at "den";obtain⟨p,z,p1,p2,p3⟩:=x1x (K:=K) (a:=a) n z0 z1 z2 z4 (.fr (.int (wide:Int))) z8 (.fr (.int left)) z15 kinds k (num:Int) (left / 64%base) size base h1 h2 h3 g0 g1 st hl bs;exact⟨p,_,_,z,by rw[p1,hb],p2,p3⟩
theorem x91(n:Nat)(ns:List Int)(p:Nat)(z2 z4 z8 z12 z13 z14 z15:S)(wide:Nat)(hw:wide<=12)(kinds k size base:Int)(num:Nat)(h1:0<base)(h2:base<=size)(h3:size<=20)(st:List Pr)(hl:st.length<=100):
  ∃q:Pr,∃z12' z13' z14' z15',q.1.length=wide/\(q.2:Int)<size/\q2x K a (run K a (n+2)) [.fr (.lst (ns.map .int)),.fr (.int (p:Int)),z2,.fr (.int kinds),z4,.fr (.int (wide:Int)),.fr (.int size),.fr (.int base),z8,.fr (.int k),.own none (st.map encPr),.fr (.int (num:Int)),z12,z13,z14,z15] =
   .nx [.fr (.lst (ns.map .int)),.fr (.int (p:Int)),z2,.fr (.int kinds),z4,.fr (.int (wide:Int)),.fr (.int size),.fr (.int base),z8,.fr (.int k),.own none ((st++[q]).map encPr),.fr (.int (num:Int)),z12',z13',z14',z15']:=by
 have k0:=w1z k (show base≠0 by omega);unfold q2x;walk_at "den";rw[if_pos h1];walk_at "den";rw[q53 (n+1) ns (by omega)];walk_at "den";rw[if_pos h1];walk_at "den";rw[x1v (n+1)];walk_at "den";rw[y0u _ _ (by omega)];walk_at "den";generalize mix2 _ _=left
 by_cases hc:left%4=0
 ·rw[if_pos hc];obtain⟨bs,b1,b2⟩:=x90 (K:=K) (a:=a) (n+1) (left / 4) wide (by omega);rw[b1];walk_at "den";obtain⟨q,y13,y14,y15,q1,q2,q3⟩:=x1y (K:=K) (a:=a) n (.fr (.lst (ns.map .int))) (.fr (.int (p:Int))) z2 z4 z8 z14 z15 wide hw kinds k left size base num h1 h2 h3 st hl bs b2;exact⟨q,_,y13,y14,y15,q1,q2,q3⟩
 ·rw[if_neg hc];walk_at "den";obtain⟨q,y13,y14,y15,q1,q2,q3⟩:=x1y (K:=K) (a:=a) n (.fr (.lst (ns.map .int))) (.fr (.int (p:Int))) z2 z4 z8 z14 z15 wide hw kinds k left size base num h1 h2 h3 st hl (List.replicate wide false) w1u;exact⟨q,_,y13,y14,y15,q1,q2,q3⟩
theorem x60(n:Nat)(ns:List Int)(p:Nat)(z2 z10 z11 z12 z13 z14 z15:S)(m wide:Nat)(hm:m<=3)(hw:wide<=12)(kinds k size base:Int)(h1:0<base)(h2:base<=size)(h3:size<=20)(sts:List (List Pr))(hl:sts.length<=100):
  ∃s:List Pr,∃y10 y11 y12 y13 y14 y15,s.length=2^m/\(∀q∈s,q.1.length=wide/\(q.2:Int)<size)/\q2y K a (run K a (n+2)) [.fr (.lst (ns.map .int)),.fr (.int (p:Int)),z2,.fr (.int kinds),.fr (.int (m:Int)),.fr (.int (wide:Int)),.fr (.int size),.fr (.int base),.own none (sts.map encSt),.fr (.int k),z10,z11,z12,z13,z14,z15] =
   .nx [.fr (.lst (ns.map .int)),.fr (.int (p:Int)),z2,.fr (.int kinds),.fr (.int (m:Int)),.fr (.int (wide:Int)),.fr (.int size),.fr (.int base),.own none ((sts++[s]).map encSt),.fr (.int k),y10,y11,y12,y13,y14,y15]:=by
 have hp:2^m<=2^3:=w2g (by decide) hm;have hp8:(2:Nat)^3=8:=rfl;unfold q2y;walk_at "den";rw[x4o (n+1) m hm];generalize hR:2^m=R at hp;walk_at "den";rw[if_pos (q6j (by omega) (by omega))];walk_at "den"
 obtain⟨e',h4,s,y11,y12,y13,y14,y15,rfl,s1,s2⟩:=q4t (b:=q2x K a (run K a (n+2))) (i:=11) (lo:=0) (hi:=(R:Int)) R (by omega) (fun j e=>∃(s:List Pr)(z11 z12 z13 z14 z15:S),e=[.fr (.lst (ns.map .int)),.fr (.int (p:Int)),z2,.fr (.int kinds),.fr (.int (m:Int)),.fr (.int (wide:Int)),.fr (.int size),.fr (.int base),.own none (sts.map encSt),.fr (.int k),.own none (s.map encPr),z11,z12,z13,z14,z15]/\s.length=j/\∀q∈s,q.1.length=wide/\(q.2:Int)<size)
  [.fr (.lst (ns.map .int)),.fr (.int (p:Int)),z2,.fr (.int kinds),.fr (.int (m:Int)),.fr (.int (wide:Int)),.fr (.int size),.fr (.int base),.own none (sts.map encSt),.fr (.int k),.own none [],z11,z12,z13,z14,z15] ⟨[],z11,z12,z13,z14,z15,rfl,rfl,fun q hq=>nomatch hq⟩ (by
  rintro j e hj ⟨s,z11,z12,z13,z14,z15,rfl,s1,s2⟩;rw[Int.zero_add];obtain⟨q,y12,y13,y14,y15,q1,q2,q3⟩:=x91 (K:=K) (a:=a) n ns p z2 (.fr (.int (m:Int))) (.own none (sts.map encSt)) z12 z13 z14 z15 wide hw kinds k size base j h1 h2 h3 s (by omega);refine⟨_,q3,s++[q],_,y12,y13,y14,y15,rfl,by simp[s1],fun x hx=>?_⟩
  rcases w1h.mp hx with z|z
  ·exact s2 x z
  ·rw[w0k.mp z];exact⟨q1,q2⟩)
 rw[h4];walk_at "den";rw[if_pos (by rw[w0b];omega)];refine⟨s,.fr (.lst (s.map encPr)),y11,y12,y13,y14,y15,s1,s2,?_⟩;rw[w0l];rfl
theorem x3b(n:Nat)(ns:List Int)(p:Nat)(z2:S)(m wide size:Nat)(hm:m<=3)(hw:wide<=12)(kinds:Int)(h0:0<size)(h3:size<=20):
  ∃c:Mc,c.Ok/\(sts44 K a (run K a (n+2)) [.fr (.lst (ns.map .int)),.fr (.int (p:Int)),z2,.fr (.int kinds),.fr (.int (m:Int)),.fr (.int (wide:Int)),.fr (.int (size:Int)),.no,.no,.no,.no,.no,.no,.no,.no,.no]).fn=.ok (.fr (encMc c))/\c.m=m:=by
 have b0:=w1z (kinds / 24) (show(size:Int)≠0 by omega);have b1:=w1w (kinds / 24) (show(0:Int)<(size:Int) by omega);obtain⟨base,hb⟩:∃b:Int,(size:Int)-kinds / 24%(size:Int)=b:=⟨_,rfl⟩;unfold sts44;walk_at "den";rw[if_pos (show(0:Int)<(size:Int) by omega)];walk_at "den";rw[hb,if_pos (q6j (by omega) (by omega))];walk_at "den"
 obtain⟨e',h4,sts,y9,y10,y11,y12,y13,y14,y15,rfl,s1,s2⟩:=q4t (b:=q2y K a (run K a (n+2))) (i:=9) (lo:=0) (hi:=(size:Int)) size (by omega) (fun j e=>∃(sts:List (List Pr))(z9 z10 z11 z12 z13 z14 z15:S),e=[.fr (.lst (ns.map .int)),.fr (.int (p:Int)),z2,.fr (.int kinds),.fr (.int (m:Int)),.fr (.int (wide:Int)),.fr (.int (size:Int)),.fr (.int base),.own none (sts.map encSt),z9,z10,z11,z12,z13,z14,z15]/\sts.length=j/\∀s∈sts,s.length=2^m/\∀q∈s,q.1.length=wide/\(q.2:Int)<(size:Int))
  [.fr (.lst (ns.map .int)),.fr (.int (p:Int)),z2,.fr (.int kinds),.fr (.int (m:Int)),.fr (.int (wide:Int)),.fr (.int (size:Int)),.fr (.int base),.own none [],.no,.no,.no,.no,.no,.no,.no] ⟨[],_,_,_,_,_,_,_,rfl,rfl,fun q hq=>nomatch hq⟩ (by
  rintro j e hj ⟨sts,z9,z10,z11,z12,z13,z14,z15,rfl,s1,s2⟩;obtain⟨s,y10,y11,y12,y13,y14,y15,q1,q2,q3⟩:=x60 (K:=K) (a:=a) n ns p z2 z10 z11 z12 z13 z14 z15 m wide hm hw kinds (0+(j:Int)) (size:Int) base (by omega) (by omega) (by omega) sts (by omega);refine⟨_,q3,sts++[s],_,y10,y11,y12,y13,y14,y15,rfl,by simp[s1],fun x hx=>?_⟩
  rcases w1h.mp hx with z|z
  ·exact s2 x z
  ·rw[w0k.mp z];exact⟨q1,q2⟩)
 rw[h4];walk_at "den";refine⟨⟨m,wide,sts⟩,⟨hm,hw,by show 0<sts.length;omega,by show sts.length<=20;omega,fun s hs=>(s2 s hs).1,fun s hs q hq=>⟨((s2 s hs).2 q hq).1,?_⟩⟩,rfl,rfl⟩
 have:=((s2 s hs).2 q hq).2;show q.2<sts.length;omega
theorem wide8{j:Int}{x:Int}(h0:0<=j)(h1:j<8)(hx:0<=x)(hx2:x<9):∃w:Nat,atI [W.int 1,.int 2,.int 1,.int 0,.int 3,.int (4+x),.int 2,.int 1] j=some (.int (w:Int))/\w<=12:=by
 have:j=0\/j=1\/j=2\/j=3\/j=4\/j=5\/j=6\/j=7:=by omega
 rcases this with rfl|rfl|rfl|rfl|rfl|rfl|rfl|rfl
 ·exact⟨1,rfl,by omega⟩
 ·exact⟨2,rfl,by omega⟩
 ·exact⟨1,rfl,by omega⟩
 ·exact⟨0,rfl,by omega⟩
 ·exact⟨3,rfl,by omega⟩
 ·refine⟨(4+x).toNat,?_,by omega⟩;rw[show(((4+x).toNat:Nat):Int)=4+x by omega];rfl
 ·exact⟨2,rfl,by omega⟩
 ·exact⟨1,rfl,by omega⟩
theorem x3c(n:Nat)(ns:List Int)(p:Nat)(m wide size:Nat)(hm:m<=3)(hw:wide<=12)(cell kinds:Int)(h0:0<size)(h3:size<=12):
  ∃c:Mc,c.Ok/\(sec44 K a (run K a (n+2)) [.fr (.lst (ns.map .int)),.fr (.int (p:Int)),.fr (.int cell),.fr (.int kinds),.fr (.int (m:Int)),.fr (.int (wide:Int)),.fr (.int (size:Int)),.no,.no,.no,.no,.no,.no,.no,.no,.no]).fn=.ok (.fr (encMc c)):=by
 have keep:=x3b (K:=K) (a:=a) n ns p (.fr (.int cell)) m wide size hm hw kinds h0 (by omega);obtain⟨sz,e1,e2,e3⟩:∃s:Nat,12+cell / 112%9=(s:Int)/\0<s/\s<=20:=⟨(12+cell / 112%9).toNat,by omega,by omega,by omega⟩;obtain⟨mm,e4,e5⟩:∃s:Nat,(m:Int)%2=(s:Int)/\s<=3:=⟨((m:Int)%2).toNat,by omega,by omega⟩;have big:=x3b (K:=K) (a:=a) n ns p (.fr (.int cell)) mm wide sz e5 hw kinds e2 e3;unfold sec44;walk_at "den"
 by_cases hc:(size:Int)=7
 ·rw[if_pos hc];walk_at "den"
  by_cases hd:cell / 28%4=1
  ·rw[if_pos hd];walk_at "den";rw[e1,e4];obtain⟨c,c1,c2,_⟩:=big;exact⟨c,c1,c2⟩
  ·rw[if_neg hd];walk_at "den";obtain⟨c,c1,c2,_⟩:=keep;exact⟨c,c1,c2⟩
 ·rw[if_neg hc];walk_at "den";obtain⟨c,c1,c2,_⟩:=keep;exact⟨c,c1,c2⟩
theorem at4m{j k:Int}(h0:0<=j)(h1:j<4)(k0:0<=k)(k1:k<4):∃y m:Nat,atI [W.int 1,.int 1,.int 2,.int 3] k=some (.int (y:Int))/\atI [W.int 0,.int 1,.int 2,.int (y:Int)] j=some (.int (m:Int))/\m<=3:=by
 obtain⟨y,hy,hy3⟩:∃y:Nat,atI [W.int 1,.int 1,.int 2,.int 3] k=some (.int (y:Int))/\y<=3:=by
  have:k=0\/k=1\/k=2\/k=3:=by omega
  rcases this with rfl|rfl|rfl|rfl
  ·exact⟨1,rfl,by omega⟩
  ·exact⟨1,rfl,by omega⟩
  ·exact⟨2,rfl,by omega⟩
  ·exact⟨3,rfl,by omega⟩
 have:j=0\/j=1\/j=2\/j=3:=by omega
 rcases this with rfl|rfl|rfl|rfl
 ·exact⟨y,0,hy,rfl,by omega⟩
 ·exact⟨y,1,hy,rfl,by omega⟩
 ·exact⟨y,2,hy,rfl,by omega⟩
 ·exact⟨y,y,hy,rfl,hy3⟩
theorem q7b(n:Nat)(ns:List Int)(p:Nat):∃c:Mc,c.Ok/\run K a (n+3) q09 [.lst (ns.map .int),.int (p:Int)]=.ok (.fr (encMc c)):=by
 rw[q3o];unfold q3e;walk_at "den";rw[q53 (n+1) ns (by omega)];walk_at "den";rw[q53 (n+1) ns (by omega)];walk_at "den";generalize ns.getD _ 0=cell;generalize ns.getD _ 0=kinds;obtain⟨y,m,y1,m1,m2⟩:=at4m (j:=cell%4) (k:=cell / 28%4) (by omega) (by omega) (by omega) (by omega);rw[y1];walk_at "den";rw[m1];walk_at "den";obtain⟨wide,w1,w2⟩:=wide8 (j:=kinds / 3%8) (x:=kinds / 24%9) (by omega) (by omega) (by omega) (by omega);rw[w1];obtain⟨s,s1,s2,s3⟩:∃s:Nat,1+cell / 4%7=(s:Int)/\0<s/\s<=11:=⟨(1+cell / 4%7).toNat,by omega,by omega,by omega⟩;walk_at "den";rw[s1]
 by_cases h6:(s:Int)=6
 ·rw[if_pos h6];walk_at "den";obtain⟨s',e1,e2,e3⟩:∃s:Nat,6+cell / 28%5=(s:Int)/\0<s/\s<=12:=⟨(6+cell / 28%5).toNat,by omega,by omega,by omega⟩
  obtain⟨mm,e4,e5⟩:∃q:Nat,(if(2:Int)<(m:Int)then(2:Int)else(m:Int))=(q:Int)/\q<=3:=by
   by_cases z:(2:Int)<(m:Int)
   ·exact⟨2,by rw[if_pos z];rfl,by omega⟩
   ·exact⟨m,by rw[if_neg z],m2⟩
  rw[e1,e4];exact x3c n ns p mm wide s' e5 w2 cell kinds e2 e3
 ·rw[if_neg h6];walk_at "den";exact x3c n ns p m wide s m2 w2 cell kinds s2 (by omega)
theorem q8l:∀(n:Nat){l:List Nat},l.Nodup->(∀x∈l,x<n)->l.length<=n
 |0,l,_,h=>by
  cases l with
  |nil=>simp
  |cons x l=>exact absurd (h x (by simp)) (by omega)
 |n+1,l,hn,h=>by
  by_cases m:n∈l
  ·have e:=List.length_erase_of_mem m
   have:=q8l n (hn.erase n) (fun x hx=>by
    have:=(hn.mem_erase_iff).mp hx;have:=h x this.2;omega)
   have:0<l.length:=w3n m;omega
  ·have:=q8l n hn (fun x hx=>by
    have:=h x hx;have:x≠n:=fun z=>m (z ▸ hx)
    omega)
   omega
structure Gr where
 R:Nat
 bad:Nat×Nat->Nat->Bool
 nx:Nat×Nat->Nat->Nat×Nat
noncomputable def Gr.node(g:Gr)(x:Nat×Nat)(w:List Nat):Nat×Nat:=w.foldl g.nx x
def Gr.ok(g:Gr)(w:List Nat):Prop:=∀i∈w,i<g.R
def Gr.D(g:Gr)(x:Nat×Nat)(u:List Nat):Prop:=∃w r,u=w++[r]/\g.ok u/\g.bad (g.node x w) r=true
theorem q90(g:Gr)(x:Nat×Nat)(w:List Nat)(r:Nat):g.node x (w++[r])=g.nx (g.node x w) r:=by
 unfold Gr.node;rw[List.foldl_append];rfl
theorem ok_snoc{g:Gr}:g.ok (w++[r])↔g.ok w/\r<g.R:=by
 unfold Gr.ok;constructor
 ·exact fun h=>⟨fun i hi=>h i (by simp[hi]),h r (by simp)⟩
 ·rintro⟨h1,h2⟩ i hi;rcases w1h.mp hi with z|z
  ·exact h1 i z
  ·rw[w0k.mp z];exact h2
def lx:List Nat->List Nat->Prop
 |x::u,y::v=>x<y\/(x=y/\lx u v)
 |_,_=>False
theorem x1z:∀{u v w:List Nat},lx u v->lx v w->lx u w
 |x::u,y::v,z::w,h,h'=>by
  rcases h with h|⟨rfl,h⟩
  ·rcases h' with h'|⟨rfl,h'⟩
   ·exact .inl (by omega)
   ·exact .inl h
  ·rcases h' with h'|⟨rfl,h'⟩
   ·exact .inl h'
   ·exact .inr ⟨rfl,x1z h h'⟩
 |[],_,_,h,_=>h.elim
 |_::_,[],_,h,_=>h.elim
 |_::_,_::_,[],_,h=>h.elim
theorem x61:∀{u:List Nat},¬lx u u
 |[],h=>h
 |x::u,h=>by
  rcases h with h|⟨_,h⟩
  ·omega
  ·exact x61 h
theorem x62:∀{u v s t:List Nat},lx u v->lx (u++s) (v++t)
 |x::u,y::v,s,t,h=>by
  rcases h with h|⟨rfl,h⟩
  ·exact .inl h
  ·exact .inr ⟨rfl,x62 h⟩
 |[],_,_,_,h=>h.elim
 |_::_,[],_,_,h=>h.elim
theorem x63(h:i<j):∀{p s t:List Nat},lx (p++i::s) (p++j::t)
 |[],s,t=>.inl h
 |x::p,s,t=>.inr ⟨rfl,x63 h⟩
def slt(u v:List Nat):Prop:=u.length<v.length\/(u.length=v.length/\lx u v)
def sle(u v:List Nat):Prop:=u=v\/slt u v
theorem q91{v:List Nat}(h:slt u v)(h':slt v w):slt u w:=by
 rcases h with h|⟨h,l⟩
 ·rcases h' with h'|⟨h',_⟩
  ·exact .inl (by omega)
  ·exact .inl (by omega)
 ·rcases h' with h'|⟨h',l'⟩
  ·exact .inl (by omega)
  ·exact .inr ⟨by omega,x1z l l'⟩
theorem y37(h:slt u u):False:=by
 rcases h with h|⟨_,h⟩
 ·omega
 ·exact x61 h
theorem q7u{v:List Nat}(h:slt u v):slt (u++[i]) (v++[j]):=by
 rcases h with h|⟨h,l⟩
 ·exact .inl (by simp;omega)
 ·exact .inr ⟨by simp[h],x62 l⟩
theorem x10(h:i<j):slt (u++[i]) (u++[j]):=.inr ⟨by simp,x63 h⟩
theorem x3d{v:List Nat}(h:sle u v):u.length<=v.length:=by
 rcases h with rfl|h|⟨h,_⟩
 ·exact w0h _
 ·omega
 ·omega
theorem x11{v:List Nat}(h:sle u v)(hi:i<=j):sle (u++[i]) (v++[j]):=by
 rcases h with rfl|h
 ·rcases w4b hi with z|rfl
  ·exact .inr (x10 z)
  ·exact .inl rfl
 ·exact .inr (q7u h)
theorem x3e{v:List Nat}(h:slt u v)(h':sle v w):slt u w:=by
 rcases h' with rfl|h'
 ·exact h
 ·exact q91 h h'
theorem x64{v:List Nat}(h:sle u v)(h':sle v w):sle u w:=by
 rcases h with rfl|h
 ·exact h'
 ·exact .inr (x3e h h')
noncomputable abbrev Qu:=List ((Nat×Nat)×List Nat)
def Fol(g:Gr)(Q:Qu)(q:(Nat×Nat)×List Nat)(r:Nat):Prop:=g.bad q.1 r=false/\∃q'∈Q,q'.1=g.nx q.1 r/\sle q'.2 (q.2++[r])
structure BI(g:Gr)(x:Nat×Nat)(Q:Qu)(p i:Nat):Prop where
 nod:∀q∈Q,g.node x q.2=q.1/\g.ok q.2
 nd:(Q.map (·.1)).Nodup
 srt:Q.Pairwise fun s t=>slt s.2 t.2
 don:∀k,k<p->∀q,Q[k]?=some q->∀r,r<g.R->Fol g Q q r
 cur:∀q,Q[p]?=some q->∀r,r<i->Fol g Q q r
 frm:∀q∈Q,q.2=[]\/∃k s r,Q[k]?=some s/\q.2=s.2++[r]/\(k<p\/(k=p/\r<i))
 hd:∃t,Q=(x,[])::t
theorem BI.init(g:Gr)(x:Nat×Nat):BI g x [(x,[])] 0 0:=by
 refine⟨fun q hq=>?_,by simp,by simp,fun k hk=>by omega,fun q _ r hr=>by omega,fun q hq=>?_,⟨[],rfl⟩⟩
 ·rw[w0k.mp hq];exact⟨rfl,fun i hi=>by cases hi⟩
 ·rw[w0k.mp hq];exact .inl rfl
theorem BI.lt{g:Gr}{Q:Qu}(h:BI g x Q p i){s t:(Nat×Nat)×List Nat}(hj:Q[j]?=some s)(hk:Q[k]?=some t)(hjk:j<k):slt s.2 t.2:=by
 obtain⟨h1,rfl⟩:=w0a.mp hj;obtain⟨h2,rfl⟩:=w0a.mp hk;exact List.pairwise_iff_getElem.mp h.srt j k h1 h2 hjk
theorem BI.bnd{g:Gr}{Q:Qu}(h:BI g x Q p i){c:(Nat×Nat)×List Nat}(hc:Q[p]?=some c):∀q∈Q,slt q.2 (c.2++[i]):=fun q hq=>by
 rcases h.frm q hq with e|⟨k,s,r,h1,e,h2⟩
 ·rw[e];exact .inl (by simp)
 ·rw[e];rcases h2 with h2|⟨rfl,h2⟩
  ·exact q7u (h.lt h1 hc h2)
  ·rw[hc]at h1;cases h1;exact x10 h2
theorem Fol.app{g:Gr}{Q:Qu}{T:Qu}(h:Fol g Q q r):Fol g (Q++T) q r:=by
 obtain⟨h1,q',h2,h3⟩:=h;exact⟨h1,q',w2f _ h2,h3⟩
theorem BI.old{g:Gr}{Q:Qu}{c:(Nat×Nat)×List Nat}(h:BI g x Q p i)(hc:Q[p]?=some c)(hb:g.bad c.1 i=false)(hin:g.nx c.1 i∈Q.map (·.1)):BI g x Q p (i+1):=by
 refine⟨h.nod,h.nd,h.srt,h.don,fun q hq r hr=>?_,fun q hq=>?_,h.hd⟩
 ·by_cases z:r<i
  ·exact h.cur q hq r z
  ·obtain rfl:r=i:=by omega
   rw[hc]at hq;cases hq;obtain⟨q',h1,h2⟩:=w0q.mp hin;exact⟨hb,q',h1,h2,.inr (h.bnd hc q' h1)⟩
 ·rcases h.frm q hq with e|⟨k,s,r,h1,e,h2⟩
  ·exact .inl e
  ·exact .inr ⟨k,s,r,h1,e,h2.imp id fun z=>⟨z.1,by omega⟩⟩
theorem BI.new{g:Gr}{Q:Qu}{c:(Nat×Nat)×List Nat}(h:BI g x Q p i)(hc:Q[p]?=some c)(hi:i<g.R)(hb:g.bad c.1 i=false)(hin:g.nx c.1 i∉Q.map (·.1)):BI g x (Q++[(g.nx c.1 i,c.2++[i])]) p (i+1):=by
 have hcm:c∈Q:=w0i hc;obtain⟨n1,n2⟩:=h.nod c hcm;have hp:p<Q.length:=(w0a.mp hc).1;refine⟨fun q hq=>?_,?_,?_,fun k hk q hq r hr=>?_,fun q hq r hr=>?_,fun q hq=>?_,?_⟩
 ·rcases w1h.mp hq with z|z
  ·exact h.nod q z
  ·rw[w0k.mp z];exact⟨by rw[q90,n1],ok_snoc.mpr ⟨n2,hi⟩⟩
 ·rw[w0l];refine w3g.mpr ⟨h.nd,by simp,fun a ha b hb' e=>?_⟩
  subst e;rw[w0r,w3c,w0k]at hb';rw[show a=g.nx c.1 i from hb']at ha;exact hin ha
 ·refine List.pairwise_append.mpr ⟨h.srt,by simp,fun a ha b hb'=>?_⟩
  rw[w0k.mp hb'];exact h.bnd hc a ha
 ·have:Q[k]?=some q:=by rw[<- hq,w0s (by omega)]
  exact(h.don k hk q this r hr).app
 ·rw[w0s hp]at hq
  by_cases z:r<i
  ·exact(h.cur q hq r z).app
  ·obtain rfl:r=i:=by omega
   rw[hc]at hq;cases hq;exact⟨hb,_,w0j _ (w0k.mpr rfl),rfl,.inl rfl⟩
 ·rcases w1h.mp hq with z|z
  ·rcases h.frm q z with e|⟨k,s,r,h1,e,h2⟩
   ·exact .inl e
   ·exact .inr ⟨k,s,r,by rw[w0s (w0a.mp h1).1];exact h1,e,h2.imp id fun z=>⟨z.1,by omega⟩⟩
  ·rw[w0k.mp z];exact .inr ⟨p,c,i,by rw[w0s hp];exact hc,rfl,.inr ⟨rfl,by omega⟩⟩
 ·obtain⟨t,e⟩:=h.hd;exact⟨t++[(g.nx c.1 i,c.2++[i])],by rw[e];rfl⟩
theorem BI.next{g:Gr}{Q:Qu}(h:BI g x Q p g.R):BI g x Q (p+1) 0:=by
 refine⟨h.nod,h.nd,h.srt,fun k hk q hq r hr=>?_,fun q _ r hr=>by omega,fun q hq=>?_,h.hd⟩
 ·by_cases z:k<p
  ·exact h.don k z q hq r hr
  ·obtain rfl:k=p:=by omega
   exact h.cur q hq r hr
 ·rcases h.frm q hq with e|⟨k,s,r,h1,e,h2⟩
  ·exact .inl e
  ·exact .inr ⟨k,s,r,h1,e,.inl (by omega)⟩
theorem BI.cov{g:Gr}{Q:Qu}(h:BI g x Q p i):∀(n:Nat)(t:List Nat),t.length=n->g.ok t->(∃(k:Nat)(q:(Nat×Nat)×List Nat),Q[k]?=some q/\q.1=g.node x t/\sle q.2 t)\/∃(k:Nat)(q:(Nat×Nat)×List Nat),p<=k/\Q[k]?=some q/\q.2.length<t.length
 |0,t,ht,_=>by
  obtain rfl:t=[]:=w2t ht;obtain⟨t,e⟩:=h.hd;exact .inl ⟨0,(x,[]),by rw[e];rfl,rfl,.inl rfl⟩
 |n+1,t,ht,hok=>by
  obtain⟨u,r,rfl⟩:∃u r,t=u++[r]:=⟨t.dropLast,t.getLast (by intro z;rw[z]at ht;cases ht),(List.dropLast_concat_getLast _).symm⟩;rw[w0v]at ht;obtain⟨ok1,ok2⟩:=ok_snoc.mp hok;rcases h.cov n u (by simpa using ht) ok1 with⟨k,q,h1,h2,h3⟩|⟨k,q,h1,h2,h3⟩
  ·by_cases hk:k<p
   ·obtain⟨_,q',m1,m2,m3⟩:=h.don k hk q h1 r ok2;obtain⟨k',hk'⟩:=List.getElem?_of_mem m1;refine .inl ⟨k',q',hk',by rw[m2,h2,q90],x64 m3 (x11 h3 (w0h _))⟩
   ·exact .inr ⟨k,q,by omega,h1,by have:=x3d h3;simp;omega⟩
  ·exact .inr ⟨k,q,h1,h2,by simp;omega⟩
theorem BI.least{g:Gr}{Q:Qu}{c:(Nat×Nat)×List Nat}(h:BI g x Q p i)(hc:Q[p]?=some c)(hi:i<g.R)(hb:g.bad c.1 i=true):g.D x (c.2++[i])/\∀u,g.D x u->sle (c.2++[i]) u:=by
 obtain⟨n1,n2⟩:=h.nod c (w0i hc);refine⟨⟨c.2,i,rfl,ok_snoc.mpr ⟨n2,hi⟩,by rw[n1];exact hb⟩,?_⟩;rintro u ⟨w,r,rfl,ho,hr⟩;obtain⟨ok1,ok2⟩:=ok_snoc.mp ho;rcases h.cov _ w rfl ok1 with⟨k,q,h1,h2,h3⟩|⟨k,q,h1,h2,h3⟩
 ·rw[<- h2]at hr;rcases Nat.lt_trichotomy k p with z|rfl|z
  ·have:=(h.don k z q h1 r ok2).1;rw[hr]at this;cases this
  ·rw[hc]at h1;cases h1
   by_cases hri:r<i
   ·have:=(h.cur c hc r hri).1;rw[hr]at this;cases this
   ·exact x11 h3 (by omega)
  ·exact .inr (q7u (x3e (h.lt hc h1 z) h3))
 ·refine .inr (.inl ?_)
  have:c.2.length<=q.2.length:=by
   rcases w4b h1 with z|rfl
   ·exact x3d (.inr (h.lt hc h2 z))
   ·rw[hc]at h2;cases h2;exact w0h _
  simp;omega
theorem BI.none{g:Gr}{Q:Qu}(h:BI g x Q p i)(hp:Q.length<=p)(u:List Nat):¬g.D x u:=by
 rintro⟨w,r,rfl,ho,hr⟩;obtain⟨ok1,ok2⟩:=ok_snoc.mp ho;rcases h.cov _ w rfl ok1 with⟨k,q,h1,h2,h3⟩|⟨k,q,h1,h2,h3⟩
 ·have hk:=(w0a.mp h1).1;have:=(h.don k (by omega) q h1 r ok2).1;rw[h2,hr]at this;cases this
 ·have hk:=(w0a.mp h2).1;omega
theorem neB(x y:List Bool):ne2 (encB x) (encB y)=some (.bl (!decide (x=y))):=by
 have h:depWs (x.map .bl)=0:=(q5e x).2.1;unfold ne2 encB;rw[if_pos (show depW (.tup (x.map .bl))<=150 by show depWs (x.map .bl)+1<=150;omega)];show(eqWs (x.map .bl) (y.map .bl)).map _=_;rw[x3a];rfl
structure Two(c d:Mc):Prop where
 oc:c.Ok
 od:d.Ok
 hm:c.m=d.m
 hw:c.wide=d.wide
noncomputable def prod(c d:Mc):Gr:=⟨2^c.m,fun x r=>!decide ((prAt c x.1 r).1=(prAt d x.2 r).1),fun x r=>((prAt c x.1 r).2,(prAt d x.2 r).2)⟩
def InP(c d:Mc)(x:Nat×Nat):Prop:=x.1<c.states.length/\x.2<d.states.length
theorem x3f{c:Mc}(hc:c.Ok)(hs:s<c.states.length)(hr:r<2^c.m):(prAt c s r).2<c.states.length/\(prAt c s r).1.length=c.wide:=by
 have hl:=hc.st _ (q32 hs);have hr':r<(c.states.getD s []).length:=by omega
 have hm:prAt c s r∈c.states.getD s []:=by
  unfold prAt;generalize c.states.getD s []=l at hr';rw[w3b,w0d hr'];exact w1r hr'
 exact⟨(hc.pr _ (q32 hs) _ hm).2,(hc.pr _ (q32 hs) _ hm).1⟩
theorem Two.nx{c d:Mc}(T:Two c d)(h:InP c d x)(hr:r<(prod c d).R):InP c d ((prod c d).nx x r):=
 ⟨(x3f T.oc h.1 hr).1,(x3f T.od h.2 (by rw[<- T.hm];exact hr)).1⟩
noncomputable def encN(x:Nat×Nat):W:=.tup [.int (x.1:Int),.int (x.2:Int)]
noncomputable def keyN(x:Nat×Nat):Kx:=.tup [.int (x.1:Int),.int (x.2:Int)]
noncomputable abbrev shN:Sh:=.tup [.int,.int]
theorem q2z(x:Nat×Nat):keyT (encN x)=some (keyN x):=rfl
theorem q33(x:Nat×Nat):fits (keyN x) shN:=⟨⟨trivial,trivial,trivial⟩,by simp[keyN,Kx.depth,Kx.depths]⟩
theorem x12{y:Nat×Nat}(h:keyN x=keyN y):x=y:=by
 unfold keyN at h;injection h with h
 injection h with h1 h
 injection h with h2 _
 injection h1 with h1
 injection h2 with h2
 exact Prod.ext (by omega) (by omega)
theorem lk_N{f:α->Nat×Nat}{v:α->W}:∀{l:List α},(∀q,q∈l->f q≠x)->lkW (l.map fun q=>keyN (f q)) (l.map v) (keyN x)=none
 |[],_=>rfl
 |q::l,h=>by
  show(if keyN (f q)=keyN x then _ else _)=_;rw[if_neg fun z=>h q (by simp) (x12 z)]
  exact lk_N fun q' hq=>h q' (by simp[hq])
theorem q64{f:α->Nat×Nat}{v:α->W}{q:α}:∀{l:List α},(l.map f).Nodup->q∈l->lkW (l.map fun q=>keyN (f q)) (l.map v) (keyN (f q))=some (v q)
 |p::l,hn,h=>by
  rw[w0r,w1f]at hn;show(if keyN (f p)=keyN (f q)then some (v p)else _)=_;rcases w0p.mp h with rfl|h
  ·rw[if_pos rfl]
  ·rw[if_neg fun z=>hn.1 (by rw[x12 z];exact w0q.mpr ⟨q,h,rfl⟩)]
   exact q64 hn.2 h
noncomputable def valQ(g:Gr)(x:Nat×Nat)(q:(Nat×Nat)×List Nat):W:=match q.2.reverse with
 |[]=>.non
 |r::u=>.tup [encN (g.node x u.reverse),.int (r:Int)]
theorem x92(g:Gr)(x y:Nat×Nat):valQ g x (y,[])=.non:=rfl
theorem q92(g:Gr)(x y:Nat×Nat)(u:List Nat)(r:Nat):valQ g x (y,u++[r])=.tup [encN (g.node x u),.int (r:Int)]:=by
 unfold valQ;simp
noncomputable def cameS(g:Gr)(x:Nat×Nat)(Q:Qu):S:=.dw shN (Q.map fun q=>keyN q.1) (Q.map (valQ g x))
noncomputable def cameW(g:Gr)(x:Nat×Nat)(Q:Qu):W:=.dw false shN (Q.map fun q=>keyN q.1) (Q.map (valQ g x))
theorem q93{g:Gr}{Q:Qu}(B:BI g x Q p i)(r:Nat->List W->FR)(z:W):∀(n:Nat)(q:(Nat×Nat)×List Nat)(fuel:Nat)(acc:List Nat),q.2.length=n->q∈Q->n<fuel->acc.length+n<=1000 ->
  ∃s,whileD (q3i K a r) (q4h K a r) fuel [.fr (cameW g x Q),.fr z,.own none (acc.map fun(k:Nat)=>.int (k:Int)),.fr (valQ g x q)]=.nx [.fr (cameW g x Q),.fr z,.own none ((acc++q.2.reverse).map fun(k:Nat)=>.int (k:Int)),s]
 |n,q,0,acc,_,_,hf,_=>by omega
 |0,(y,u),fuel+1,acc,hn,hq,hf,ha=>by
  obtain rfl:u=[]:=w2t hn;rw[q60,x92];unfold q3i;walk_at "den";exact⟨.fr .non,by simp⟩
 |n+1,(y,u),fuel+1,acc,hn,hq,hf,ha=>by
  rcases B.frm _ hq with e|⟨k,s,r',h1,e,h2⟩
  ·dsimp only at e hn;rw[e]at hn;cases hn
  ·dsimp only at e;subst e;have hs:s∈Q:=w0i h1;have hsl:s.2.length=n:=by have:(s.2++[r']).length=n+1:=hn;simpa using this
   have e:ixT (cameW g x Q) (.tup [.int (s.1.1:Int),.int (s.1.2:Int)])=some (valQ g x s):=(x0s (q2z s.1) (q33 _)).trans (q64 B.nd hs);obtain⟨s1,IH⟩:=q93 B r z n s fuel (acc++[r']) hsl hs (by omega) (by simp;omega);unfold q3i q4h at IH;rw[q60,q92,(B.nod s hs).1];unfold q3i encN;walk_at "den";unfold q4h;walk_at "den";rw[if_pos (by rw[w0b];omega),e];walk_at "den";rw[w0l]at IH;refine⟨s1,IH.trans ?_⟩;simp
theorem x93(n:Nat){g:Gr}{Q:Qu}(B:BI g x Q p i)(hq:q∈Q)(hl:q.2.length<=900):run K a (n+1) q4n [cameW g x Q,encN q.1]=.ok (.own none (q.2.map fun(k:Nat)=>.int (k:Int))):=by
 obtain⟨s,h⟩:=q93 (K:=K) (a:=a) B (run K a n) (encN q.1) q.2.length q 1000000 [] rfl hq (by omega) (by simp;omega);have e:ixT (cameW g x Q) (encN q.1)=some (valQ g x q):=(x0s (q2z q.1) (q33 _)).trans (q64 B.nd hq);rw[q5g];unfold q5a;walk_at "den";rw[e];walk_at "den";have h':=h;rw[w3c,w2y]at h';rw[h'];walk_at "den";rw[<- w3l,List.reverse_reverse]
theorem x3g{c d:Mc}(T:Two c d):∀(w:List Nat){x:Nat×Nat},InP c d x->(prod c d).ok w->InP c d ((prod c d).node x w)
 |[],_,h,_=>h
 |r::w,x,h,ho=>x3g T w (T.nx h (ho r (by simp))) fun i hi=>ho i (by simp[hi])
theorem x65{c d:Mc}(T:Two c d){l:List (Nat×Nat)}(hn:l.Nodup)(h:∀x∈l,InP c d x):l.length<=c.states.length*d.states.length:=by
 have inj:∀x∈l,∀y∈l,x.1*d.states.length+x.2=y.1*d.states.length+y.2->x=y:=fun x hx y hy e=>by
  have h1:=(h x hx).2;have h2:=(h y hy).2;have m1:(x.1*d.states.length+x.2)%d.states.length=x.2:=by rw[w4d,Nat.mul_add_mod,Nat.mod_eq_of_lt h1]
  have m2:(y.1*d.states.length+y.2)%d.states.length=y.2:=by rw[w4d,Nat.mul_add_mod,Nat.mod_eq_of_lt h2]
  have e2:x.2=y.2:=by rw[<- m1,<- m2,e]
  have e1:x.1=y.1:=Nat.eq_of_mul_eq_mul_right (show 0<d.states.length by omega) (by omega);exact Prod.ext e1 e2
 have:=q8l (c.states.length*d.states.length) (l:=l.map fun x=>x.1*d.states.length+x.2) (List.pairwise_map.mpr (List.Pairwise.imp_of_mem (fun {x y} hx hy hne e=>hne (inj x hx y hy e)) hn)) fun z hz=>by
  obtain⟨x,hx,rfl⟩:=w0q.mp hz;obtain⟨h1,h2⟩:=h x hx;have:(x.1+1)*d.states.length<=c.states.length*d.states.length:=Nat.mul_le_mul_right _ h1;rw[Nat.add_mul]at this;omega
 rwa [w0b]at this
theorem BI.inp{c d:Mc}(T:Two c d){Q:Qu}(hx:InP c d x)(B:BI (prod c d) x Q p i):∀q∈Q,InP c d q.1:=fun q hq=>by
 obtain⟨h1,h2⟩:=B.nod q hq;rw[<- h1];exact x3g T q.2 hx h2
theorem y90{c d:Mc}(T:Two c d):c.states.length*d.states.length<=400:=Nat.mul_le_mul T.oc.most T.od.most
theorem BI.len{c d:Mc}(T:Two c d){Q:Qu}(hx:InP c d x)(B:BI (prod c d) x Q p i):Q.length<=400:=by
 have:=x65 T B.nd fun y hy=>by
  obtain⟨q,hq,rfl⟩:=w0q.mp hy;exact B.inp T hx q hq
 rw[w0b]at this;have:=y90 T;omega
theorem BI.wl{g:Gr}{Q:Qu}(B:BI g x Q p i):∀(k:Nat)(q:(Nat×Nat)×List Nat),Q[k]?=some q->q.2.length<=k:=fun k=>by
 induction k using Nat.strongRecOn with
 |ind k ih=>
  intro q hq;rcases B.frm q (w0i hq)with e|⟨k',s,r,h1,e,_⟩
  ·rw[e];simp
  ·have hlt:k'<k:=by
    rcases Nat.lt_trichotomy k' k with z|rfl|z
    ·exact z
    ·rw[hq]at h1;cases h1;have:=congrArg List.length e;simp at this
    ·exact(y37 (q91 (B.lt hq h1 z) (by rw[e];exact .inl (by simp)))).elim
   have:=ih k' hlt s h1;rw[e];simp;omega
noncomputable def nI(k:Nat):W:=.int (k:Int)
noncomputable def envT(c d:Mc)(Q:Qu)(p:Nat)(y:Nat×Nat)(i:Nat)(t7 t8 z9:S):List S:=[.fr (encMc c),.fr (encMc d),cameS (prod c d) (0,0) Q,.own none (Q.map fun q=>encN q.1),.fr (.int (p:Int)),.fr (encN y),.fr (.int (i:Int)),t7,t8,z9]
theorem x94(n:Nat){c d:Mc}(T:Two c d){Q:Qu}(B:BI (prod c d) (0,0) Q p i)(hq:Q[p]?=some q)(z9:S)(hz:isDw z9=false)(hb:(prod c d).bad q.1 i=true):
  ∃e',q00 K a (run K a (n+1)) (envT c d Q p q.1 i (.fr (encPr (prAt c q.1.1 i))) (.fr (encPr (prAt d q.1.2 i))) z9)=.rt (.fr (.tup [.str "unlike", .lst ((q.2++[i]).map nI)])) e':=by
 have hl:=B.len T ⟨T.oc.pos,T.od.pos⟩;have hp:p<Q.length:=(w0a.mp hq).1;have hwl:=B.wl p q hq;have hr:=x93 (K:=K) (a:=a) n B (w0i hq) (by omega);unfold cameW at hr;have hb:(!decide ((prAt c q.1.1 i).1=(prAt d q.1.2 i).1))=true:=hb;unfold q00 envT cameS;walk_at "den";rw[q8k];walk_at "den";rw[q8k];walk_at "den";rw[neB];walk_at "den";rw[if_pos hb,if_pos (by simp only[List.all_cons,List.all_nil,hz];rfl),hr];walk_at "den";rw[if_pos (by simp;omega)];walk_at "den";exact⟨_,by rw[w0l];rfl⟩
theorem x66(n:Nat){c d:Mc}(T:Two c d){Q:Qu}(B:BI (prod c d) (0,0) Q p i)(hq:Q[p]?=some q)(hi:i<(prod c d).R)(z9:S)(hz:isDw z9=false)(hb:(prod c d).bad q.1 i=false):
  ∃Q' z9',isDw z9'=false/\BI (prod c d) (0,0) Q' p (i+1)/\Q'[p]?=some q/\q00 K a (run K a (n+1)) (envT c d Q p q.1 i (.fr (encPr (prAt c q.1.1 i))) (.fr (encPr (prAt d q.1.2 i))) z9)=.nx (envT c d Q' p q.1 (i+1) (.fr (encPr (prAt c q.1.1 i))) (.fr (encPr (prAt d q.1.2 i))) z9'):=by
 have hl:=B.len T ⟨T.oc.pos,T.od.pos⟩;have hp:p<Q.length:=(w0a.mp hq).1;have hb':¬((!decide ((prAt c q.1.1 i).1=(prAt d q.1.2 i).1))=true):=by rw[show(!decide ((prAt c q.1.1 i).1=(prAt d q.1.2 i).1))=false from hb];exact w1t
 obtain⟨y,hy⟩:∃y,(prod c d).nx q.1 i=y:=⟨_,rfl⟩;have ey:W.tup [.int ((prAt c q.1.1 i).2:Int),.int ((prAt d q.1.2 i).2:Int)]=encN y:=by rw[<- hy];rfl
 have en:=x6p (fz:=false) (sh:=shN) (ks:=Q.map fun q=>keyN q.1) (ws:=Q.map (valQ (prod c d) (0,0))) (q2z y) (q33 y)
 unfold q00 envT cameS;walk_at "den";rw[q8k];walk_at "den";rw[q8k];walk_at "den";rw[neB];walk_at "den";rw[if_neg hb',x6z];walk_at "den";rw[x6z];walk_at "den";rw[ey,en];walk_at "den"
 by_cases hin:y∈Q.map (·.1)
 ·obtain⟨q',h1,h2⟩:=w0q.mp hin;have lk:=q64 (v:=valQ (prod c d) (0,0)) B.nd h1;rw[h2]at lk;rw[lk];walk_at "den";exact⟨Q,.fr (encN y),rfl,B.old hq hb (by rw[hy];exact hin),hq,by simp⟩
 ·have lk:=lk_N (f:=Prod.fst) (v:=valQ (prod c d) (0,0)) (x:=y) (l:=Q) fun q' h1 z=>hin (w0q.mpr ⟨q',h1,z⟩)
  rw[lk];walk_at "den";rw[if_pos (by rfl),q84 (q2z y) (by rw[w0b];omega) (by rfl) (q33 y) lk];walk_at "den";rw[if_pos (by rw[w0b];omega)];walk_at "den";have nw:=B.new hq hi hb (by rw[hy];exact hin);rw[hy]at nw;refine⟨Q++[(y,q.2++[i])],.fr (encN y),rfl,nw,by rw[w0s hp];exact hq,?_⟩;rw[w0l,w0l,w0l,w0r,w0r,w0r,q92,(B.nod q (w0i hq)).1];rfl
theorem x13{i:Nat}(I:Nat->List S->Prop)(Rt:S->Prop):∀(ps:List (W×W))(k:Nat)(e:List S),I k e ->
  (∀(m:Nat)(p:W×W),ps[m]?=some p->∀e,I (k+m) e->(∃e',b ((e.set i (.fr p.1)).set j (.fr p.2))=.nx e'/\I (k+m+1) e')\/∃s e',b ((e.set i (.fr p.1)).set j (.fr p.2))=.rt s e'/\Rt s) ->
  (∃e',forP i j b ps e=.nx e'/\I (k+ps.length) e')\/∃s e',forP i j b ps e=.rt s e'/\Rt s
 |[],k,e,h,_=>.inl ⟨e,rfl,h⟩
 |p::ps,k,e,h,st=>by
  rcases st 0 p rfl e h with⟨e1,h1,h2⟩|⟨s,e1,h1,h2⟩
  ·have:=x13 I Rt ps (k+1) e1 h2 fun m q hq e he=>by
    have z:=st (m+1) q (by simpa using hq) e (by rw[show k+(m+1)=k+1+m by omega];exact he);rw[show k+(m+1)=k+1+m by omega]at z;exact z
   rcases this with⟨e2,h3,h4⟩|⟨s,e2,h3,h4⟩
   ·refine .inl ⟨e2,?_,by rw[w0x,show k+(ps.length+1)=k+1+ps.length by omega];exact h4⟩;show(b ((e.set i (.fr p.1)).set j (.fr p.2))).turnT (forP i j b ps)=_;rw[h1];exact h3
   ·refine .inr ⟨s,e2,?_,h4⟩;show(b ((e.set i (.fr p.1)).set j (.fr p.2))).turnT (forP i j b ps)=_;rw[h1];exact h3
  ·refine .inr ⟨s,e1,?_,h2⟩;show(b ((e.set i (.fr p.1)).set j (.fr p.2))).turnT (forP i j b ps)=_;rw[h1];rfl
theorem x3h{c:Mc}(h:r<(c.states.getD s []).length):((c.states.getD s []).map encPr)[r]?=some (encPr (prAt c s r)):=by
 unfold prAt;generalize c.states.getD s []=l at h |-
 rw[w0n,w3b,w0d h];rfl
theorem y38{c d:Mc}(T:Two c d)(h:InP c d x):((c.states.getD x.1 []).map encPr).zip ((d.states.getD x.2 []).map encPr)=(List.range (prod c d).R).map fun r=>(encPr (prAt c x.1 r),encPr (prAt d x.2 r)):=by
 have l1:(c.states.getD x.1 []).length=2^c.m:=T.oc.st _ (q32 h.1);have l2:(d.states.getD x.2 []).length=2^c.m:=by rw[T.hm];exact T.od.st _ (q32 h.2)
 apply w2p;intro r
 by_cases hr:r<2^c.m
 ·rw[w0n,List.getElem?_range (show r<(prod c d).R from hr),(w2h (z:=(encPr (prAt c x.1 r),encPr (prAt d x.2 r)))).mpr ⟨x3h (c:=c) (s:=x.1) (r:=r) (by omega),x3h (c:=d) (s:=x.2) (r:=r) (by omega)⟩];rfl
 ·rw[w1g (by rw[w2z,w0b,w0b];omega),w1g (by rw[w0b,List.length_range];exact Nat.le_of_not_lt hr)]
def Told(g:Gr)(s:S):Prop:=∃w:List Nat,s=.fr (.tup [.str "unlike", .lst (w.map nI)])/\w.length<=400/\g.D (0,0) w/\∀u,g.D (0,0) u->sle w u
theorem x67(n:Nat){c d:Mc}(T:Two c d){Q:Qu}(B:BI (prod c d) (0,0) Q p 0)(hq:Q[p]?=some q)(t7 t8 z9:S)(hz:isDw z9=false):
  (∃e',forP 7 8 (q00 K a (run K a (n+1))) ((List.range (prod c d).R).map fun r=>(encPr (prAt c q.1.1 r),encPr (prAt d q.1.2 r))) (envT c d Q p q.1 0 t7 t8 z9)=.nx e'/\∃Q' t7' t8' z9',isDw z9'=false/\BI (prod c d) (0,0) Q' p (prod c d).R/\Q'[p]?=some q/\e'=envT c d Q' p q.1 (prod c d).R t7' t8' z9') \/
  ∃s e',forP 7 8 (q00 K a (run K a (n+1))) ((List.range (prod c d).R).map fun r=>(encPr (prAt c q.1.1 r),encPr (prAt d q.1.2 r))) (envT c d Q p q.1 0 t7 t8 z9)=.rt s e'/\Told (prod c d) s:=by
 have:=x13 (i:=7) (j:=8) (b:=q00 K a (run K a (n+1))) (fun k e=>∃Q' t7' t8' z9',isDw z9'=false/\BI (prod c d) (0,0) Q' p k/\Q'[p]?=some q/\e=envT c d Q' p q.1 k t7' t8' z9') (Told (prod c d))
  ((List.range (prod c d).R).map fun r=>(encPr (prAt c q.1.1 r),encPr (prAt d q.1.2 r))) 0 (envT c d Q p q.1 0 t7 t8 z9) ⟨Q,t7,t8,z9,hz,B,hq,rfl⟩ fun m pr hm e he=>by
   obtain⟨Q',t7',t8',z9',h1,h2,h3,rfl⟩:=he;rw[w3r]at h2 |-
   obtain⟨r,hr,rfl⟩:∃r,(List.range (prod c d).R)[m]?=some r/\(encPr (prAt c q.1.1 r),encPr (prAt d q.1.2 r))=pr:=by
    rw[w0n]at hm;exact w0g.mp hm
   obtain⟨hlt,rfl⟩:=w0a.mp hr;rw[List.getElem_range];rw[List.length_range]at hlt;have es:((envT c d Q' p q.1 m t7' t8' z9').set 7 (.fr (encPr (prAt c q.1.1 m)))).set 8 (.fr (encPr (prAt d q.1.2 m)))=envT c d Q' p q.1 m (.fr (encPr (prAt c q.1.1 m))) (.fr (encPr (prAt d q.1.2 m))) z9':=rfl;simp only[w3r];rw[es];cases hb:(prod c d).bad q.1 m with
   |true=>
    obtain⟨e',h4⟩:=x94 (K:=K) (a:=a) n T h2 h3 z9' h1 hb;have wl:=h2.wl p q h3;have ll:=h2.len T ⟨T.oc.pos,T.od.pos⟩;have pl:=(w0a.mp h3).1;exact .inr ⟨_,e',h4,_,rfl,by rw[w0v];simp;omega,h2.least h3 hlt hb⟩
   |false=>
    obtain⟨Q2,z2,k1,k2,k3,k4⟩:=x66 (K:=K) (a:=a) n T h2 h3 hlt z9' h1 hb;exact .inl ⟨_,k4,Q2,_,_,z2,k1,k2,k3,rfl⟩
 simpa using this
theorem y0v(x:Nat×Nat):ixW (encN x) (.int 0)=some (.int (x.1:Int)):=rfl
theorem y0w(x:Nat×Nat):ixW (encN x) (.int 1)=some (.int (x.2:Int)):=rfl
theorem at_N{Q:Qu}(hq:Q[p]?=some q):atI (Q.map fun q=>encN q.1) (p:Int)=some (encN q.1):=by
 refine q3q ?_;rw[w0n,hq];rfl
theorem q94(n:Nat){c d:Mc}(T:Two c d):∀(fuel:Nat)(Q:Qu)(p:Nat)(y i t7 t8 z9:S),BI (prod c d) (0,0) Q p 0->p<=Q.length->401<fuel+p->isDw z9=false ->
  (∃Q' e',whileD (q01 K a (run K a (n+1))) (q0p K a (run K a (n+1))) fuel [.fr (encMc c),.fr (encMc d),cameS (prod c d) (0,0) Q,.own none (Q.map fun q=>encN q.1),.fr (.int (p:Int)),y,i,t7,t8,z9]=.nx ([.fr (encMc c),.fr (encMc d),cameS (prod c d) (0,0) Q',.own none (Q'.map fun q=>encN q.1)]++e')/\∀u,¬(prod c d).D (0,0) u) \/
  ∃s e',whileD (q01 K a (run K a (n+1))) (q0p K a (run K a (n+1))) fuel [.fr (encMc c),.fr (encMc d),cameS (prod c d) (0,0) Q,.own none (Q.map fun q=>encN q.1),.fr (.int (p:Int)),y,i,t7,t8,z9]=.rt s e'/\Told (prod c d) s
 |0,Q,p,y,i,t7,t8,z9,B,hp,hf,h9=>by
  have:=B.len T ⟨T.oc.pos,T.od.pos⟩;omega
 |fuel+1,Q,p,y,i,t7,t8,z9,B,hp,hf,h9=>by
  have hl:=B.len T ⟨T.oc.pos,T.od.pos⟩
  have tst:q01 K a (run K a (n+1)) [.fr (encMc c),.fr (encMc d),cameS (prod c d) (0,0) Q,.own none (Q.map fun q=>encN q.1),.fr (.int (p:Int)),y,i,t7,t8,z9]=.ok (decide (p<Q.length)) [.fr (encMc c),.fr (encMc d),cameS (prod c d) (0,0) Q,.own none (Q.map fun q=>encN q.1),.fr (.int (p:Int)),y,i,t7,t8,z9]:=by
   unfold q01;walk_at "den";rw[w0b];simp
  rw[q60,tst]
  by_cases hlt:p<Q.length
  ·rw[decide_eq_true hlt];obtain⟨q,hq⟩:∃q,Q[p]?=some q:=⟨_,w0d hlt⟩;have hin:=B.inp T ⟨T.oc.pos,T.od.pos⟩ q (w0i hq);have rows:=x67 (K:=K) (a:=a) n T B hq t7 t8 z9 h9
   have turn:q0p K a (run K a (n+1)) [.fr (encMc c),.fr (encMc d),cameS (prod c d) (0,0) Q,.own none (Q.map fun q=>encN q.1),.fr (.int (p:Int)),y,i,t7,t8,z9]=(forP 7 8 (q00 K a (run K a (n+1))) ((List.range (prod c d).R).map fun r=>(encPr (prAt c q.1.1 r),encPr (prAt d q.1.2 r))) (envT c d Q p q.1 0 t7 t8 z9)).seq (dSet 4 (dOp addX (dVar 4) (dC (.int 1)))):=by
    unfold q0p;walk_at "den";rw[at_N hq];walk_at "den";rw[q5s];walk_at "den";rw[y0v];walk_at "den";rw[q8j hin.1];walk_at "den";rw[q5s];walk_at "den";rw[y0w];walk_at "den";rw[q8j hin.2];unfold encSt;walk_at "den";rw[y38 T hin];rfl
   rcases rows with⟨e',h1,Q',t7',t8',z9',k1,k2,k3,rfl⟩|⟨s,e',h1,h2⟩
   ·have k4:=k2.next;have hp':p<Q'.length:=(w0a.mp k3).1
    have nxt:(q0p K a (run K a (n+1)) [.fr (encMc c),.fr (encMc d),cameS (prod c d) (0,0) Q,.own none (Q.map fun q=>encN q.1),.fr (.int (p:Int)),y,i,t7,t8,z9])=.nx [.fr (encMc c),.fr (encMc d),cameS (prod c d) (0,0) Q',.own none (Q'.map fun q=>encN q.1),.fr (.int ((p+1:Nat):Int)),.fr (encN q.1),.fr (.int ((prod c d).R:Int)),t7',t8',z9']:=by
     rw[turn,h1];unfold envT;walk_at "den";rfl
    have go:=q94 n T fuel Q' (p+1) (.fr (encN q.1)) (.fr (.int ((prod c d).R:Int))) t7' t8' z9' k4 (by omega) (by omega) k1;rw[show((R.ok true [S.fr (encMc c),.fr (encMc d),cameS (prod c d) (0,0) Q,.own none (Q.map fun q=>encN q.1),.fr (.int (p:Int)),y,i,t7,t8,z9]).stm fun x e1=>if x=true then(q0p K a (run K a (n+1)) e1).turn (whileD (q01 K a (run K a (n+1))) (q0p K a (run K a (n+1))) fuel)else SR.nx e1)=(q0p K a (run K a (n+1)) [S.fr (encMc c),.fr (encMc d),cameS (prod c d) (0,0) Q,.own none (Q.map fun q=>encN q.1),.fr (.int (p:Int)),y,i,t7,t8,z9]).turn (whileD (q01 K a (run K a (n+1))) (q0p K a (run K a (n+1))) fuel)from rfl,nxt]
    exact go
   ·refine .inr ⟨s,e',?_,h2⟩;show((q0p K a (run K a (n+1)) _).turn _)=_;rw[turn,h1];rfl
  ·rw[decide_eq_false hlt];refine .inl ⟨Q,[.fr (.int (p:Int)),y,i,t7,t8,z9],rfl,B.none (by omega)⟩
theorem x14(n:Nat){c d:Mc}(T:Two c d):run K a (n+4) q1l [encMc c,encMc d]=.ok (.fr .non):=by
 have both:run K a (n+3) q0y [encMc c,encMc d]=.ok (.fr .non):=by
  rw[q13];unfold q16;walk_at "den";rw[q26 n c T.oc];walk_at "den";rw[q26 n d T.od];walk_at "den";rw[q1e];walk_at "den";rw[q1e];walk_at "den";rw[T.hm];walk_at "den"
 rw[q2s];unfold q2q;walk_at "den";rw[both];walk_at "den";rw[q1p];walk_at "den";rw[q1p];walk_at "den";rw[T.hw];walk_at "den"
theorem x95(n:Nat){c d:Mc}(T:Two c d):(∃l:List (Nat×Nat),run K a (n+5) q0z [encMc c,encMc d]=.ok (.fr (.tup [.str "alike", .lst (l.map encN)]))/\∀u,¬(prod c d).D (0,0) u) \/
  ∃w:List Nat,run K a (n+5) q0z [encMc c,encMc d]=.ok (.fr (.tup [.str "unlike", .lst (w.map nI)]))/\w.length<=400/\(prod c d).D (0,0) w/\∀u,(prod c d).D (0,0) u->sle w u:=by
 have lp:=q94 (K:=K) (a:=a) (n+3) T 1000000 [((0,0),[])] 0 .no .no .no .no .no (BI.init _ _) (by simp) (by omega) rfl;rw[q2m];unfold q2h;walk_at "den";rw[x14 n T];walk_at "den";rcases lp with⟨Q',e',h1,h2⟩|⟨s,e',h1,w,rfl,h0,h2,h3⟩
 ·have h1':whileD (q01 K a (run K a (n+4))) (q0p K a (run K a (n+4))) 1000000 [S.fr (encMc c),S.fr (encMc d),S.dw (Sh.tup [Sh.int,Sh.int]) [Kx.tup [Kx.int 0,Kx.int 0]] [W.non],S.own none [W.tup [W.int 0,W.int 0]],S.fr (W.int 0),S.no,S.no,S.no,S.no,S.no]=_:=h1;rw[h1'];simp only[List.cons_append,w2y];walk_at "den";exact .inl ⟨Q'.map (·.1),by rw[w1v];rfl,h2⟩
 ·have h1':whileD (q01 K a (run K a (n+4))) (q0p K a (run K a (n+4))) 1000000 [S.fr (encMc c),S.fr (encMc d),S.dw (Sh.tup [Sh.int,Sh.int]) [Kx.tup [Kx.int 0,Kx.int 0]] [W.non],S.own none [W.tup [W.int 0,W.int 0]],S.fr (W.int 0),S.no,S.no,S.no,S.no,S.no]=_:=h1;rw[h1'];exact .inr ⟨w,rfl,h0,h2,h3⟩
noncomputable def okInt(i:Int):Bool:=decide (-32<=i/\i<32)||decide (i=1000000000000)
noncomputable abbrev PrI:=List Bool×Int
noncomputable def encPI(p:PrI):W:=.tup [encB p.1,.int p.2]
noncomputable def encSI(s:List PrI):W:=.lst (s.map encPI)
noncomputable def encMI(m wide:Nat)(sts:List (List PrI)):W:=.tup [.int (m:Int),.int (wide:Int),.lst (sts.map encSI)]
def PrOk(wide size:Nat)(p:PrI):Prop:=p.1.length=wide/\0<=p.2/\p.2<(size:Int)
def StOk(m wide size:Nat)(s:List PrI):Prop:=s.length=2^m/\∀p∈s,PrOk wide size p
def BadM(m wide:Nat)(sts:List (List PrI)):Prop:=sts=[]\/∃s∈sts,¬StOk m wide sts.length s
noncomputable def toP(p:Pr):PrI:=(p.1,(p.2:Int))
noncomputable def toI(c:Mc):List (List PrI):=c.states.map fun s=>s.map toP
theorem x3i(s:List Pr):encSt s=encSI (s.map toP):=by
 unfold encSt encSI;rw[w1v];rfl
theorem q1q(c:Mc):encMc c=encMI c.m c.wide (toI c):=by
 unfold encMc encMI toI;rw[w1v];congr 4;exact congrArg W.lst (w2k fun s _=>x3i s)
def SzI(sts:List (List PrI)):Prop:=sts.length<=20/\∀s∈sts,s.length<=9/\∀p∈s,p.1.length<=13/\okInt p.2=true
theorem x68(m wide:Nat)(sts:List (List PrI)):ixW (encMI m wide sts) (.int 0)=some (.int (m:Int)):=rfl
theorem x69(m wide:Nat)(sts:List (List PrI)):ixW (encMI m wide sts) (.int 1)=some (.int (wide:Int)):=rfl
theorem x15(m wide:Nat)(sts:List (List PrI)):ixW (encMI m wide sts) (.int 2)=some (.lst (sts.map encSI)):=rfl
theorem x3j{i:Nat}(I:Nat->List S->Prop)(B:W->Prop):∀(ws:List W)(k:Nat)(e:List S),I k e->(∀(j:Nat)(w:W)(e:List S),w∈ws->j<k+ws.length->I j e->(∃e',b (e.set i (.fr w))=.nx e'/\I (j+1) e'/\¬B w)\/(∃e',b (e.set i (.fr w))=.ex v e'))->(∃w∈ws,B w)->∃e',forD i b ws e=.ex v e'
 |[],_,_,_,_,⟨_,hw,_⟩=>nomatch hw
 |w::ws,k,e,h0,h,hB=>by
  rcases h k w e (by simp) (by simp) h0 with⟨e1,h1,h2,h3⟩|⟨e1,h1⟩
  ·obtain⟨u,hu,hb⟩:=hB;rcases w0p.mp hu with rfl|hu
   ·exact absurd hb h3
   ·obtain⟨e2,h4⟩:=x3j I B ws (k+1) e1 h2 (fun j u e hu hj=>h j u e (by simp[hu]) (by simp only[w0x];omega)) ⟨u,hu,hb⟩
    exact⟨e2,by rw[q39,h1,q6z,h4]⟩
  ·exact⟨e1,by rw[q39,h1,x22]⟩
theorem x16{i:Nat}(I:List S->Prop)(B:W×W->Prop):∀(ps:List (W×W))(e:List S),I e->(∀p∈ps,∀e,I e->(∃e',b ((e.set i (.fr p.1)).set j (.fr p.2))=.nx e'/\I e'/\¬B p)\/(∃e',b ((e.set i (.fr p.1)).set j (.fr p.2))=.ex v e'))->(∃p∈ps,B p)->∃e',forP i j b ps e=.ex v e'
 |[],_,_,_,⟨_,hw,_⟩=>nomatch hw
 |p::ps,e,h0,h,hB=>by
  rcases h p (by simp) e h0 with⟨e1,h1,h2,h3⟩|⟨e1,h1⟩
  ·obtain⟨u,hu,hb⟩:=hB;rcases w0p.mp hu with rfl|hu
   ·exact absurd hb h3
   ·obtain⟨e2,h4⟩:=x16 I B ps e1 h2 (fun q hq=>h q (by simp[hq])) ⟨u,hu,hb⟩
    refine⟨e2,?_⟩;show(b ((e.set i (.fr p.1)).set j (.fr p.2))).turnT (forP i j b ps)=_;rw[h1];exact h4
  ·refine⟨e1,?_⟩;show(b ((e.set i (.fr p.1)).set j (.fr p.2))).turnT (forP i j b ps)=_;rw[h1];rfl
theorem q6q(n m wide:Nat)(sts:List (List PrI))(f:Int):run K a (n+1) q17 [encMI m wide sts,.int f]=.ok (.fr (.bl (decide (0<=f/\f<(sts.length:Int))))):=by
 rw[q3z];unfold q3v;walk_at "den"
 by_cases h:(0:Int)<=f
 ·rw[if_pos h];rw[x15];walk_at "den";rw[w0b];simp[h]
 ·rw[if_neg h];simp[h]
theorem x2p(l:List PrI):pairsW (l.map encPI)=some (l.map fun p=>(encB p.1,W.int p.2)):=by
 induction l with
 |nil=>rfl
 |cons p l ih=>
  rw[w0r,w0r];show(pairsW (l.map encPI)).map _=_;rw[ih];rfl
theorem q6r(n m wide:Nat)(sts:List (List PrI))(p:PrI)(z1 z2 z3:S):(PrOk wide sts.length p->q1a K a (run K a (n+1)) [.fr (encMI m wide sts),z1,z2,z3,.fr (encB p.1),.fr (.int p.2)]=.nx [.fr (encMI m wide sts),z1,z2,z3,.fr (encB p.1),.fr (.int p.2)]) /\
  (¬PrOk wide sts.length p->∃e',q1a K a (run K a (n+1)) [.fr (encMI m wide sts),z1,z2,z3,.fr (encB p.1),.fr (.int p.2)]=.ex (.ref a.NoMachine) e'):=by
 unfold q1a encB;walk_at "den";rw[x69];walk_at "den";rw[w0b]
 by_cases h:(p.1.length:Int)=(wide:Int)
 ·rw[if_neg (by simpa using h)];walk_at "den";rw[q6q n];walk_at "den"
  by_cases hf:0<=p.2/\p.2<(sts.length:Int)
  ·rw[decide_eq_true hf];walk_at "den";exact⟨fun _=>trivial,fun hn=>absurd ⟨by omega,hf⟩ hn⟩
  ·rw[decide_eq_false hf];walk_at "den";exact⟨fun hn=>absurd hn.2 hf,fun _=>⟨_,rfl⟩⟩
 ·rw[if_pos (by simpa using h)];walk_at "den";exact⟨fun hn=>absurd (by have:=hn.1;omega) h,fun _=>⟨_,rfl⟩⟩
theorem q8m(n m wide:Nat)(hm:m<=100)(sts:List (List PrI))(s:List PrI)(z1 z4 z5:S):(StOk m wide sts.length s->∃z4' z5',q1k K a (run K a (n+1)) [.fr (encMI m wide sts),z1,.fr (.int ((2^m:Nat):Int)),.fr (encSI s),z4,z5]=.nx [.fr (encMI m wide sts),z1,.fr (.int ((2^m:Nat):Int)),.fr (encSI s),z4',z5']) /\
  (¬StOk m wide sts.length s->∃e',q1k K a (run K a (n+1)) [.fr (encMI m wide sts),z1,.fr (.int ((2^m:Nat):Int)),.fr (encSI s),z4,z5]=.ex (.ref a.NoMachine) e'):=by
 generalize hP:2^m=P;unfold q1k encSI;walk_at "den";rw[w0b]
 by_cases h:(s.length:Int)=(P:Int)
 ·rw[if_neg (by simpa using h)];walk_at "den";rw[x2p];walk_at "den"
  have inv:∀q∈s.map (fun p=>(encB p.1,W.int p.2)),∃p∈s,q=(encB p.1,W.int p.2):=fun q hq=>by
   obtain⟨p,hp,rfl⟩:=w0q.mp hq;exact⟨p,hp,rfl⟩
  constructor
  ·intro hs
   obtain⟨e1,h1,z4,z5,rfl⟩:=q7t (i:=4) (j:=5) (b:=q1a K a (run K a (n+1))) (fun e=>∃z4 z5,e=[.fr (encMI m wide sts),z1,.fr (.int (P:Int)),.fr (.lst (s.map encPI)),z4,z5]) (s.map fun p=>(encB p.1,W.int p.2)) [.fr (encMI m wide sts),z1,.fr (.int (P:Int)),.fr (.lst (s.map encPI)),z4,z5] ⟨_,_,rfl⟩ (by
    rintro q hq e ⟨z4,z5,rfl⟩;obtain⟨p,hp,rfl⟩:=inv q hq;exact⟨_,(q6r n m wide sts p z1 _ _).1 (hs.2 p hp),_,_,rfl⟩)
   rw[h1];exact⟨_,_,rfl⟩
  ·intro hs;have hb:∃p∈s,¬PrOk wide sts.length p:=Classical.byContradiction fun hn=>hs ⟨by omega,fun p hp=>Classical.byContradiction fun hq=>hn ⟨p,hp,hq⟩⟩
   obtain⟨e1,h1⟩:=x16 (i:=4) (j:=5) (b:=q1a K a (run K a (n+1))) (v:=.ref a.NoMachine) (fun e=>∃z4 z5,e=[.fr (encMI m wide sts),z1,.fr (.int (P:Int)),.fr (.lst (s.map encPI)),z4,z5]) (fun q=>∀p∈s,q=(encB p.1,W.int p.2)->¬PrOk wide sts.length p) (s.map fun p=>(encB p.1,W.int p.2)) [.fr (encMI m wide sts),z1,.fr (.int (P:Int)),.fr (.lst (s.map encPI)),z4,z5] ⟨_,_,rfl⟩ (by
    rintro q hq e ⟨z4,z5,rfl⟩;obtain⟨p,hp,rfl⟩:=inv q hq
    by_cases hk:PrOk wide sts.length p
    ·exact .inl ⟨_,(q6r n m wide sts p z1 _ _).1 hk,⟨_,_,rfl⟩,fun hn=>hn p hp rfl hk⟩
    ·exact .inr ((q6r n m wide sts p z1 _ _).2 hk)) (by
    obtain⟨p,hp,hb⟩:=hb;refine⟨(encB p.1,W.int p.2),w3a hp,fun q _ he=>?_⟩
    have h1:p.1=q.1:=by
     have:=(Prod.mk.inj he).1;unfold encB at this;injection this with this
     have hinj:∀x y,W.bl x=W.bl y->x=y:=fun x y h=>by injection h
     exact(w2n hinj).mp this
    have h2:p.2=q.2:=by
     have:=(Prod.mk.inj he).2;injection this
    have:p=q:=Prod.ext h1 h2;rw[<- this];exact hb)
   rw[h1];exact⟨_,rfl⟩
 ·rw[if_pos (by simpa using h)];walk_at "den";exact⟨fun hn=>absurd (by have:=hn.1;omega) h,fun _=>⟨_,rfl⟩⟩
theorem q8n(n m wide:Nat)(hm:m<=100)(sts:List (List PrI))(hb:BadM m wide sts):run K a (n+2) q1t [encMI m wide sts]=.ex (.ref a.NoMachine):=by
 rw[q2l];unfold q2g;walk_at "den";rw[x15];walk_at "den";rw[x68];walk_at "den";rw[x1w n m hm];walk_at "den";rw[w0b];rcases hb with rfl|⟨s,hs,hb⟩
 ·rw[if_pos (by rfl)]
 ·have hp:0<sts.length:=w3n hs;rw[if_neg (by omega)];walk_at "den"
  obtain⟨e1,h1⟩:=x3j (i:=3) (b:=q1k K a (run K a (n+1))) (v:=.ref a.NoMachine) (fun _ e=>∃z3 z4 z5,e=[.fr (encMI m wide sts),.fr (.lst (sts.map encSI)),.fr (.int ((2^m:Nat):Int)),z3,z4,z5]) (fun w=>∀s∈sts,w=encSI s->¬StOk m wide sts.length s) (sts.map encSI) 0 [.fr (encMI m wide sts),.fr (.lst (sts.map encSI)),.fr (.int ((2^m:Nat):Int)),.no,.no,.no] ⟨_,_,_,rfl⟩ (by
   rintro j w e hw _ ⟨z3,z4,z5,rfl⟩;obtain⟨s,hs,rfl⟩:=w0q.mp hw
   by_cases hk:StOk m wide sts.length s
   ·obtain⟨z4',z5',h1⟩:=(q8m n m wide hm sts s (.fr (.lst (sts.map encSI))) z4 z5).1 hk;exact .inl ⟨_,h1,⟨_,_,_,rfl⟩,fun hn=>hn s hs rfl hk⟩
   ·exact .inr ((q8m n m wide hm sts s (.fr (.lst (sts.map encSI))) z4 z5).2 hk)) (by
   refine⟨encSI s,w3a hs,fun t _ he=>?_⟩
   have hinj:∀x y,encPI x=encPI y->x=y:=fun x y h=>by
    unfold encPI at h;injection h with h
    injection h with h1 h2
    injection h2 with h2 _
    injection h2 with h2
    unfold encB at h1;injection h1 with h1
    exact Prod.ext ((w2n (fun x y h=>by injection h)).mp h1) h2
   unfold encSI at he;injection he with he
   rw[<- (w2n hinj).mp he];exact hb)
  rw[h1];rfl
mutual
noncomputable def plainV:W->Bool
 |.non=>true
 |.bl _=>true
 |.int i=>okInt i
 |.tup ws=>plainVs ws
 |.lst ws=>plainVs ws
 |_=>false
noncomputable def plainVs:List W->Bool
 |[]=>true
 |w::ws=>plainV w&&plainVs ws
end
theorem x4p:∀n:Fin 64,PyData.showable (.int ((n.val:Int)-32))=true/\PyData.leavesShort 13 (.int ((n.val:Int)-32))=true/\(PyData.int ((n.val:Int)-32)).weight<=60:=by decide +kernel
theorem x96:PyData.showable (.int 1000000000000)=true/\PyData.leavesShort 13 (.int 1000000000000)=true/\(PyData.int 1000000000000).weight<=60:=by decide +kernel
theorem q54{i:Int}(h:okInt i=true):PyData.showable (.int i)=true/\PyData.leavesShort 13 (.int i)=true/\(PyData.int i).weight<=60:=by
 unfold okInt at h;rw[w2x]at h;rcases h with h|h
 ·have h:=of_decide_eq_true h;obtain⟨n,rfl⟩:∃n:Fin 64,i=((n.val:Int)-32):=⟨⟨(i+32).toNat,by omega⟩,by simp;omega⟩;exact x4p n
 ·rw[of_decide_eq_true h];exact x96
mutual
theorem q95:∀(w:W),plainV w=true->∃d,toD w=some d/\d.showable=true/\d.leavesShort 13=true/\d.depth=depW w/\d.weight=wgt w
 |.non,_=>⟨.none,rfl,rfl,rfl,rfl,rfl⟩
 |.bl b,_=>⟨.bool b,rfl,rfl,rfl,rfl,rfl⟩
 |.tup ws,h=>by
  obtain⟨ds,h1,h2,h3,h4,h5⟩:=q5h ws h;exact⟨.tuple ds,by show(toDs ws).map _=_;rw[h1];rfl,h2,h3,by show PyData.depthAll ds+1=_;rw[h4];rfl,by show PyData.weightAll ds=_;rw[h5];rfl⟩
 |.lst ws,h=>by
  obtain⟨ds,h1,h2,h3,h4,h5⟩:=q5h ws h;exact⟨.list ds,by show(toDs ws).map _=_;rw[h1];rfl,h2,h3,by show PyData.depthAll ds+1=_;rw[h4];rfl,by show PyData.weightAll ds=_;rw[h5];rfl⟩
 |.int i,h=>by
  obtain⟨h1,h2,_⟩:=q54 (i:=i) h;exact⟨.int _,rfl,h1,h2,rfl,rfl⟩
 |.str i,h=>by cases h
 |.exc i,h=>by cases h
 |.dic i,h=>by cases h
theorem q5h:∀(ws:List W),plainVs ws=true->∃ds,toDs ws=some ds/\PyData.showableAll ds=true/\PyData.leavesShortAll 13 ds=true/\PyData.depthAll ds=depWs ws/\PyData.weightAll ds=wgts ws
 |[],_=>⟨[],rfl,rfl,rfl,rfl,rfl⟩
 |w::ws,h=>by
  have h:(plainV w&&plainVs ws)=true:=h;rw[w1d]at h;obtain⟨d,d1,d2,d3,d4,d5⟩:=q95 w h.1;obtain⟨ds,h1,h2,h3,h4,h5⟩:=q5h ws h.2;refine⟨d::ds,?_,?_,?_,?_,?_⟩
  ·unfold toDs;rw[d1,h1]
  ·show(PyData.showable d&&PyData.showableAll ds)=true;rw[d2,h2];rfl
  ·show(PyData.leavesShort 13 d&&PyData.leavesShortAll 13 ds)=true;rw[d3,h3];rfl
  ·show max d.depth (PyData.depthAll ds)=_;rw[d4,h4];rfl
  ·show d.weight+1+PyData.weightAll ds=_;rw[d5,h5];rfl
end
theorem q96:∀bs:List Bool,plainVs (bs.map .bl)=true
 |[]=>rfl
 |b::bs=>q96 bs
theorem q8o:∀s:List PrI,(∀p∈s,p.1.length<=13/\okInt p.2=true)->plainVs (s.map encPI)=true/\depWs (s.map encPI)<=2/\wgts (s.map encPI)<=80*s.length
 |[],_=>⟨rfl,w1a _,w1a _⟩
 |p::s,h=>by
  obtain⟨i1,i2,i3⟩:=q8o s fun q hq=>h q (by simp[hq])
  obtain⟨p1,p2⟩:=h p (by simp);obtain⟨_,b2,b3⟩:=q5e p.1;have b1:=q96 p.1;have hg:=(q54 p2).2.2;refine⟨?_,?_,?_⟩
  ·show((plainVs (p.1.map .bl)&&(okInt p.2&&true))&&plainVs (s.map encPI))=true;rw[b1,p2,i1];rfl
  ·show max (max (depWs (p.1.map .bl)+1) (max 0 0)+1) (depWs (s.map encPI))<=2;rw[b2];omega
  ·show(wgts (p.1.map .bl)+1+((PyData.int p.2).weight+1+0))+1+wgts (s.map encPI)<=80*(s.length+1);rw[b3];omega
theorem q8p:∀l:List (List PrI),(∀s∈l,s.length<=9/\∀p∈s,p.1.length<=13/\okInt p.2=true)->plainVs (l.map encSI)=true/\depWs (l.map encSI)<=3/\wgts (l.map encSI)<=1000*l.length
 |[],_=>⟨rfl,w1a _,w1a _⟩
 |s::l,h=>by
  obtain⟨i1,i2,i3⟩:=q8p l fun q hq=>h q (by simp[hq])
  obtain⟨s1,s2⟩:=h s (by simp);obtain⟨b1,b2,b3⟩:=q8o s s2;refine⟨?_,?_,?_⟩
  ·show(plainVs (s.map encPI)&&plainVs (l.map encSI))=true;rw[b1,i1];rfl
  ·show max (depWs (s.map encPI)+1) (depWs (l.map encSI))<=3;omega
  ·show wgts (s.map encPI)+1+wgts (l.map encSI)<=1000*(l.length+1);omega
theorem q89(M:Exs K mg a)(n:Nat):run K a (n+1) q1u [.exc (.ref a.NoMachine),.int 2]=.ok (.fr (.bl true)):=by
 rw[q2a];unfold q2r;walk_at "den";rw[q05 M.c_NoMachine M.k_NoMachine_NoName];walk_at "den";rw[q05 M.c_NoMachine M.k_NoMachine_BadText];walk_at "den";rw[q05 M.c_NoMachine M.k_NoMachine_NoRow];walk_at "den";rw[q05 M.c_NoMachine M.k_NoMachine_NoTable];walk_at "den";rw[q05 M.c_NoMachine M.k_NoMachine_TooGreat];walk_at "den";rw[q05 M.c_NoMachine M.k_NoMachine_BadSheet];walk_at "den";rw[q05 M.c_NoMachine M.k_NoMachine_NoPlace];walk_at "den";rw[q05 M.c_NoMachine M.k_NoMachine_UnlikeSizes];walk_at "den";rw[q05 M.c_NoMachine M.k_NoMachine_NoMachine];walk_at "den";rw[show eq2 (.lst [.bl false,.bl false,.bl true]) (.lst [.bl false,.bl false,.bl true])=some (.bl true) by rfl];walk_at "den";rw[q05 M.c_NoMachine M.k_NoMachine_CircuitError];walk_at "den";rw[q05 M.c_NoMachine M.k_NoMachine_ValueError];walk_at "den"
theorem q9a(M:Exs K mg a)(n:Nat):run K a (n+1) q1u [.exc (.ref a.UnlikeSizes),.int 1]=.ok (.fr (.bl true)):=by
 rw[q2a];unfold q2r;walk_at "den";rw[q05 M.c_UnlikeSizes M.k_UnlikeSizes_NoName];walk_at "den";rw[q05 M.c_UnlikeSizes M.k_UnlikeSizes_BadText];walk_at "den";rw[q05 M.c_UnlikeSizes M.k_UnlikeSizes_NoRow];walk_at "den";rw[q05 M.c_UnlikeSizes M.k_UnlikeSizes_NoTable];walk_at "den";rw[q05 M.c_UnlikeSizes M.k_UnlikeSizes_TooGreat];walk_at "den";rw[q05 M.c_UnlikeSizes M.k_UnlikeSizes_BadSheet];walk_at "den";rw[q05 M.c_UnlikeSizes M.k_UnlikeSizes_NoPlace];walk_at "den";rw[q05 M.c_UnlikeSizes M.k_UnlikeSizes_UnlikeSizes];walk_at "den";rw[q05 M.c_UnlikeSizes M.k_UnlikeSizes_NoMachine];walk_at "den";rw[show eq2 (.lst [.bl false,.bl true,.bl false]) (.lst [.bl false,.bl true,.bl false])=some (.bl true) by rfl];walk_at "den";rw[q05 M.c_UnlikeSizes M.k_UnlikeSizes_CircuitError];walk_at "den";rw[q05 M.c_UnlikeSizes M.k_UnlikeSizes_ValueError];walk_at "den"
theorem q97(n m wide:Nat)(sts:List (List PrI))(hs:SzI sts):run K a (n+1) q18 [encMI m wide sts]=.ok (.fr (encMI m wide sts)):=by
 have hm:=hs.1;rw[q4q];unfold q4i;walk_at "den";rw[x68];walk_at "den";rw[x69];walk_at "den";rw[x15];walk_at "den";rw[if_pos (by rw[w0b];omega),q7j (g:=id)]
 ·walk_at "den";rw[List.map_id];rfl
 ·intro w hw;obtain⟨s,hs',rfl⟩:=w0q.mp hw;have hl:=(hs.2 s hs').1;unfold q56 encSI;walk_at "den";exact⟨_,rfl⟩
noncomputable def spo45(K:PySem.W.Frag)(a:Adr)(n:Nat):List S->SR:=
 (dSeq (dIfS (dTest (dOp eq2 (dVar 2) (dC (.int 0))))
  (dSet 3 (dFz (dLst dNil)))
  dNx)
  (dSeq (dIfS (dTest (dOp eq2 (dVar 2) (dC (.int 1))))
  (dMutN 3 insF (dVar 4) (dCons (dVar 5) (dCons (dVar 6) dNil)))
  dNx)
  (dSeq (dIfS (dTest (dOp eq2 (dVar 2) (dC (.int 2))))
  (dMutN 3 popF (dVar 4) (dCons (dVar 5) dNil))
  dNx)
  (dSeq (dIfS (dTest (dOp eq2 (dVar 2) (dC (.int 3))))
  (dPutN 3 (dTup (dCons (dOp addX (dOp ixW (dVar 6) (dC (.int 0))) (dTup (dCons (dC (.bl false)) dNil))) (dCons (dOp ixW (dVar 6) (dC (.int 1))) dNil))) (dVar 4) (dVar 5))
  dNx)
  (dSeq (dIfS (dAnd (dTest (dOp eq2 (dVar 2) (dC (.int 4)))) (dTest (dOp gtW (dOp ixW (dVar 0) (dC (.int 1))) (dC (.int 0)))))
  (dPutN 3 (dTup (dCons (dSl (dOp ixW (dVar 6) (dC (.int 0))) (dPart (dC (.int 1))) dNoPart) (dCons (dOp ixW (dVar 6) (dC (.int 1))) dNil))) (dVar 4) (dVar 5))
  dNx)
  (dSeq (dIfS (dOr (dTest (dOp gtW (dVar 2) (dC (.int 4)))) (dAnd (dTest (dOp eq2 (dVar 2) (dC (.int 4)))) (dTest (dOp eq2 (dOp ixW (dVar 0) (dC (.int 1))) (dC (.int 0))))))
  (dPutN 3 (dTup (dCons (dOp ixW (dVar 6) (dC (.int 0))) (dCons (dOp ixW (dFz (dLst (dCons (dUn negW (dC (.int 1))) (dCons (dBorrow (dFn len1 (dCons (dVar 3) dNil))) (dCons (dUn negW (dBorrow (dFn len1 (dCons (dVar 3) dNil)))) (dCons (dOp powW (dC (.int 10)) (dC (.int 12))) dNil)))))) (dOp modW (dOp fdivW (dVar 1) (dC (.int 1280))) (dC (.int 4)))) dNil))) (dVar 4) (dVar 5))
  dNx)
  (dRet (dTup (dCons (dOp ixW (dVar 0) (dC (.int 0))) (dCons (dOp ixW (dVar 0) (dC (.int 1))) (dCons (dVarN 3) dNil)))))))))))
theorem y71:q3l K a (run K a n)=(dSeq (dSet 2 (dOp modW (dVar 1) (dC (.int 8))))
  (dSeq (dSetN 3 [] (dOp ixW (dVar 0) (dC (.int 2))) (dList (dCons (dVar 0) dNil)))
  (dSeq (dSet 4 (dOp modW (dOp fdivW (dVar 1) (dC (.int 8))) (dBorrow (dFn len1 (dCons (dVar 3) dNil)))))
  (dSeq (dSet 5 (dOp modW (dOp fdivW (dVar 1) (dC (.int 160))) (dBorrow (dFn len1 (dCons (dOp ixW (dVar 3) (dVar 4)) dNil)))))
  (dSeq (dSet 6 (dIxN 3 (dVar 4) (dVar 5)))
  (spo45 K a n)))))):=rfl
noncomputable def end62(K:PySem.W.Frag)(a:Adr)(n:Nat):List S->SR:=
 (dSeq (dSet 5 (dFz (dLst (dCons (dCall (run K a n q18) (dCons (dVar 1) dNil)) (dCons (dCall (run K a n q18) (dCons (dVar 2) dNil)) dNil)))))
  (dSeq (dSet 6 (dFz (dCompR rng1 [5] (dCons (dC (.int 3)) dNil) dYes (q86 K a (run K a n)))))
  (dRet (dAndV (dOp eq2 (dVar 6) (dVar 4)) (dOp eq2 (dFn repr1 (dCons (dVar 5) dNil)) (dFn repr1 (dCons (dFz (dLst (dCons (dVar 1) (dCons (dVar 2) dNil)))) dNil)))))))
noncomputable def mid62(K:PySem.W.Frag)(a:Adr)(n:Nat):List S->SR:=
 (dSeq (dIfS (dTest (dOp eq2 (dOp modW (dVar 3) (dC (.int 4))) (dC (.int 1))))
  (dSet 1 (dCall (run K a n q1x) (dCons (dVar 1) (dCons (dOp fdivW (dVar 3) (dC (.int 4))) dNil))))
  dNx)
  (dSeq (dIfS (dTest (dOp eq2 (dOp modW (dVar 3) (dC (.int 4))) (dC (.int 3))))
  (dSet 2 (dCall (run K a n q1x) (dCons (dVar 2) (dCons (dOp fdivW (dVar 3) (dC (.int 4))) dNil))))
  dNx)
  (dSeq (dIfS (dTest (dOp eq2 (dOp modW (dVar 3) (dC (.int 2))) (dC (.int 1))))
  (dSet 4 (dFz (dLst (dCons (dC (.str "machine")) (dCons (dC (.str "machine")) (dCons (dC (.str "machine")) dNil))))))
  dNx)
  (end62 K a n))))
theorem y72:x0t K a (run K a n)=(dSeq (dSet 1 (dCall (run K a n q09) (dCons (dVar 0) (dCons (dC (.int 0)) dNil))))
  (dSeq (dSet 2 (dCall (run K a n q09) (dCons (dVar 0) (dCons (dC (.int 8)) dNil))))
  (dSeq (dSet 3 (dCall (run K a n q1g) (dCons (dVar 0) (dCons (dC (.int 20)) dNil))))
  (dSeq (dSet 4 (dFz (dLst (dCons (dC (.str "none")) (dCons (dC (.str "none")) (dCons (dC (.str "none")) dNil))))))
  (dSeq (dIfS (dTest (dOp ne2 (dOp ixW (dVar 1) (dC (.int 1))) (dOp ixW (dVar 2) (dC (.int 1)))))
  (dSet 4 (dFz (dLst (dCons (dC (.str "none")) (dCons (dC (.str "sizes")) (dCons (dC (.str "sizes")) dNil))))))
  dNx)
  (dSeq (dIfS (dTest (dOp ne2 (dOp ixW (dVar 1) (dC (.int 0))) (dOp ixW (dVar 2) (dC (.int 0)))))
  (dSet 4 (dFz (dLst (dCons (dC (.str "sizes")) (dCons (dC (.str "sizes")) (dCons (dC (.str "sizes")) dNil))))))
  dNx)
  (mid62 K a n))))))):=rfl
noncomputable def unl:W->List W
 |.lst ws=>ws
 |_=>[]
noncomputable def inn(c:Mc):List (List W):=c.states.map fun s=>s.map encPr
theorem x3k(c:Mc):(inn c).map W.lst=c.states.map encSt:=by
 unfold inn;rw[w1v];rfl
theorem x7a{c:Mc}(hj:j<c.states.length):atI (inn c) (j:Int)=some ((c.states.getD j []).map encPr):=by
 refine q3q ?_;unfold inn;rw[w0n,w0d hj];simp[List.getD,hj]
theorem y73{c:Mc}(hj:j<c.states.length):ixN (inn c).length (j:Int)=some j:=by
 unfold inn;rw[w0b];unfold ixN;rw[if_pos (by omega),if_pos (by omega)];rfl
theorem y39(c:Mc)(j:Nat)(s':List PrI):((inn c).set j (s'.map encPI)).map W.lst=((toI c).set j s').map encSI:=by
 rw[w4e,w4e,x3k];congr 1;unfold toI;rw[w1v];exact w2k fun s _=>x3i s
theorem y74{s:List Pr}(hk:k<s.length):atI (s.map encPr) (k:Int)=some (encPr s[k]):=by
 refine q3q ?_;rw[w0n,w0d hk];rfl
theorem q9b(s:List Pr):s.map encPr=(s.map toP).map encPI:=by
 rw[w1v];rfl
theorem q65(c:Mc):(toI c).length=c.states.length:=by unfold toI;rw[w0b]
theorem y4a{c:Mc}(hc:c.Ok):∀s∈toI c,s.length=2^c.m/\∀p∈s,p.1.length=c.wide/\0<=p.2/\p.2<(c.states.length:Int):=by
 intro s hs;unfold toI at hs;obtain⟨t,ht,rfl⟩:=w0q.mp hs;refine⟨by rw[w0b];exact hc.st t ht,fun p hp=>?_⟩
 obtain⟨q,hq,rfl⟩:=w0q.mp hp;obtain⟨h1,h2⟩:=hc.pr t ht q hq;exact⟨h1,by show(0:Int)<=(q.2:Int);omega,by show(q.2:Int)<_;omega⟩
theorem pow8{m:Nat}(h:m<=3):1<=2^m/\2^m<=8:=⟨Nat.one_le_two_pow,w0w (w2g (by decide) h) (by decide)⟩
theorem okS{i:Int}(h1:-32<=i)(h2:i<32):okInt i=true:=by unfold okInt;rw[decide_eq_true ⟨h1,h2⟩];rfl
theorem q6s{c:Mc}(hc:c.Ok):SzI (toI c):=by
 have hm:=hc.most;have hw:=hc.wd;refine⟨by rw[q65];exact hm,fun s hs=>?_⟩
 obtain⟨h1,h2⟩:=y4a hc s hs;have:=pow8 hc.few;refine⟨by omega,fun p hp=>?_⟩
 obtain⟨h3,h4,h5⟩:=h2 p hp;exact⟨by omega,okS (by omega) (by omega)⟩
theorem y4b{c:Mc}(hc:c.Ok)(hj:j<c.states.length)(s':List PrI)(h1:s'.length<=9)(h2:∀p∈s',p.1.length<=13/\okInt p.2=true)(h3:¬StOk c.m c.wide c.states.length s'):BadM c.m c.wide ((toI c).set j s')/\SzI ((toI c).set j s'):=by
 have hl:((toI c).set j s').length=c.states.length:=by rw[w3q,q65]
 have hm:s'∈(toI c).set j s':=w0i (i:=j) (w0f (by rw[q65];exact hj));refine⟨.inr ⟨s',hm,by rw[hl];exact h3⟩,by rw[hl];exact hc.most,fun s hs=>?_⟩
 rcases w3e hs with h|rfl
 ·exact(q6s hc).2 s h
 ·exact⟨h1,h2⟩
theorem y4c(size cell:Int)(h1:0<size)(h2:size<=20):∃f:Int,atI [W.int (-1),.int size,.int (-size),.int 1000000000000] (cell%4)=some (.int f)/\¬(0<=f/\f<size)/\okInt f=true:=by
 have:cell%4=0\/cell%4=1\/cell%4=2\/cell%4=3:=by omega
 rcases this with h|h|h|h<;>rw[h]
 ·exact⟨-1,rfl,by omega,by decide⟩
 ·exact⟨size,rfl,by omega,okS (by omega) (by omega)⟩
 ·exact⟨-size,rfl,by omega,okS (by omega) (by omega)⟩
 ·exact⟨1000000000000,rfl,by omega,by decide⟩
theorem x97{β:Type}{f:α->β}{xs:List α}{y:α}:insV (xs.map f) k (f y)=(insV xs k y).map f:=by
 unfold insV;rw[w0l,w0r,List.map_take,List.map_drop]
theorem x17{xs:List α}{y:α}(h:k<=xs.length):(insV xs k y).length=xs.length+1:=by
 unfold insV;simp only[w0v,w0x,w2i,w2s];omega
theorem x98{xs:List α}{y z:α}(h:z∈insV xs k y):z=y\/z∈xs:=by
 unfold insV at h;rcases w1h.mp h with h|h
 ·exact .inr (List.mem_of_mem_take h)
 ·rcases w0p.mp h with h|h
  ·exact .inl h
  ·exact .inr (List.mem_of_mem_drop h)
theorem q98{β:Type}{f:α->β}:∀(xs:List α)(k:Nat),(xs.map f).eraseIdx k=(xs.eraseIdx k).map f
 |[],_=>rfl
 |_::_,0=>rfl
 |x::xs,k+1=>by
  rw[w0r,w3j,w3j,w0r,q98 xs k]
theorem y4d(bs:List Bool)(h:0<bs.length):slW (.tup (bs.map .bl)) (some 1) none=some (.tup (bs.tail.map .bl)):=by
 have e1:HT.sIx (bs.map W.bl).length 0 (some 1)=1:=by
  rw[show(1:Int)=((1:Nat):Int)from rfl,HT.sIx_nat,w0b];omega
 show(if ¬(HT.sIx (bs.map W.bl).length 0 (some 1)=0/\_)then some (W.tup (cutW (bs.map W.bl) (some 1) none))else none)=_;rw[e1,if_pos (by omega)];unfold cutW;rw[e1];show some (W.tup (((bs.map W.bl).drop 1).take ((bs.map W.bl).length-1)))=_;rw[w3m (by simp),<- List.map_drop,List.drop_one]
theorem y4e(n:Nat)(c:Mc)(hc:c.Ok)(cell:Int)(j k:Nat)(hj:j<c.states.length)(hk:k<(c.states.getD j []).length):
  ∃sts':List (List PrI),BadM c.m c.wide sts'/\SzI sts'/\(spo45 K a n [.fr (encMc c),.fr (.int cell),.fr (.int (cell%8)),.nest (inn c),.fr (.int (j:Int)),.fr (.int (k:Int)),.fr (encPr ((c.states.getD j [])[k]))]).fn=.ok (.fr (encMI c.m c.wide sts')):=by
 obtain⟨hs1,_⟩:=hc.state hj;have hlen:=hc.st _ hs1;have hpr:=hc.pr _ hs1;have hat:=x7a (c:=c) hj;have hix:=y73 (c:=c) hj;have p8:=pow8 hc.few;have hw:=hc.wd;have hmost:=hc.most;generalize hs:c.states.getD j []=s at *;have hp:=hpr _ (w1r hk)
 have old:∀q∈s.map toP,q.1.length<=13/\okInt q.2=true:=fun q hq=>by
  obtain⟨u,hu,rfl⟩:=w0q.mp hq;obtain⟨h1,h2⟩:=hpr u hu;exact⟨by show u.1.length<=13;omega,okS (show -32<=(u.2:Int) by omega) (show(u.2:Int)<32 by omega)⟩
 have fin:∀s':List PrI,s'.length<=9->(∀p∈s',p.1.length<=13/\okInt p.2=true)->¬StOk c.m c.wide c.states.length s'->∀R:FR,R=.ok (.fr (.tup [.int (c.m:Int),.int (c.wide:Int),.lst (((inn c).set j (s'.map encPI)).map W.lst)]))->∃sts':List (List PrI),BadM c.m c.wide sts'/\SzI sts'/\R=.ok (.fr (encMI c.m c.wide sts')):=by
  intro s' h1 h2 h3 R hR;obtain⟨b1,b2⟩:=y4b hc hj s' h1 h2 h3;refine⟨_,b1,b2,?_⟩;rw[hR,y39];rfl
 have setF:∀q:PrI,q.1.length<=13->okInt q.2=true->¬PrOk c.wide c.states.length q->∀w:W,w=encPI q->∀R:FR,R=.ok (.fr (.tup [.int (c.m:Int),.int (c.wide:Int),.lst (((inn c).set j ((s.map encPr).set k w)).map W.lst)]))->∃sts':List (List PrI),BadM c.m c.wide sts'/\SzI sts'/\R=.ok (.fr (encMI c.m c.wide sts')):=by
  intro q q1 q2 q4 w hw R hR;have e:(s.map encPr).set k w=((s.map toP).set k q).map encPI:=by rw[w4e,<- q9b,hw]
  refine fin ((s.map toP).set k q) (by rw[w3q,w0b];omega) (fun u hu=>?_) (fun hn=>q4 (hn.2 q ?_)) R ?_
  ·rcases w3e hu with h|rfl
   ·exact old u h
   ·exact⟨q1,q2⟩
  ·exact w0i (i:=k) (w0f (by rw[w0b];exact hk))
  ·rw[hR,e]
 have hT:∀x:S,isT x=false->True:=fun _ _=>trivial
 have kinds:cell%8=0\/cell%8=1\/cell%8=2\/cell%8=3\/cell%8=4\/cell%8=5\/cell%8=6\/cell%8=7:=by omega
 obtain⟨f,f1,f2,f3⟩:=y4c (c.states.length:Int) (cell / 1280) (by omega) (by omega)
 have putB:∀w:W,(atI (inn c) (j:Int)).bind (fun ws=>D.putF w ws [.int (k:Int)])=some ((s.map encPr).set k w):=fun w=>by
  rw[hat,w2u];exact y7v (by rw[w0b];exact hk)
 have insB:(atI (inn c) (j:Int)).bind (fun ws=>insF ws [.int (k:Int),encPr s[k]])=some ((insV (s.map toP) k (toP s[k])).map encPI):=by
  rw[hat,w2u,y7t (by rw[w0b];omega) (by rw[w0b];omega),<- x97,<- q9b];rfl
 have popB:(atI (inn c) (j:Int)).bind (fun ws=>popF ws [.int (k:Int)])=some (((s.map toP).eraseIdx k).map encPI):=by
  rw[hat,w2u,y7u (by rw[w0b];omega) (by rw[w0b];omega),<- q98,<- q9b]
 have hlenI:(List.map W.lst (inn c)).length=c.states.length:=by rw[w0b];unfold inn;rw[w0b]
 have hsome:(atI (inn c) (j:Int)).isSome=true:=by rw[hat];rfl
 rcases kinds with h|h|h|h|h|h|h|h<;>rw[h]<;>unfold spo45
 ·walk_at "den";rw[q1e];walk_at "den";rw[q1p];walk_at "den";exact⟨[],.inl rfl,⟨by decide,fun s hs=>nomatch hs⟩,rfl⟩
 ·walk_at "den";rw[if_pos hsome];walk_at "den";rw[q4x hix insB (by rfl)];walk_at "den";rw[q1e];walk_at "den";rw[q1p];walk_at "den";refine fin _ (by rw[x17 (by rw[w0b];omega),w0b];omega) (fun u hu=>?_) (fun hn=>?_) _ rfl
  ·rcases x98 hu with rfl|h
   ·exact old _ (w3a (w1r hk))
   ·exact old u h
  ·have:=hn.1;rw[x17 (by rw[w0b];omega),w0b]at this;omega
 ·walk_at "den";rw[if_pos hsome];walk_at "den";rw[q4x hix popB (by rfl)];walk_at "den";rw[q1e];walk_at "den";rw[q1p];walk_at "den";refine fin _ (by rw[w3t,w0b];split<;>omega) (fun u hu=>old u (List.mem_of_mem_eraseIdx hu)) (fun hn=>?_) _ rfl
  have:=hn.1;rw[w3t,w0b,if_pos hk]at this;omega
 ·simp only[encPr,encB];walk_at "den";rw[if_pos (by simp;omega)];walk_at "den";rw[if_pos hsome];walk_at "den";rw[q4x hix (putB _) (by rfl)];walk_at "den";rw[q1e];walk_at "den";rw[q1p];walk_at "den";refine setF (s[k].1++[false],(s[k].2:Int)) (by simp;omega) (okS (show -32<=(s[k].2:Int) by omega) (show(s[k].2:Int)<32 by omega)) (fun hn=>?_) _ (by simp[encPI,encB]) _ rfl
  have:=hn.1;simp at this;omega
 ·by_cases hwd:0<(c.wide:Int)
  ·simp only[encPr,encB];walk_at "den";rw[q1p];walk_at "den";rw[if_pos hwd,y4d s[k].1 (by omega)];walk_at "den";rw[if_pos hsome];walk_at "den";rw[q4x hix (putB _) (by rfl)];walk_at "den";rw[q1p];walk_at "den";rw[if_neg (by omega)];rw[q1e];walk_at "den";rw[q1p];walk_at "den";refine setF (s[k].1.tail,(s[k].2:Int)) (by simp;omega) (okS (show -32<=(s[k].2:Int) by omega) (show(s[k].2:Int)<32 by omega)) (fun hn=>?_) _ (by simp[encPI,encB]) _ rfl
   have:=hn.1;simp at this;omega
  ·simp only[encPr,encB];walk_at "den";rw[q1p];walk_at "den";rw[if_neg hwd,q1p];walk_at "den";rw[if_pos (by omega)];rw[hlenI,f1];walk_at "den";rw[if_pos hsome];walk_at "den";rw[q4x hix (putB _) (by rfl)];walk_at "den";rw[q1e];walk_at "den";rw[q1p];walk_at "den";exact setF (s[k].1,f) (by simp;omega) f3 (fun hn=>f2 hn.2) _ (by simp[encPI,encB]) _ rfl
 all_goals
  simp only[encPr,encB];walk_at "den";rw[hlenI,f1];walk_at "den";rw[if_pos hsome];walk_at "den";rw[q4x hix (putB _) (by rfl)];walk_at "den";rw[q1e];walk_at "den";rw[q1p];walk_at "den";exact setF (s[k].1,f) (by simp;omega) f3 (fun hn=>f2 hn.2) _ (by simp[encPI,encB]) _ rfl
theorem q8q(n:Nat)(c:Mc)(hc:c.Ok)(cell:Int):∃sts':List (List PrI),BadM c.m c.wide sts'/\SzI sts'/\run K a (n+1) q1x [encMc c,.int cell]=.ok (.fr (encMI c.m c.wide sts')):=by
 have hpos:=hc.pos;have hmost:=hc.most;rw[q30];rw[y71];walk_at "den";rw[q5s];walk_at "den";rw[if_pos (by rw[w0b];omega),q9x (g:=unl)]
 ·rw[show(c.states.map encSt).map unl=inn c by unfold inn;rw[w1v];rfl];have hlenI:(List.map W.lst (inn c)).length=c.states.length:=by rw[w0b];unfold inn;rw[w0b]
  walk_at "den";rw[hlenI,if_pos (by omega)]
  obtain⟨j,hj1,hj2⟩:∃j:Nat,cell / 8%(c.states.length:Int)=(j:Int)/\j<c.states.length:=by
   have h1:=w1z (cell / 8) (show(c.states.length:Int)≠0 by omega);have h2:=w1w (cell / 8) (show(0:Int)<(c.states.length:Int) by omega);exact⟨(cell / 8%(c.states.length:Int)).toNat,by omega,by omega⟩
  rw[hj1,x3k,q8j hj2];obtain⟨hs1,_⟩:=hc.state hj2;have hlen:=hc.st _ hs1;have p8:=pow8 hc.few;have hat:=x7a (c:=c) hj2;simp only[encSt];walk_at "den";rw[w0b,if_pos (by omega)]
  obtain⟨k,hk1,hk2⟩:∃k:Nat,cell / 160%((c.states.getD j []).length:Int)=(k:Int)/\k<(c.states.getD j []).length:=by
   have h1:=w1z (cell / 160) (show((c.states.getD j []).length:Int)≠0 by omega);have h2:=w1w (cell / 160) (show(0:Int)<((c.states.getD j []).length:Int) by omega);exact⟨(cell / 160%((c.states.getD j []).length:Int)).toNat,by omega,by omega⟩
  rw[hk1,if_pos (by rw[hat];rfl),hat,w2u,y74 hk2];walk_at "den";exact y4e n c hc cell j k hj2 hk2
 ·intro w hw;obtain⟨s,hs,rfl⟩:=w0q.mp hw;have hl:=hc.st s hs;have:=pow8 hc.few;unfold encSt;walk_at "den";exact⟨_,rfl⟩
theorem x7b(h1:plainVs ws=true)(h2:depWs ws<=90)(h3:wgts ws<=1000000):∃x:Str,repr1 [.lst ws]=some (.str x):=by
 obtain⟨d,d1,d2,d3,d4,d5⟩:=q95 (.lst ws) h1;refine⟨d.shown,?_⟩;show(toD (.lst ws)).bind _=_;rw[d1];show(if d.showable=true/\d.depth<=100/\d.shown.length<=16777216 then some (W.str d.shown)else none)=_;have hw:d.weight<=2^20:=by rw[d5];exact w0w h3 (by decide)
 have hs:=PyData.shown_fits (B:=13) (by decide) (by decide) d3 hw;rw[sizeLine_eq]at hs;exact if_pos ⟨d2,by rw[d4];show depWs ws+1<=100;omega,hs⟩
theorem plainMI(m wide:Nat)(sts:List (List PrI))(hm:m<=3)(hw:wide<=12)(hs:SzI sts):plainV (encMI m wide sts)=true/\depW (encMI m wide sts)<=90/\wgt (encMI m wide sts)<=400000:=by
 obtain⟨b1,b2,b3⟩:=q8p sts hs.2;have hl:=hs.1;have k1:okInt (m:Int)=true:=by unfold okInt;rw[decide_eq_true (show -32<=(m:Int)/\(m:Int)<32 by omega)];rfl
 have k2:okInt (wide:Int)=true:=by unfold okInt;rw[decide_eq_true (show -32<=(wide:Int)/\(wide:Int)<32 by omega)];rfl
 have g1:=(q54 k1).2.2;have g2:=(q54 k2).2.2;refine⟨?_,?_,?_⟩
 ·show(okInt (m:Int)&&(okInt (wide:Int)&&(plainVs (sts.map encSI)&&true)))=true;rw[k1,k2,b1];rfl
 ·show max 0 (max 0 (max (depWs (sts.map encSI)+1) 0))+1<=90;omega
 ·show(PyData.int (m:Int)).weight+1+((PyData.int (wide:Int)).weight+1+(wgts (sts.map encSI)+1+0))<=400000;omega
theorem x99(x y:W)(hx:plainV x=true/\depW x<=90/\wgt x<=400000)(hy:plainV y=true/\depW y<=90/\wgt y<=400000):∃z:Str,repr1 [.lst [x,y]]=some (.str z):=by
 refine x7b ?_ ?_ ?_
 ·show(plainV x&&(plainV y&&true))=true;rw[hx.1,hy.1];rfl
 ·show max (depW x) (max (depW y) 0)<=90;have:=hx.2.1;have:=hy.2.1;omega
 ·show wgt x+1+(wgt y+1+0)<=1000000;have:=hx.2.2;have:=hy.2.2;omega
theorem q8r(n m wide:Nat)(hm:m<=100)(sts:List (List PrI))(hb:BadM m wide sts)(y:W):run K a (n+3) q0y [encMI m wide sts,y]=.ex (.ref a.NoMachine):=by
 rw[q13];unfold q16;walk_at "den";rw[q8n n m wide hm sts hb];walk_at "den"
theorem q8s(n:Nat)(c:Mc)(hc:c.Ok)(m wide:Nat)(hm:m<=100)(sts:List (List PrI))(hb:BadM m wide sts):run K a (n+3) q0y [encMc c,encMI m wide sts]=.ex (.ref a.NoMachine):=by
 rw[q13];unfold q16;walk_at "den";rw[q26 n c hc];walk_at "den";rw[q8n n m wide hm sts hb];walk_at "den"
theorem q99(n:Nat)(c d:Mc)(hc:c.Ok)(hd:d.Ok)(hm:c.m≠d.m):run K a (n+3) q0y [encMc c,encMc d]=.ex (.ref a.UnlikeSizes):=by
 rw[q13];unfold q16;walk_at "den";rw[q26 n c hc];walk_at "den";rw[q26 n d hd];walk_at "den";rw[q1e];walk_at "den";rw[q1e];walk_at "den";rw[if_pos (by simp;omega)]
theorem x0a(n:Nat)(c d:Mc)(hc:c.Ok)(hd:d.Ok)(hm:c.m=d.m):run K a (n+3) q0y [encMc c,encMc d]=.ok (.fr .non):=by
 rw[q13];unfold q16;walk_at "den";rw[q26 n c hc];walk_at "den";rw[q26 n d hd];walk_at "den";rw[q1e];walk_at "den";rw[q1e];walk_at "den";rw[hm];walk_at "den"
theorem q5c{x y:W}(h:run K a n q0y [x,y]=.ex v):run K a (n+1) q1l [x,y]=.ex v:=by
 rw[q2s];unfold q2q;walk_at "den";rw[h];walk_at "den"
theorem x7c(n:Nat)(c d:Mc)(hc:c.Ok)(hd:d.Ok)(hm:c.m=d.m)(hw:c.wide≠d.wide):run K a (n+4) q1l [encMc c,encMc d]=.ex (.ref a.UnlikeSizes):=by
 rw[q2s];unfold q2q;walk_at "den";rw[x0a n c d hc hd hm];walk_at "den";rw[q1p];walk_at "den";rw[q1p];walk_at "den";rw[if_pos (by simp;omega)]
theorem x18{x y:W}(h:run K a n q0y [x,y]=.ex v):run K a (n+1) q28 [x,y]=.ex v:=by
 rw[q5b];unfold q5p;walk_at "den";rw[h];walk_at "den"
theorem q7v{x y:W}(h:run K a n q1l [x,y]=.ex v):run K a (n+1) q0z [x,y]=.ex v:=by
 rw[q2m];unfold q2h;walk_at "den";rw[h];walk_at "den"
theorem q7w{x y z:W}(h:run K a n q1l [x,y]=.ex v):run K a (n+1) q2u [x,y,z]=.ex v:=by
 rw[q4v];unfold q44;walk_at "den";rw[h];walk_at "den"
noncomputable def two62:W:=.lst [.tup [.int 0,.int 0],.tup [.int 99,.int (-1)]]
theorem q7x(n:Nat)(c:Mc)(f:Int):run K a (n+1) q17 [encMc c,.int f]=.ok (.fr (.bl (decide (0<=f/\f<(c.states.length:Int))))):=by
 have:=q6q (K:=K) (a:=a) n c.m c.wide (toI c) f;rw[<- q1q,q65]at this;exact this
theorem y0a(n:Nat){c d:Mc}(h1:0<c.states.length)(h2:0<d.states.length)(w:W):q3x K a (run K a (n+1)) [.fr (encMc c),.fr (encMc d),.fr w,.dw shN [] [],.fr (.tup [.int 0,.int 0])]=.nx [.fr (encMc c),.fr (encMc d),.fr w,.dw shN [keyN (0,0)] [.bl true],.fr (.tup [.int 0,.int 0])]:=by
 have d1:decide ((0:Int)<=0/\(0:Int)<(c.states.length:Int))=true:=decide_eq_true ⟨by omega,by omega⟩;have d2:decide ((0:Int)<=0/\(0:Int)<(d.states.length:Int))=true:=decide_eq_true ⟨by omega,by omega⟩;unfold q3x;walk_at "den";rw[q7x n c 0,d1];walk_at "den";rw[q7x n d 0,d2];walk_at "den";rw[show(W.tup [.int 0,.int 0])=encN (0,0)from rfl,q84 (q2z (0,0)) (by decide) (by rfl) (q33 _) rfl];rfl
theorem y0b(n:Nat){c d:Mc}(h3:c.states.length<=20)(z2 z3:S):q3x K a (run K a (n+1)) [.fr (encMc c),.fr (encMc d),z2,z3,.fr (.tup [.int 99,.int (-1)])]=.rt (.fr (.bl false)) [.fr (encMc c),.fr (encMc d),z2,z3,.fr (.tup [.int 99,.int (-1)])]:=by
 have d1:decide ((0:Int)<=99/\(99:Int)<(c.states.length:Int))=false:=decide_eq_false fun z=>by omega
 unfold q3x;walk_at "den";rw[q7x n c 99,d1];walk_at "den"
theorem y0c(n:Nat){c d:Mc}(T:Two c d):run K a (n+5) q2u [encMc c,encMc d,two62]=.ok (.fr (.bl false)):=by
 have q1:=y0a (K:=K) (a:=a) (n+3) T.oc.pos T.od.pos two62;have q2:=y0b (K:=K) (a:=a) (n+3) (d:=d) T.oc.most (.fr two62) (.dw shN [keyN (0,0)] [.bl true]);unfold two62 at *;rw[q4v];unfold q44;walk_at "den";rw[x14 n T];walk_at "den";rw[q39];walk_at "den";rw[q1];walk_at "den";rw[q39];walk_at "den";rw[q2];walk_at "den"
theorem y0d(M:Exs K mg a)(n:Nat)(x y:W)(h0:run K a (n+1) q28 [x,y]=.ex (.ref a.NoMachine))(h1:run K a (n+1) q0z [x,y]=.ex (.ref a.NoMachine))(h2:run K a (n+1) q2u [x,y,two62]=.ex (.ref a.NoMachine))(way:Int):run K a (n+2) q0t [x,y,.int way]=.ok (.fr (.str "machine")):=by
 unfold two62 at h2;rw[q1m];unfold q1r;walk_at "den";rw[h0,h1,h2]
 by_cases hw:way=0
 ·rw[if_pos hw];walk_at "den";rw[q7o M.x_NoMachine_NoMachine];walk_at "den";rw[q89 M n];walk_at "den"
 ·rw[if_neg hw]
  by_cases hv:way=1
  ·rw[if_pos hv];walk_at "den";rw[q7o M.x_NoMachine_NoMachine];walk_at "den";rw[q89 M n];walk_at "den"
  ·rw[if_neg hv];walk_at "den";rw[q7o M.x_NoMachine_NoMachine];walk_at "den";rw[q89 M n];walk_at "den"
theorem x7d(M:Exs K mg a)(n:Nat)(x y:W)(h0:run K a (n+1) q28 [x,y]=.ex (.ref a.UnlikeSizes)):run K a (n+2) q0t [x,y,.int 0]=.ok (.fr (.str "sizes")):=by
 rw[q1m];unfold q1r;walk_at "den";rw[h0];walk_at "den";rw[q7p M.x_UnlikeSizes_NoMachine M.x_UnlikeSizes_UnlikeSizes];walk_at "den";rw[q9a M n];walk_at "den"
theorem x0b(M:Exs K mg a)(n:Nat)(x y:W)(h0:run K a (n+1) q0z [x,y]=.ex (.ref a.UnlikeSizes)):run K a (n+2) q0t [x,y,.int 1]=.ok (.fr (.str "sizes")):=by
 rw[q1m];unfold q1r;walk_at "den";rw[h0];walk_at "den";rw[q7p M.x_UnlikeSizes_NoMachine M.x_UnlikeSizes_UnlikeSizes];walk_at "den";rw[q9a M n];walk_at "den"
theorem x0c(M:Exs K mg a)(n:Nat)(x y:W)(h0:run K a (n+1) q2u [x,y,two62]=.ex (.ref a.UnlikeSizes)):run K a (n+2) q0t [x,y,.int 2]=.ok (.fr (.str "sizes")):=by
 unfold two62 at h0;rw[q1m];unfold q1r;walk_at "den";rw[h0];walk_at "den";rw[q7p M.x_UnlikeSizes_NoMachine M.x_UnlikeSizes_UnlikeSizes];walk_at "den";rw[q9a M n];walk_at "den"
theorem x7e(n:Nat)(x y:W){w:W}(h0:run K a (n+1) q28 [x,y]=.ok (.fr w)):run K a (n+2) q0t [x,y,.int 0]=.ok (.fr (.str "none")):=by
 rw[q1m];unfold q1r;walk_at "den";rw[h0];walk_at "den"
theorem x7f(n:Nat)(x y:W){w:W}(h0:run K a (n+1) q0z [x,y]=.ok (.fr w)):run K a (n+2) q0t [x,y,.int 1]=.ok (.fr (.str "none")):=by
 rw[q1m];unfold q1r;walk_at "den";rw[h0];walk_at "den"
theorem x7g(n:Nat)(x y:W){w:W}(h0:run K a (n+1) q2u [x,y,two62]=.ok (.fr w)):run K a (n+2) q0t [x,y,.int 2]=.ok (.fr (.str "none")):=by
 unfold two62 at h0;rw[q1m];unfold q1r;walk_at "den";rw[h0];walk_at "den"
noncomputable abbrev PrN:=List Bool×(Nat×Nat)
noncomputable def encQ(p:PrN):W:=.tup [encB p.1,encN p.2]
theorem x4q(l:List PrN):pairsW (l.map encQ)=some (l.map fun p=>(encB p.1,encN p.2)):=by
 induction l with
 |nil=>rfl
 |cons p l ih=>
  show(pairsW (l.map encQ)).map _=_;rw[ih];rfl
noncomputable def bothP(s t:List Pr):List PrN:=(s.zip t).map fun p=>(p.1.1++p.2.1,(p.1.2,p.2.2))
theorem y4f(s t:List Pr):(s.map encPr).zip (t.map encPr)=(s.zip t).map fun p=>(encPr p.1,encPr p.2):=by
 rw[List.zip_map];rfl
noncomputable def gP:W×W->W
 |(.tup [.tup x,p],.tup [.tup y,q])=>.tup [.tup (x++y),.tup [p,q]]
 |_=>.non
theorem y0e(n:Nat)(s t:List Pr)(hs:s.length<=100)(h1:∀p∈s,p.1.length<=100)(h2:∀p∈t,p.1.length<=100):run K a (n+1) q22 [encSt s,encSt t]=.ok (.own none ((bothP s t).map encQ)):=by
 have hz:((s.zip t).map fun p=>(encPr p.1,encPr p.2)).length<=100:=by rw[w0b,w2z];omega
 rw[q4b];unfold q3w encSt;walk_at "den";rw[y4f];rw[if_pos (by omega)];rw[q9v (q:=fun _=>true) (g:=gP)]
 ·walk_at "den";rw[List.filter_eq_self.mpr (fun _ _=>rfl)]
  unfold bothP;rw[w1v,w1v];congr 2;refine w2k fun p hp=>?_
  show W.tup [.tup (p.1.1.map .bl++p.2.1.map .bl),_]=encQ _;unfold encQ encB;rw[w0l];rfl
 ·intro q hq;obtain⟨p,hp,rfl⟩:=w0q.mp hq;have m1:=h1 p.1 (w1m hp).1;have m2:=h2 p.2 (w1m hp).2;refine⟨_,rfl,fun _=>?_⟩
  unfold q5q encPr encB;walk_at "den";rw[if_pos (by rw[w0b,w0b];omega)];walk_at "den";exact⟨_,rfl⟩
theorem y0f{c d:Mc}(hc:c.Ok)(hd:d.Ok)(h:InP c d x):∀p∈bothP (c.states.getD x.1 []) (d.states.getD x.2 []),InP c d p.2:=by
 intro p hp;obtain⟨q,hq,rfl⟩:=w0q.mp hp;exact⟨(hc.pr _ (q32 h.1) _ (w1m hq).1).2,(hd.pr _ (q32 h.2) _ (w1m hq).2).2⟩
theorem x7h{c d:Mc}(hc:c.Ok)(h:InP c d x):(bothP (c.states.getD x.1 []) (d.states.getD x.2 [])).length<=8:=by
 have p8:2^c.m<=8:=w0w (w2g (by decide) hc.few) (by decide);unfold bothP;rw[w0b,w2z,hc.st _ (q32 h.1)];omega
theorem x3l:∀bs:List Bool,noFns (bs.map .bl)=true
 |[]=>rfl
 |b::bs=>by show(true&&noFns (bs.map .bl))=true;rw[x3l bs];rfl
theorem x3m(p:Pr):noFn (encPr p)=true:=by
 show(noFns (p.1.map .bl)&&(true&&true))=true;rw[x3l];rfl
theorem q4d{f:α->W}(h:∀x,noFn (f x)=true):∀l:List α,noFns (l.map f)=true
 |[]=>rfl
 |x::l=>by show(noFn (f x)&&noFns (l.map f))=true;rw[h x,q4d h l];rfl
theorem x3n(c:Mc):noFn (encMc c)=true:=by
 show(true&&(true&&(noFns (c.states.map encSt)&&true)))=true;rw[q4d (f:=encSt) fun s=>show noFns (s.map encPr)=true from q4d x3m s];rfl
theorem lam_run(n:Nat){c d:Mc}(hc:c.Ok)(hd:d.Ok)(h:InP c d x)(e:List S):callVK lams (run K a (n+2)) q0w q1d [encMc c,encMc d] [encN x] e=.ok (.lst ((bothP (c.states.getD x.1 []) (d.states.getD x.2 [])).map encQ)) e:=by
 refine x6s x1r (by show(noFn (encN x)&&true)=true;rfl) (by show(noFn (encMc c)&&(noFn (encMc d)&&true))=true;rw[x3n,x3n];rfl) ?_;show run K a (n+2) q0w [encN x,encMc c,encMc d]=_;have p8:2^c.m<=8:=w0w (w2g (by decide) hc.few) (by decide);have w1:=hc.wd;have w2:=hd.wd;have hr:=y0e (K:=K) (a:=a) n (c.states.getD x.1 []) (d.states.getD x.2 []) (by rw[hc.st _ (q32 h.1)];omega) (fun p hp=>by rw[(hc.pr _ (q32 h.1) p hp).1];omega) (fun p hp=>by rw[(hd.pr _ (q32 h.2) p hp).1];omega)
 rw[q31];unfold q3k;walk_at "den";rw[q5s];walk_at "den";rw[y0v];walk_at "den";rw[q8j h.1];walk_at "den";rw[q5s];walk_at "den";rw[y0w];walk_at "den";rw[q8j h.2];walk_at "den";rw[hr];walk_at "den";rfl
noncomputable abbrev Nm:=List ((Nat×Nat)×Nat)
structure NI(c d:Mc)(L:Nm):Prop where
 nd:(L.map (·.1)).Nodup
 inn:∀q∈L,InP c d q.1
theorem NI.len{c d:Mc}(hc:c.Ok)(hd:d.Ok){L:Nm}(h:NI c d L):L.length<=400:=by
 have inj:∀x:Nat×Nat,x.2<20->∀y:Nat×Nat,y.2<20->x.1*20+x.2=y.1*20+y.2->x=y:=fun x hx y hy e=>Prod.ext (by omega) (by omega)
 have m1:=hc.most;have m2:=hd.most
 have:=q8l 400 (l:=(L.map (·.1)).map fun x=>x.1*20+x.2) (List.pairwise_map.mpr (List.Pairwise.imp_of_mem (fun {x y} hx hy hne e=>hne (by
   obtain⟨q,hq,rfl⟩:=w0q.mp hx;obtain⟨p,hp,rfl⟩:=w0q.mp hy;exact inj _ (by have:=(h.inn q hq).2;omega) _ (by have:=(h.inn p hp).2;omega) e)) h.nd)) fun z hz=>by
  obtain⟨x,hx,rfl⟩:=w0q.mp hz;obtain⟨q,hq,rfl⟩:=w0q.mp hx;have:=h.inn q hq;obtain⟨h1,h2⟩:=this;omega
 rwa [w0b,w0b]at this
noncomputable def nmS(L:Nm):S:=.dw shN (L.map fun q=>keyN q.1) (L.map fun q=>nI q.2)
noncomputable def envN(w0 w1:W)(L:Nm)(sts:List W)(z5:S)(st:List Pr)(z7 z8:S):List S:=[.fr w0,.fr w1,.own none (L.map fun q=>encN q.1),nmS L,.own none sts,z5,.own none (st.map encPr),z7,z8]
theorem x7i(r:Nat->List W->FR)(w0 w1:W){c d:Mc}(hc:c.Ok)(hd:d.Ok){L:Nm}(hL:NI c d L)(sts:List W)(z5:W)(st:List Pr)(hst:st.length<=100)(t:List Bool){y:Nat×Nat}(hy:InP c d y):
  ∃(L':Nm)(k:Nat),NI c d L'/\L.length<=L'.length/\q21 K a r (envN w0 w1 L sts (.fr z5) st (.fr (encB t)) (.fr (encN y)))=.nx (envN w0 w1 L' sts (.fr z5) (st++[(t,k)]) (.fr (encB t)) (.fr (encN y))):=by
 have hl:=hL.len hc hd;have en:=x6p (fz:=false) (sh:=shN) (ks:=L.map fun q=>keyN q.1) (ws:=L.map fun q=>nI q.2) (q2z y) (q33 y)
 unfold q21 envN nmS;walk_at "den";rw[en];walk_at "den"
 by_cases hin:y∈L.map (·.1)
 ·obtain⟨q,h1,h2⟩:=w0q.mp hin;have lk:=q64 (v:=fun q:(Nat×Nat)×Nat=>nI q.2) hL.nd h1
  rw[h2]at lk;rw[lk];walk_at "den";rw[if_neg (by simp),x0s (q2z y) (q33 y),lk];walk_at "den";rw[if_pos (by rfl),if_pos (by rw[w0b];omega)];exact⟨L,q.2,hL,w0h _,by rw[w0l];rfl⟩
 ·have lk:=lk_N (f:=Prod.fst) (v:=fun q:(Nat×Nat)×Nat=>nI q.2) (x:=y) (l:=L) fun q h1 z=>hin (w0q.mpr ⟨q,h1,z⟩)
  have hn:NI c d (L++[(y,L.length)]):=⟨by
    rw[w0l];refine w3g.mpr ⟨hL.nd,by simp,fun u hu v hv e=>?_⟩
    subst e;rw[w0r,w3c,w0k]at hv;rw[show u=y from hv]at hu;exact hin hu,fun q hq=>by
    rcases w1h.mp hq with z|z
    ·exact hL.inn q z
    ·rw[w0k.mp z];exact hy⟩
  have lk2:=q64 (v:=fun q:(Nat×Nat)×Nat=>nI q.2) (q:=(y,L.length)) hn.nd (by simp)
  rw[w0l,w0l]at lk2;have lk2:lkW (L.map (fun q=>keyN q.1)++[keyN y]) (L.map (fun q=>nI q.2)++[nI L.length]) (keyN y)=some (nI L.length):=lk2
  rw[lk];walk_at "den";rw[if_pos (by rfl),w0b,show(W.int (L.length:Int))=nI L.length from rfl,q84 (q2z y) (by rw[w0b];omega) (by rfl) (q33 y) lk];walk_at "den";rw[if_pos (by rw[w0b];omega)];walk_at "den";rw[x0s (q2z y) (q33 y),lk2];walk_at "den";rw[if_pos (by rfl),if_pos (by rw[w0b];omega)];refine⟨L++[(y,L.length)],L.length,hn,by simp,?_⟩;rw[w0l,w0l,w0l,w0l];rfl
theorem x19(r:Nat->List W->FR)(w0 w1:W){c d:Mc}(hc:c.Ok)(hd:d.Ok)(sts:List W)(z5:W):∀(ps:List PrN)(L:Nm)(st:List Pr)(z7 z8:S),NI c d L->(∀p∈ps,InP c d p.2)->st.length+ps.length<=100 ->
  ∃(L':Nm)(st':List Pr)(z7' z8':S),NI c d L'/\L.length<=L'.length/\forP 7 8 (q21 K a r) (ps.map fun p=>(encB p.1,encN p.2)) (envN w0 w1 L sts (.fr z5) st z7 z8)=.nx (envN w0 w1 L' sts (.fr z5) st' z7' z8')
 |[],L,st,z7,z8,hL,_,_=>⟨L,st,z7,z8,hL,w0h _,rfl⟩
 |p::ps,L,st,z7,z8,hL,hp,hl=>by
  obtain⟨L1,k,i1,l1,q⟩:=x7i (K:=K) (a:=a) r w0 w1 hc hd hL sts z5 st (by simp at hl;omega) p.1 (hp p (by simp));obtain⟨L2,st2,y7,y8,i2,l2,g⟩:=x19 r w0 w1 hc hd sts z5 ps L1 (st++[(p.1,k)]) (.fr (encB p.1)) (.fr (encN p.2)) i1 (fun u hu=>hp u (by simp[hu])) (by simp at hl |-;omega)
  refine⟨L2,st2,y7,y8,i2,by omega,?_⟩;show(q21 K a r (envN w0 w1 L sts (.fr z5) st (.fr (encB p.1)) (.fr (encN p.2)))).turnT (forP 7 8 (q21 K a r) (ps.map fun p=>(encB p.1,encN p.2)))=_
  rw[q];exact g
theorem at_L{L:Nm}{q:(Nat×Nat)×Nat}(hq:L[i]?=some q):atI (L.map fun q=>encN q.1) (i:Int)=some (encN q.1):=by
 refine q3q ?_;rw[w0n,hq];rfl
theorem x0d(n:Nat){c d:Mc}(hc:c.Ok)(hd:d.Ok)(w0:W):∀(fuel:Nat)(L:Nm)(ss:List (List Pr))(z5 z6 z7 z8:S),NI c d L->ss.length<=L.length->401<=ss.length+fuel ->
  ∃(L':Nm)(ss':List (List Pr))(y5 y6 y7 y8:S),whileD (q3g K a (run K a (n+2))) (q3h K a (run K a (n+2))) (fuel+1) [.fr w0,.fr (.fn q0w q1d [encMc c,encMc d]),.own none (L.map fun q=>encN q.1),nmS L,.own none (ss.map encSt),z5,z6,z7,z8] =
   .nx [.fr w0,.fr (.fn q0w q1d [encMc c,encMc d]),.own none (L'.map fun q=>encN q.1),nmS L',.own none (ss'.map encSt),y5,y6,y7,y8]
 |0,L,ss,z5,z6,z7,z8,hL,hs,hf=>by
  have:=hL.len hc hd;omega
 |fuel+1,L,ss,z5,z6,z7,z8,hL,hs,hf=>by
  have hl:=hL.len hc hd
  have hw:q3g K a (run K a (n+2)) [.fr w0,.fr (.fn q0w q1d [encMc c,encMc d]),.own none (L.map fun q=>encN q.1),nmS L,.own none (ss.map encSt),z5,z6,z7,z8]=.ok (decide (ss.length<L.length)) [.fr w0,.fr (.fn q0w q1d [encMc c,encMc d]),.own none (L.map fun q=>encN q.1),nmS L,.own none (ss.map encSt),z5,z6,z7,z8]:=by
   unfold q3g;walk_at "den";rw[w0b,w0b];congr 1;rw[decide_eq_decide];omega
  rw[q60,hw]
  by_cases h:ss.length<L.length
  ·obtain⟨q,hq⟩:∃q,L[ss.length]?=some q:=⟨_,w0d h⟩;have hx:=hL.inn q (w0i hq);obtain⟨L1,st1,y7,y8,i1,l1,g⟩:=x19 (K:=K) (a:=a) (run K a (n+2)) w0 (.fn q0w q1d [encMc c,encMc d]) hc hd (ss.map encSt) (encN q.1) (bothP (c.states.getD q.1.1 []) (d.states.getD q.1.2 [])) L [] z7 z8 hL (y0f hc hd hx) (by have:=x7h (d:=d) hc hx;rw[List.length_nil];omega)
   have hbd:q3h K a (run K a (n+2)) [.fr w0,.fr (.fn q0w q1d [encMc c,encMc d]),.own none (L.map fun q=>encN q.1),nmS L,.own none (ss.map encSt),z5,z6,z7,z8]=.nx [.fr w0,.fr (.fn q0w q1d [encMc c,encMc d]),.own none (L1.map fun q=>encN q.1),nmS L1,.own none ((ss++[st1]).map encSt),.fr (encN q.1),.fr (encSt st1),y7,y8]:=by
    unfold envN at g;unfold q3h;walk_at "den";rw[w0b,at_L hq];walk_at "den";rw[lam_run n hc hd hx];walk_at "den";rw[x4q];walk_at "den";rw[w3c]at g;rw[g];walk_at "den";rw[if_pos (by rw[w0b];omega),w0l];rfl
   rw[decide_eq_true h];walk_at "den";rw[hbd];walk_at "den";exact x0d n hc hd w0 fuel L1 (ss++[st1]) _ _ _ _ i1 (by simp;omega) (by simp;omega)
  ·rw[decide_eq_false h];walk_at "den";exact⟨L,ss,z5,z6,z7,z8,rfl⟩
theorem x7j(n:Nat){c d:Mc}(hc:c.Ok)(hd:d.Ok):∃(L:Nm)(ss:List (List Pr)),run K a (n+3) q4m [.tup [.int 0,.int 0],.fn q0w q1d [encMc c,encMc d]]=.ok (.fr (.tup [.lst (ss.map encSt),.lst (L.map fun q=>encN q.1)])):=by
 have h0:NI c d [((0,0),0)]:=⟨by simp,fun q hq=>by rw[w0k.mp hq];exact⟨hc.pos,hd.pos⟩⟩
 obtain⟨L,ss,y5,y6,y7,y8,g⟩:=x0d (K:=K) (a:=a) n hc hd (.tup [.int 0,.int 0]) 999999 [((0,0),0)] [] .no .no .no .no h0 (by simp) (by simp);have g:whileD (q3g K a (run K a (n+2))) (q3h K a (run K a (n+2))) 1000000 [.fr (.tup [.int 0,.int 0]),.fr (.fn q0w q1d [encMc c,encMc d]),.own none [.tup [.int 0,.int 0]],.dw (.tup [.int,.int]) [.tup [.int 0,.int 0]] [.int 0],.own none [],.no,.no,.no,.no]=_:=g;rw[q5f];unfold q49;walk_at "den";rw[show keyT (.tup [.int 0,.int 0])=some (.tup [.int 0,.int 0])from rfl];walk_at "den";rw[g];walk_at "den";exact⟨L,ss,rfl⟩
theorem y0g(n:Nat){c d:Mc}(hc:c.Ok)(hd:d.Ok)(hm:c.m=d.m):∃w:W,run K a (n+4) q28 [encMc c,encMc d]=.ok (.fr w):=by
 obtain⟨L,ss,g⟩:=x7j (K:=K) (a:=a) n hc hd;rw[q5b];unfold q5p;walk_at "den";rw[x0a n c d hc hd hm];walk_at "den"
 rw[show capsOf [0,1] [S.fr (encMc c),S.fr (encMc d),S.no]=some [encMc c,encMc d]from rfl,q55,g,x6t (by
  show(noFns (ss.map encSt)&&(noFns (L.map fun q=>encN q.1)&&true))=true
  rw[q4d (f:=encSt) fun s=>show noFns (s.map encPr)=true from q4d x3m s,q4d fun _=>rfl];rfl)]
 walk_at "den";rw[q1e];walk_at "den";rw[q1p];walk_at "den";rw[q1p];walk_at "den";exact⟨_,rfl⟩
theorem q6t(n:Nat)(z0 z3:S)(m wide:Nat)(sts:List (List PrI))(hs:SzI sts)(hm:m<=3)(hw:wide<=12)(m' wide':Nat)(sts':List (List PrI))(hs':SzI sts')(hm':m'<=3)(hw':wide'<=12)(d0 d1 d2:Str)
  (h0:run K a (n+1) q0t [encMI m wide sts,encMI m' wide' sts',.int 0]=.ok (.fr (.str d0)))(h1:run K a (n+1) q0t [encMI m wide sts,encMI m' wide' sts',.int 1]=.ok (.fr (.str d1)))(h2:run K a (n+1) q0t [encMI m wide sts,encMI m' wide' sts',.int 2]=.ok (.fr (.str d2))):
  (end62 K a (n+1) [z0,.fr (encMI m wide sts),.fr (encMI m' wide' sts'),z3,.fr (.lst [.str d0,.str d1,.str d2]),.no,.no]).fn=.ok (.fr (.bl true)):=by
 obtain⟨x,hx⟩:=x99 (encMI m wide sts) (encMI m' wide' sts') (plainMI m wide sts hm hw hs) (plainMI m' wide' sts' hm' hw' hs');unfold end62;walk_at "den";rw[q97 n m wide sts hs];walk_at "den";rw[q97 n m' wide' sts' hs'];walk_at "den";rw[if_pos (by decide)];walk_at "den";rw[if_pos (by rw[len_range];decide)];simp only[frz1,pj1,w0z,w3i];rw[show rangeW 0 3=[.int 0,.int 1,.int 2]from rfl,D.q7j (g:=fun w=>match w with|.int 0=>W.str d0|.int 1=>W.str d1|_=>W.str d2)]
 ·walk_at "den";rw[show eq2 (.lst [.str d0,.str d1,.str d2]) (.lst [.str d0,.str d1,.str d2])=some (.bl true) by unfold eq2;rw[if_pos (show depW (.lst [.str d0,.str d1,.str d2])<=150 from(show max 0 (max 0 (max 0 0))+1<=150 by decide))];simp[eqW,eqWs]];walk_at "den";rw[hx];walk_at "den";rw[hx];walk_at "den"
 ·intro w hw;unfold q86;simp only[w0p,w2a,or_false]at hw;rcases hw with rfl|rfl|rfl
  ·walk_at "den";rw[h0];walk_at "den";exact⟨_,rfl⟩
  ·walk_at "den";rw[h1];walk_at "den";exact⟨_,rfl⟩
  ·walk_at "den";rw[h2];walk_at "den";exact⟨_,rfl⟩
theorem mach62(M:Exs K mg a)(n:Nat)(x y:W)(h:run K a (n+3) q0y [x,y]=.ex (.ref a.NoMachine))(h':run K a (n+4) q0y [x,y]=.ex (.ref a.NoMachine))(way:Int):run K a (n+6) q0t [x,y,.int way]=.ok (.fr (.str "machine")):=
 y0d M (n+4) x y (x18 h') (q7v (q5c h)) (q7w (q5c h)) way
theorem q5d(M:Exs K mg a)(z0:S)(c d:Mc)(hc:c.Ok)(hd:d.Ok)(cell:Int)(d0 d1 d2:Str)
  (h0:run K a 150 q0t [encMc c,encMc d,.int 0]=.ok (.fr (.str d0)))(h1:run K a 150 q0t [encMc c,encMc d,.int 1]=.ok (.fr (.str d1)))(h2:run K a 150 q0t [encMc c,encMc d,.int 2]=.ok (.fr (.str d2))):
  (mid62 K a 150 [z0,.fr (encMc c),.fr (encMc d),.fr (.int cell),.fr (.lst [.str d0,.str d1,.str d2]),.no,.no]).fn=.ok (.fr (.bl true)):=by
 have f1:=hc.few;have f2:=hd.few;unfold mid62;walk_at "den"
 by_cases k1:cell%4=1
 ·rw[if_pos k1];obtain⟨sts,b1,b2,b3⟩:=q8q (K:=K) (a:=a) 149 c hc (cell / 4);rw[b3];walk_at "den";rw[if_neg (show ¬cell%4=3 by omega)];walk_at "den";rw[if_pos (show cell%2=1 by omega)];walk_at "den";have w:=mach62 M 144 (encMI c.m c.wide sts) (encMc d) (q8r 144 c.m c.wide (by omega) sts b1 _) (q8r 145 c.m c.wide (by omega) sts b1 _);have q:=q6t (K:=K) (a:=a) 149 z0 (.fr (.int cell)) c.m c.wide sts b2 f1 hc.wd d.m d.wide (toI d) (q6s hd) f2 hd.wd "machine" "machine" "machine" (by rw[<- q1q];exact w 0) (by rw[<- q1q];exact w 1) (by rw[<- q1q];exact w 2);rw[<- q1q]at q;exact q
 ·rw[if_neg k1];walk_at "den"
  by_cases k3:cell%4=3
  ·rw[if_pos k3];obtain⟨sts,b1,b2,b3⟩:=q8q (K:=K) (a:=a) 149 d hd (cell / 4);rw[b3];walk_at "den";rw[if_pos (show cell%2=1 by omega)];walk_at "den";have w:=mach62 M 144 (encMc c) (encMI d.m d.wide sts) (q8s 144 c hc d.m d.wide (by omega) sts b1) (q8s 145 c hc d.m d.wide (by omega) sts b1);have q:=q6t (K:=K) (a:=a) 149 z0 (.fr (.int cell)) c.m c.wide (toI c) (q6s hc) f1 hc.wd d.m d.wide sts b2 f2 hd.wd "machine" "machine" "machine" (by rw[<- q1q];exact w 0) (by rw[<- q1q];exact w 1) (by rw[<- q1q];exact w 2);rw[<- q1q]at q;exact q
  ·rw[if_neg k3];walk_at "den";rw[if_neg (show ¬cell%2=1 by omega)];walk_at "den";have q:=q6t (K:=K) (a:=a) 149 z0 (.fr (.int cell)) c.m c.wide (toI c) (q6s hc) f1 hc.wd d.m d.wide (toI d) (q6s hd) f2 hd.wd d0 d1 d2 (by rw[<- q1q,<- q1q];exact h0) (by rw[<- q1q,<- q1q];exact h1) (by rw[<- q1q,<- q1q];exact h2);rw[<- q1q,<- q1q]at q;exact q
theorem y0h(M:Exs K mg a)(ns:List Int)(hl:ns.length<=63):run K a 151 q63 [.lst (ns.map .int)]=.ok (.fr (.bl true)):=by
 rw[q5r];rw[y72];walk_at "den";obtain⟨c,hc,r1⟩:=q7b (K:=K) (a:=a) 147 ns 0;have r1:run K a 150 q09 [.lst (ns.map .int),.int 0]=_:=r1;obtain⟨d,hd,r2⟩:=q7b (K:=K) (a:=a) 147 ns 8;have r2:run K a 150 q09 [.lst (ns.map .int),.int 8]=_:=r2;rw[r1];walk_at "den";rw[r2];walk_at "den";rw[q53 149 ns (by decide)];walk_at "den";generalize ns.getD 20 0=cell;rw[q1p];walk_at "den";rw[q1p];walk_at "den"
 by_cases hm:c.m=d.m
 ·obtain⟨w,e0⟩:=y0g (K:=K) (a:=a) 145 hc hd hm;have e0:=x7e (K:=K) (a:=a) 148 (encMc c) (encMc d) e0
  by_cases hw:c.wide=d.wide
  ·have T:Two c d:=⟨hc,hd,hm,hw⟩
   have e1:∃w,run K a (148+1) q0z [encMc c,encMc d]=.ok (.fr w):=by
    rcases x95 (K:=K) (a:=a) 144 T with⟨l,g,_⟩|⟨l,g,_⟩
    ·exact⟨_,g⟩
    ·exact⟨_,g⟩
   obtain⟨w1,e1⟩:=e1;have e1:=x7f (K:=K) (a:=a) 148 (encMc c) (encMc d) e1;have e2:=x7g (K:=K) (a:=a) 148 (encMc c) (encMc d) (y0c 144 T);rw[if_neg (by simp;omega)];walk_at "den";rw[q1e];walk_at "den";rw[q1e];walk_at "den";rw[if_neg (by simp;omega)];walk_at "den";exact q5d M _ c d hc hd cell _ _ _ e0 e1 e2
  ·have k:=x7c (K:=K) (a:=a) 144 c d hc hd hm hw;have e1:=x0b M 148 (encMc c) (encMc d) (q7v k);have e2:=x0c M 148 (encMc c) (encMc d) (q7w k);rw[if_pos (by simp;omega)];walk_at "den";rw[q1e];walk_at "den";rw[q1e];walk_at "den";rw[if_neg (by simp;omega)];walk_at "den";exact q5d M _ c d hc hd cell _ _ _ e0 e1 e2
 ·have b1:=q99 (K:=K) (a:=a) 144 c d hc hd hm;have b2:=q99 (K:=K) (a:=a) 145 c d hc hd hm;have e0:=x7d M 148 (encMc c) (encMc d) (x18 b2);have e1:=x0b M 148 (encMc c) (encMc d) (q7v (q5c b1));have e2:=x0c M 148 (encMc c) (encMc d) (q7w (q5c b1))
  by_cases hw:c.wide=d.wide
  ·rw[if_neg (by simp;omega)];walk_at "den";rw[q1e];walk_at "den";rw[q1e];walk_at "den";rw[if_pos (by simp;omega)];walk_at "den";exact q5d M _ c d hc hd cell _ _ _ e0 e1 e2
  ·rw[if_pos (by simp;omega)];walk_at "den";rw[q1e];walk_at "den";rw[q1e];walk_at "den";rw[if_pos (by simp;omega)];walk_at "den";exact q5d M _ c d hc hd cell _ _ _ e0 e1 e2
theorem walk{l:PySem.W.OpenLaw}{q:Program}{loose:List Str}{XP:(Str->Option Value)->Heap->Prop}{YP:World->Heap->Prop}{d:DefRec}{K:Params->PySem.W.Frag}{tabs:List (Addr×Str)}(hn:l.most=some 63)(hdf:d.params.defaults=[])
  (hY:∀(w:World)(h:Heap),YP w h->(K w.params).In h)(hT:∀(w:World)(h:Heap),YP w h->∀P∈tabs.map (·.1),h.get? P=some (tabObj #[]))
  (hG:∀w:World,((D.dropT (K w.params)).lookup mainGlobals).isSome=true)(hNM:∀w:World,noMark (K w.params)=true)(hd:tabs.all (fun p=>tabs.lookup p.1==some p.2)=true)
  (hK:∀w:World,tabs.all (fun p=>((D.dropT (K w.params)).lookup p.1).isNone)=true)(hc:∀w:World,∀p∈tabs,∃c,codeHdIn (K w.params) c p.1=true)
  (F:∀(w:World)(mg:Str->Option Value)(fa:Addr)(h:Heap),(D.markT (D.dropT (K w.params)) tabs).In h->h.Ns mainGlobals mg->mg d.name=some (.ref fa) ->
   ∃fd:FuncData,(∀(s:Shared)(u:Value),BindsTo s fd ⟨[u],[]⟩ [("_law_script", u)])/\∀base:Heap,(D.markT (D.dropT (K w.params)) tabs).In base->base.Ns mainGlobals mg->BMain base mg->FnOk l.prog w (D.markT (D.dropT (K w.params)) tabs) mg base (CX1 l.prog w) 151 fa fd ["_law_script"] (spLaw (D.markT (D.dropT (K w.params)) tabs))):
  PySem.W.WalkO q loose XP YP l.row.toRowW d [] (fun f vs=>PySem.call f vs):=
 L2.x9o (K:=fun p=>D.markT (D.dropT (K p)) tabs) (tabs:=tabs) (n:=63) (k:=151) (x:="_law_script") (CX:=fun w=>CX1 l.prog w) (sp:=fun w=>spLaw (D.markT (D.dropT (K w.params)) tabs)) hn (by decide) hdf ⟨rfl,by decide,by decide,rfl⟩ (fun w h Y=>D.in_m (hG w) (D.x9l (hY w h Y))) F (fun _ _ a ns hl hS=>⟨a,ns,rfl,hS,hl,fun _=>rfl⟩) (fun _ _ _ _ _ z=>y5q z)
  (fun w=>D.x4i (D.x2i (hNM w)) hd) (fun w h Y=>D.y31 (hY w h Y) (hT w h Y) (hc w)) (fun w=>D.tabs_none (hG w) (hK w))
end Q
open PySem PySem.W PyProof.Rows
set_option maxRecDepth 100000 in
set_option maxHeartbeats 0 in
theorem PySem.Challenge.cw_circuits_k62_woven_refused_holds : PySem.Challenge.rw_circuits_k62_woven_refused.Holds := by
 w_on; o_law; k_head; (case hw => w_witness2)
 k_fill
 refine Q.walk (l := PySem.Challenge.rw_circuits_k62_woven_refused) (tabs := [(165, ("woven" ++ ".<locals>.") ++ "<lambda>")]) rfl rfl (fun w h Y => PySem.W.km_in_of Y) (fun w h Y => PySem.W.km_tabs_of Y) (fun w => by kernel_rfl) (fun w => by kernel_rfl) (by decide +kernel) (fun w => by kernel_rfl) (fun w => List.forall_mem_cons.mpr ⟨⟨169, by kernel_rfl⟩, fun _ h => nomatch h⟩) ?F
 case F =>
  intro w mg fa h KX G hmg;refine' Q.mk KX G hmg ?a0 ?l0 ?c0 ?k0 ?a1 ?l1 ?c1 ?k1 ?a2 ?l2 ?c2 ?k2 ?a3 ?l3 ?c3 ?k3 ?a4 ?l4 ?c4 ?k4 ?a5 ?l5 ?c5 ?k5 ?a6 ?l6 ?c6 ?k6 ?a7 ?l7 ?c7 ?k7 ?a8 ?l8 ?c8 ?k8 ?a9 ?l9 ?c9 ?k9 ?a10 ?l10 ?c10 ?k10 ?a11 ?l11 ?c11 ?k11 ?a12 ?l12 ?c12 ?k12 ?a13 ?l13 ?c13 ?k13 ?a14 ?l14 ?c14 ?k14 ?a15 ?l15 ?c15 ?k15 ?a16 ?l16 ?c16 ?k16 ?a17 ?l17 ?c17 ?k17 ?a18 ?l18 ?c18 ?k18 ?a19 ?l19 ?c19 ?k19 ?a20 ?l20 ?c20 ?k20 ?a21 ?l21 ?c21 ?k21 ?v4 ?h4 ?m4 ?n_CircuitError ?n_NoPlace ?n_NoName ?n_BadText ?n_NoRow ?n_NoTable ?n_UnlikeSizes ?n_TooGreat ?n_NoMachine ?n_BadSheet ?z_ValueError ?z_all ?z_int ?z_isinstance ?z_len ?z_list ?z_min ?z_range ?z_repr ?z_reversed ?z_tuple ?z_zip ?e_NoMachine ?e_UnlikeSizes ?c_NoMachine ?x_NoMachine_NoMachine ?x_NoMachine_UnlikeSizes ?k_NoMachine_NoName ?k_NoMachine_BadText ?k_NoMachine_NoRow ?k_NoMachine_NoTable ?k_NoMachine_TooGreat ?k_NoMachine_BadSheet ?k_NoMachine_NoPlace ?k_NoMachine_UnlikeSizes ?k_NoMachine_NoMachine ?k_NoMachine_CircuitError ?k_NoMachine_ValueError ?c_UnlikeSizes ?x_UnlikeSizes_NoMachine ?x_UnlikeSizes_UnlikeSizes ?k_UnlikeSizes_NoName ?k_UnlikeSizes_BadText ?k_UnlikeSizes_NoRow ?k_UnlikeSizes_NoTable ?k_UnlikeSizes_TooGreat ?k_UnlikeSizes_BadSheet ?k_UnlikeSizes_NoPlace ?k_UnlikeSizes_UnlikeSizes ?k_UnlikeSizes_NoMachine ?k_UnlikeSizes_CircuitError ?k_UnlikeSizes_ValueError ?nt 150 ?hL
  (case a0 => exact D.ns_m (D.q0h (by k_is) (by kernel_rfl)))
  (case l0 => exact D.q07 (D.q0m (by k_is) (by kernel_rfl)))
  (case c0 => exact D.q1i (D.q0o (by k_is) (by kernel_rfl)))
  (case k0 => exact D.q1j (by kernel_rfl))
  (case a1 => exact D.ns_m (D.q0h (by k_is) (by kernel_rfl)))
  (case l1 => exact D.q07 (D.q0m (by k_is) (by kernel_rfl)))
  (case c1 => exact D.q1i (D.q0o (by k_is) (by kernel_rfl)))
  (case k1 => exact D.q1j (by kernel_rfl))
  (case a2 => exact D.ns_m (D.q0h (by k_is) (by kernel_rfl)))
  (case l2 => exact D.q07 (D.q0m (by k_is) (by kernel_rfl)))
  (case c2 => exact D.q1i (D.q0o (by k_is) (by kernel_rfl)))
  (case k2 => exact D.q1j (by kernel_rfl))
  (case a3 => exact D.ns_m (D.q0h (by k_is) (by kernel_rfl)))
  (case l3 => exact D.q07 (D.q0m (by k_is) (by kernel_rfl)))
  (case c3 => exact D.q1i (D.q0o (by k_is) (by kernel_rfl)))
  (case k3 => exact D.q1j (by kernel_rfl))
  (case a4 => exact D.ns_m (D.q0h (by k_is) (by kernel_rfl)))
  (case l4 => exact D.q07 (D.q0m (by k_is) (by kernel_rfl)))
  (case c4 => exact D.q1i (D.q0o (by k_is) (by kernel_rfl)))
  (case k4 => exact D.q1j (by kernel_rfl))
  (case a5 => exact D.ns_m (D.q0h (by k_is) (by kernel_rfl)))
  (case l5 => exact D.q07 (D.q0m (by k_is) (by kernel_rfl)))
  (case c5 => exact D.q1i (D.q0o (by k_is) (by kernel_rfl)))
  (case k5 => exact D.q1j (by kernel_rfl))
  (case a6 => exact D.ns_m (D.q0h (by k_is) (by kernel_rfl)))
  (case l6 => exact D.q07 (D.q0m (by k_is) (by kernel_rfl)))
  (case c6 => exact D.q1i (D.q0o (by k_is) (by kernel_rfl)))
  (case k6 => exact D.q1j (by kernel_rfl))
  (case a7 => exact D.ns_m (D.q0h (by k_is) (by kernel_rfl)))
  (case l7 => exact D.q07 (D.q0m (by k_is) (by kernel_rfl)))
  (case c7 => exact D.q1i (D.q0o (by k_is) (by kernel_rfl)))
  (case k7 => exact D.q1j (by kernel_rfl))
  (case a8 => exact D.ns_m (D.q0h (by k_is) (by kernel_rfl)))
  (case l8 => exact D.q07 (D.q0m (by k_is) (by kernel_rfl)))
  (case c8 => exact D.q1i (D.q0o (by k_is) (by kernel_rfl)))
  (case k8 => exact D.q1j (by kernel_rfl))
  (case a9 => exact D.ns_m (D.q0h (by k_is) (by kernel_rfl)))
  (case l9 => exact D.q07 (D.q0m (by k_is) (by kernel_rfl)))
  (case c9 => exact D.q1i (D.q0o (by k_is) (by kernel_rfl)))
  (case k9 => exact D.q1j (by kernel_rfl))
  (case a10 => exact D.ns_m (D.q0h (by k_is) (by kernel_rfl)))
  (case l10 => exact D.q07 (D.q0m (by k_is) (by kernel_rfl)))
  (case c10 => exact D.q1i (D.q0o (by k_is) (by kernel_rfl)))
  (case k10 => exact D.q1j (by kernel_rfl))
  (case a11 => exact D.ns_m (D.q0h (by k_is) (by kernel_rfl)))
  (case l11 => exact D.q07 (D.q0m (by k_is) (by kernel_rfl)))
  (case c11 => exact D.q1i (D.q0o (by k_is) (by kernel_rfl)))
  (case k11 => exact D.q1j (by kernel_rfl))
  (case a12 => exact D.ns_m (D.q0h (by k_is) (by kernel_rfl)))
  (case l12 => exact D.q07 (D.q0m (by k_is) (by kernel_rfl)))
  (case c12 => exact D.q1i (D.q0o (by k_is) (by kernel_rfl)))
  (case k12 => exact D.q1j (by kernel_rfl))
  (case a13 => exact D.ns_m (D.q0h (by k_is) (by kernel_rfl)))
  (case l13 => exact D.q07 (D.q0m (by k_is) (by kernel_rfl)))
  (case c13 => exact D.q1i (D.q0o (by k_is) (by kernel_rfl)))
  (case k13 => exact D.q1j (by kernel_rfl))
  (case a14 => exact D.ns_m (D.q0h (by k_is) (by kernel_rfl)))
  (case l14 => exact D.q07 (D.q0m (by k_is) (by kernel_rfl)))
  (case c14 => exact D.q1i (D.q0o (by k_is) (by kernel_rfl)))
  (case k14 => exact D.q1j (by kernel_rfl))
  (case a15 => exact D.ns_m (D.q0h (by k_is) (by kernel_rfl)))
  (case l15 => exact D.q07 (D.q0m (by k_is) (by kernel_rfl)))
  (case c15 => exact D.q1i (D.q0o (by k_is) (by kernel_rfl)))
  (case k15 => exact D.q1j (by kernel_rfl))
  (case a16 => exact D.ns_m (D.q0h (by k_is) (by kernel_rfl)))
  (case l16 => exact D.q07 (D.q0m (by k_is) (by kernel_rfl)))
  (case c16 => exact D.q1i (D.q0o (by k_is) (by kernel_rfl)))
  (case k16 => exact D.q1j (by kernel_rfl))
  (case a17 => exact D.ns_m (D.q0h (by k_is) (by kernel_rfl)))
  (case l17 => exact D.q07 (D.q0m (by k_is) (by kernel_rfl)))
  (case c17 => exact D.q1i (D.q0o (by k_is) (by kernel_rfl)))
  (case k17 => exact D.q1j (by kernel_rfl))
  (case a18 => exact D.ns_m (D.q0h (by k_is) (by kernel_rfl)))
  (case l18 => exact D.q07 (D.q0m (by k_is) (by kernel_rfl)))
  (case c18 => exact D.q1i (D.q0o (by k_is) (by kernel_rfl)))
  (case k18 => exact D.q1j (by kernel_rfl))
  (case a19 => exact D.ns_m (D.q0h (by k_is) (by kernel_rfl)))
  (case l19 => exact D.q07 (D.q0m (by k_is) (by kernel_rfl)))
  (case c19 => exact D.q1i (D.q0o (by k_is) (by kernel_rfl)))
  (case k19 => exact D.q1j (by kernel_rfl))
  (case a20 => exact D.ns_m (D.q0h (by k_is) (by kernel_rfl)))
  (case l20 => exact D.q07 (D.q0m (by k_is) (by kernel_rfl)))
  (case c20 => exact D.q1i (D.q0o (by k_is) (by kernel_rfl)))
  (case k20 => exact D.q1j (by kernel_rfl))
  (case a21 => exact D.ns_m (D.q0h (by k_is) (by kernel_rfl)))
  (case l21 => exact D.q07 (D.q0m (by k_is) (by kernel_rfl)))
  (case c21 => exact D.q1i (D.q0o (by k_is) (by kernel_rfl)))
  (case k21 => exact D.q1j (by kernel_rfl))
  (case v4 => exact rfl)
  (case h4 => exact (show codeHdIn _ _ 165 = true by kernel_rfl))
  (case m4 => exact w0j _ (by simp))
  (case n_CircuitError => exact D.ns_m (D.q0h (by k_is) (by kernel_rfl)))
  (case n_NoPlace => exact D.ns_m (D.q0h (by k_is) (by kernel_rfl)))
  (case n_NoName => exact D.ns_m (D.q0h (by k_is) (by kernel_rfl)))
  (case n_BadText => exact D.ns_m (D.q0h (by k_is) (by kernel_rfl)))
  (case n_NoRow => exact D.ns_m (D.q0h (by k_is) (by kernel_rfl)))
  (case n_NoTable => exact D.ns_m (D.q0h (by k_is) (by kernel_rfl)))
  (case n_UnlikeSizes => exact D.ns_m (D.q0h (by k_is) (by kernel_rfl)))
  (case n_TooGreat => exact D.ns_m (D.q0h (by k_is) (by kernel_rfl)))
  (case n_NoMachine => exact D.ns_m (D.q0h (by k_is) (by kernel_rfl)))
  (case n_BadSheet => exact D.ns_m (D.q0h (by k_is) (by kernel_rfl)))
  (case z_ValueError => exact D.ns_m (D.q0h (by k_is) (by kernel_rfl)))
  (case z_all => exact D.ns_m (D.q0h (by k_is) (by kernel_rfl)))
  (case z_int => exact D.ns_m (D.q0h (by k_is) (by kernel_rfl)))
  (case z_isinstance => exact D.ns_m (D.q0h (by k_is) (by kernel_rfl)))
  (case z_len => exact D.ns_m (D.q0h (by k_is) (by kernel_rfl)))
  (case z_list => exact D.ns_m (D.q0h (by k_is) (by kernel_rfl)))
  (case z_min => exact D.ns_m (D.q0h (by k_is) (by kernel_rfl)))
  (case z_range => exact D.ns_m (D.q0h (by k_is) (by kernel_rfl)))
  (case z_repr => exact D.ns_m (D.q0h (by k_is) (by kernel_rfl)))
  (case z_reversed => exact D.ns_m (D.q0h (by k_is) (by kernel_rfl)))
  (case z_tuple => exact D.ns_m (D.q0h (by k_is) (by kernel_rfl)))
  (case z_zip => exact D.ns_m (D.q0h (by k_is) (by kernel_rfl)))
  (case e_NoMachine => kernel_rfl)
  (case e_UnlikeSizes => kernel_rfl)
  (case c_NoMachine => kernel_rfl)
  (case x_NoMachine_NoMachine => kernel_rfl)
  (case x_NoMachine_UnlikeSizes => kernel_rfl)
  (case k_NoMachine_NoName => kernel_rfl)
  (case k_NoMachine_BadText => kernel_rfl)
  (case k_NoMachine_NoRow => kernel_rfl)
  (case k_NoMachine_NoTable => kernel_rfl)
  (case k_NoMachine_TooGreat => kernel_rfl)
  (case k_NoMachine_BadSheet => kernel_rfl)
  (case k_NoMachine_NoPlace => kernel_rfl)
  (case k_NoMachine_UnlikeSizes => kernel_rfl)
  (case k_NoMachine_NoMachine => kernel_rfl)
  (case k_NoMachine_CircuitError => kernel_rfl)
  (case k_NoMachine_ValueError => kernel_rfl)
  (case c_UnlikeSizes => kernel_rfl)
  (case x_UnlikeSizes_NoMachine => kernel_rfl)
  (case x_UnlikeSizes_UnlikeSizes => kernel_rfl)
  (case k_UnlikeSizes_NoName => kernel_rfl)
  (case k_UnlikeSizes_BadText => kernel_rfl)
  (case k_UnlikeSizes_NoRow => kernel_rfl)
  (case k_UnlikeSizes_NoTable => kernel_rfl)
  (case k_UnlikeSizes_TooGreat => kernel_rfl)
  (case k_UnlikeSizes_BadSheet => kernel_rfl)
  (case k_UnlikeSizes_NoPlace => kernel_rfl)
  (case k_UnlikeSizes_UnlikeSizes => kernel_rfl)
  (case k_UnlikeSizes_NoMachine => kernel_rfl)
  (case k_UnlikeSizes_CircuitError => kernel_rfl)
  (case k_UnlikeSizes_ValueError => kernel_rfl)
  (case nt => exact D.no_m (by kernel_rfl) D.x9m)
  (case hL => exact fun a M ns hl => Q.y0h M ns hl)
