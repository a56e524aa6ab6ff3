import PyProof.Rows.All
import Wide.All
import OpenK.AllK
import Wide.FinOn
import PyProof.TupleKey
import PyProof.EqAt
import PyProof.EqKinds
import Wide.Seal
import Lean
import PyProof.TupleCall
import KE.KTryMore
import KE.KRevIter
import PyProof.CollectIter
import PyProof.ConsumeWalk
import PyProof.TupleOfStr
import KE.KIsAll
import PyProof.ExcArgs
import PyProof.ExcAttrAll.ValueError
import PyProof.CompUse
import PyProof.NeKinds
import PyProof.EnumIter
import PyProof.EnumFor
import PyProof.EnumMake
import PyProof.EnumStmt
import PyProof.ListMulRoad
import PyProof.ZipIter
import PyProof.TupleIter
import PyProof.Rows.SortWalk
import PyProof.SetKind
import PyProof.Rows.SetFrom
import PyProof.FactsAll.set_1
import KE.KDictSum
import PyProof.FactsAll.set_2
import PyProof.FactsAll.tuple_2
import PyProof.ReprRoads
import PyProof.Rows.SeqMore
import PyProof.ReprLen
import PyProof.WalkInts
import PyProof.SeqI3
import PyProof.Rows.TupIter
import PyProof.ListRange
import PyProof.SumWalk
import KE.RegMulBits
import PyProof.DictIter
import PyProof.DictWalks
import PyProof.DictRoadsH
import PyProof.DictTruth
import PyProof.Rows.TupDisplay
import KE.KDictList
import PyProof.Draws
import PyProof.StrBlockI
import PyProof.StrLawsIn
import PyProof.StrOps2
import PyProof.ReprStr
import PyProof.ListNew
import PyProof.Rows.SortRev
import PyProof.WalksMore
import PyProof.MinMaxWalk
import PyProof.Rows.CallKwBuiltin
import PySem.Challenge.RW_circuits_k30_turned_and_joined
set_option Elab.async false
set_option linter.all false
set_option maxRecDepth 100000
set_option maxHeartbeats 1000000
local macro_rules | `(tactic| omega) => `(tactic| first | with_reducible assumption | decide | with_reducible exact Nat.le_refl _ | with_reducible exact Nat.zero_le _ | lia)
set_option genSizeOf false
set_option genInjectivity false
local macro_rules | `(tactic| walk_at "1") => `(tactic| (first | exact Or.inl rfl | exact Or.inr (Or.inl rfl) | exact Or.inr (Or.inr rfl)))
local macro_rules | `(tactic| walk_at "2") => `(tactic| (first | exact .inl rfl | exact .inr rfl | assumption))
local macro_rules | `(tactic| walk_at "3") => `(tactic| (first | exact Or.inl rfl | exact Or.inr rfl))
open PySem.W (codeHdIn findIn keepIn kia_one kitOne kla_obj methodObj mg_none_of mg_of pyHash_slot specialIn tabObj takesIn)
def w0a:=@List.getElem?_eq_some_iff
def w0b:=@List.getElem?_eq_getElem
def w0c:=@Option.map_eq_some_iff
def w0d:=@List.length_map
def w0e:=@List.size_toArray
def w0f:=@List.getElem?_map
def w0g:=@Nat.le_refl
def w0h:=@List.length_append
def w0i:=@List.mem_cons
def w0j:=@List.getElem?_set_ne
def w0k:=@List.mem_append_right
def w0l:=@List.getElem?_set_self
def w0m:=@List.mem_singleton
def w0n:=@List.map_append
def w0o:=@Nat.lt_of_lt_of_le
def w0p:=@List.getElem?_cons_succ
def w0q:=@List.length_cons
def w0r:=@Nat.ne_of_lt
def w0s:=@Bool.false_ne_true
def w0t:=@Bool.and_eq_true
def w0u:=@List.getElem?_append_left
def w0v:=@List.map_cons
def w0w:=@List.lookup_cons
def w0x:=@List.mem_cons_of_mem
def w0y:=@List.getElem?_append_right
def w0z:=@Nat.le_trans
def w1a:=@List.mem_of_getElem?
def w1b:=@Bool.eq_iff_iff
def w1c:=@List.all_eq_true
def w1d:=@Bool.false_eq_true
def w1e:=@List.mem_cons_self
def w1f:=@Nat.zero_le
def w1g:=@List.length_nil
def w1h:=@Nat.lt_succ_self
def w1i:=@List.mem_range
def w1j:=@Nat.lt_irrefl
def w1k:=@List.mem_append
def w1l:=@List.getElem?_cons_zero
def w1m:=@List.mem_iff_getElem
def w1n:=@Array.getElem?_append_left
def w1o:=@Bool.eq_false_iff
def w1p:=@List.append_nil
def w1q:=@List.length_take
def w1r:=@List.getElem_mem
def w1s:=@Nat.lt_succ_of_lt
def w1t:=@Array.getElem?_eq_some_iff
def w1u:=@List.length_drop
def w1v:=@List.filter_cons
def w1w:=@List.getElem?_eq_none
def w1x:=@List.mem_map
def w1y:=@Nat.pow_le_pow_right
def w1z:=@List.nodup_cons
def w2a:=@List.find?_cons
def w2b:=@List.getElem?_set
def w2c:=@List.map_nil
def w2d:=@Nat.one_le_two_pow
def w2e:=@List.length_singleton
def w2f:=@List.any_cons
def w2g:=@List.append_assoc
def w2h:=@List.drop_eq_getElem_cons
def w2i:=@List.not_mem_nil
def w2j:=@List.map_map
def w2k:=@List.mem_filterMap
def w2l:=@List.getElem?_replicate
def w2m:=@List.all_cons
def w2n:=@List.filter_cons_of_pos
def w2o:=@Nat.add_sub_cancel
def w2p:=@List.length_replicate
def w2q:=@Nat.min_le_right
def w2r:=@List.drop_length
def w2s:=@Bool.not_true
def w2t:=@List.map_take
def w2u:=@List.filterMap_cons
def w2v:=@Array.length_toList
def w2w:=@List.of_mem_zip
def w2x:=@Nat.min_eq_left
def w2y:=@List.nodup_iff_pairwise_ne
def w2z:=@Int.emod_lt_of_pos
def w3a:=@Option.isSome_iff_exists
def w3b:=@Option.isSome_map
def w3c:=@Option.bind_eq_some_iff
def w3d:=@Bool.and_true
def w3e:=@List.filter_cons_of_neg
def w3f:=@List.map_drop
def w3g:=@List.getElem_inj
def w3h:=@List.forIn_cons
def w3i:=@List.mem_filter
def w3j:=@Nat.le_of_lt
def w3k:=@Bool.or_eq_true
def w3l:=@List.dropLast_eq_take
def w3m:=@Int.emod_nonneg
def w3n:=@List.filter_nil
def w3o:=@List.contains_iff_mem
def w3p:=@List.mem_append_left
def w3q:=@Bool.not_false
def w3r:=@Nat.le_succ
def w3s:=@Array.toList_append
def w3t:=@List.map_congr_left
def w3u:=@List.replicate_zero
def w3v:=@Array.forIn_toList
def w3w:=@List.lookup_append
def w3x:=@List.length_range'
def w3y:=@Nat.not_lt
def w3z:=@Int.sub_zero
def w4a:=@Nat.zero_add
def w4b:=@Nat.sub_self
def w4c:=@Nat.pow_succ
namespace PySem.W.Fast
theorem tw11854895239132656470:True:=trivial
theorem tw3395880731065789803:True:=trivial
theorem tw5271503427424818918:True:=trivial
theorem tw13123643017713881846:True:=trivial
theorem tw11212345477467462662:True:=trivial
theorem tw2522164365890741512:True:=trivial
theorem tw6330708120637392483:True:=trivial
theorem tw2824598322410609435:True:=trivial
theorem tw1001530079818260098:True:=trivial
theorem tw4671326138780842459:True:=trivial
theorem tw699828072477338825:True:=trivial
theorem tw17942389261387484620:True:=trivial
theorem tw829714174607439140:True:=trivial
theorem tw18076901743827165808:True:=trivial
theorem tw14994707425029455545:True:=trivial
theorem tw4938639809022615332:True:=trivial
theorem tw16752426972564368758:True:=trivial
theorem tw11491929214489317180:True:=trivial
theorem tw6758808350013775529:True:=trivial
theorem tw1133844723232421206:True:=trivial
theorem tw5692802843100522959:True:=trivial
theorem tw16402107004555557959:True:=trivial
theorem tw9676495748969734017:True:=trivial
theorem tw7764807177902392882:True:=trivial
theorem tw800873725007634036:True:=trivial
theorem tw18232826631092704061:True:=trivial
theorem tw6851638746166657020:True:=trivial
theorem tw14273920240339234626:True:=trivial
theorem tw130806788310947996:True:=trivial
theorem tw1534947770265482741:True:=trivial
theorem tw5648623312089642189:True:=trivial
theorem tw5421247697988347989:True:=trivial
theorem tw13995681316497962425:True:=trivial
theorem tw15451014880454254341:True:=trivial
theorem tw16340393081573242146:True:=trivial
theorem tw5024876784557816184:True:=trivial
theorem tw17372566555189983266:True:=trivial
theorem tw5735795410174622449:True:=trivial
theorem tw5505809721556946542:True:=trivial
theorem tw2211219769855085517:True:=trivial
theorem tw7961239615068799697:True:=trivial
theorem tw9089461169597934349:True:=trivial
theorem tw527087205450085094:True:=trivial
theorem tw8641815034925477078:True:=trivial
theorem tw3427673096593490420:True:=trivial
theorem tw323516638035950115:True:=trivial
theorem tw9193976198668836691:True:=trivial
theorem tw2637501633329782344:True:=trivial
theorem tw15912537010210300341:True:=trivial
theorem tw17612197686808531156:True:=trivial
theorem tw712733980675398797:True:=trivial
theorem tw18097247075598461003:True:=trivial
theorem tw3135476943417383401:True:=trivial
theorem tw8064670938331834524:True:=trivial
theorem tw3903284073156831668:True:=trivial
theorem tw15147379041337638993:True:=trivial
theorem tw11025953423460465135:True:=trivial
theorem tw15804666407052209887:True:=trivial
theorem tw4649432241093560389:True:=trivial
theorem tw1561205830422267487:True:=trivial
end PySem.W.Fast
namespace L2
open PySem PySem.Spec PyProof.Rows
variable{C a b:Addr}{A:Around}{op:CmpOp}{c e tg:Expr}{fd:FuncData}{h h':Heap}{pins:List (Addr×Obj)}{ch fp:List Addr}{es:List Expr}{N ps:List Str}{us:List Value}{M:Model}{i t':Nat}{p pos:Pos}{P prog:Program}{K:PySem.W.Frag}{s:Shared}{x:Str}{mg:Str->Option Value}{u:Value}{E:Value->Shared->Prop}{f:Value->Value->Sem Value}{w:World}
set_option genInjectivity true in
inductive Kx where
 |non|bl (b:Bool)|int (i:Int)|str (x:Str)|tup (ks:List Kx)
inductive Sh where
 |ob|bl|int|str|tup (ss:List Sh)|many (s:Sh)
noncomputable instance:DecidableEq Kx:=fun _ _=>Classical.propDecidable _
mutual
noncomputable def Kx.depth:Kx->Nat
 |.tup ks=>Kx.depths ks+1
 |_=>0
noncomputable def Kx.depths:List Kx->Nat
 |[]=>0
 |k::ks=>max k.depth (Kx.depths ks)
end
mutual
def Conf:Kx->Sh->Prop
 |.non,.ob=>True
 |.bl _,.ob=>True
 |.bl _,.bl=>True
 |.int _,.int=>True
 |.str _,.str=>True
 |.tup ks,.tup ss=>Confs ks ss
 |.tup ks,.many s=>ConfM ks s
 |_,_=>False
def Confs:List Kx->List Sh->Prop
 |[],[]=>True
 |k::ks,s::ss=>Conf k s/\Confs ks ss
 |_,_=>False
def ConfM:List Kx->Sh->Prop
 |[],_=>True
 |k::ks,s=>Conf k s/\ConfM ks s
end
mutual
def KIs(h:Heap):Kx->Value->Prop
 |.non,v=>v=.none
 |.bl b,v=>v=.bool b
 |.int i,v=>∃t,v=.int i t
 |.str x,v=>∃t,v=.str x t
 |.tup ks,v=>∃a o items n,v=.ref a/\h.get? a=some o/\o.cls=.type "tuple" /\ o.data=.seq items n/\KAre h ks items.toList
def KAre(h:Heap):List Kx->List Value->Prop
 |[],vs=>vs=[]
 |k::ks,vs=>∃v r,vs=v::r/\KIs h k v/\KAre h ks r
end
mutual
theorem x6m{h:Heap}:∀(k k':Kx){v:Value},KIs h k v->KIs h k' v->k=k'
 |.non,k',v,x,y=>by
  cases(show v=.none from x);cases k' with
  |non=>rfl
  |bl c=>cases(show Value.none=.bool c from y)
  |int i=>obtain⟨t,e⟩:=y;cases e
  |str i=>obtain⟨t,e⟩:=y;cases e
  |tup ks=>obtain⟨_,_,_,_,e,_⟩:=y;cases e
 |.bl b,k',v,x,y=>by
  cases(show v=.bool b from x);cases k' with
  |non=>cases(show Value.bool b=.none from y)
  |bl c=>cases(show Value.bool b=.bool c from y);rfl
  |int i=>obtain⟨t,e⟩:=y;cases e
  |str i=>obtain⟨t,e⟩:=y;cases e
  |tup ks=>obtain⟨_,_,_,_,e,_⟩:=y;cases e
 |.int b,k',v,x,y=>by
  obtain⟨t,rfl⟩:=x;cases k' with
  |non=>cases y
  |bl c=>cases y
  |int i=>obtain⟨t,e⟩:=y;cases e;rfl
  |str i=>obtain⟨t,e⟩:=y;cases e
  |tup ks=>obtain⟨_,_,_,_,e,_⟩:=y;cases e
 |.str b,k',v,x,y=>by
  obtain⟨t,rfl⟩:=x;cases k' with
  |non=>cases y
  |bl c=>cases y
  |int i=>obtain⟨t,e⟩:=y;cases e
  |str i=>obtain⟨t,e⟩:=y;cases e;rfl
  |tup ks=>obtain⟨_,_,_,_,e,_⟩:=y;cases e
 |.tup ks,k',v,x,y=>by
  obtain⟨a,o,it,n,rfl,h1,h2,h3,h4⟩:=x;cases k' with
  |non=>cases y
  |bl c=>cases y
  |int i=>obtain⟨t,e⟩:=y;cases e
  |str i=>obtain⟨t,e⟩:=y;cases e
  |tup ks'=>
   obtain⟨a',o',it',n',e,g1,g2,g3,g4⟩:=y;cases e;rw[h1]at g1;cases g1;rw[h3]at g3;injection g3 with e1 _
   subst e1;rw[q9w ks ks' h4 g4]
theorem q9w{h:Heap}:∀(ks ks':List Kx){vs:List Value},KAre h ks vs->KAre h ks' vs->ks=ks'
 |[],ks',vs,x,y=>by
  cases(show vs=[]from x);cases ks' with
  |nil=>rfl
  |cons k ks'=>obtain⟨v,r,e,_⟩:=y;cases e
 |k::ks,ks',vs,x,y=>by
  obtain⟨v,r,rfl,h1,h2⟩:=x;cases ks' with
  |nil=>cases(show v::r=[]from y)
  |cons k' ks'=>
   obtain⟨v',r',e,g1,g2⟩:=y;cases e;rw[x6m k k' h1 g1,q9w ks ks' h2 g2]
end
mutual
theorem x2k{h h':Heap}(hk:∀a o,h.get? a=some o->o.cls=.type "tuple"->(∃it n,o.data=.seq it n)->h'.get? a=some o):∀(k:Kx){v:Value},KIs h k v->KIs h' k v
 |.non,v,x=>x
 |.bl b,v,x=>x
 |.int b,v,x=>x
 |.str b,v,x=>x
 |.tup ks,v,x=>by
  obtain⟨a,o,it,n,rfl,h1,h2,h3,h4⟩:=x;exact⟨a,o,it,n,rfl,hk a o h1 h2 ⟨it,n,h3⟩,h2,h3,x0p hk ks h4⟩
theorem x0p{h h':Heap}(hk:∀a o,h.get? a=some o->o.cls=.type "tuple"->(∃it n,o.data=.seq it n)->h'.get? a=some o):∀(ks:List Kx){vs:List Value},KAre h ks vs->KAre h' ks vs
 |[],vs,x=>x
 |k::ks,vs,x=>by
  obtain⟨v,r,rfl,h1,h2⟩:=x;exact⟨v,r,rfl,x2k hk k h1,x0p hk ks h2⟩
end
theorem KAre.length:∀(ks:List Kx){vs:List Value},KAre h ks vs->vs.length=ks.length
 |[],vs,x=>by cases(show vs=[]from x);rfl
 |k::ks,vs,x=>by
  obtain⟨v,r,rfl,h1,h2⟩:=x;rw[w0q,w0q,KAre.length ks h2]
mutual
noncomputable def kHash(w:World):Kx->Int
 |.non=>PySem.W.hashW w.params .none
 |.bl b=>reduceHash (if b=true then 1 else 0)
 |.int i=>hashInt i
 |.str x=>hashStr w x
 |.tup ks=>reduceHash (Builtin.Tuple.tupleHashOf (kHashes w ks))
noncomputable def kHashes(w:World):List Kx->List Int
 |[]=>[]
 |k::ks=>kHash w k::kHashes w ks
end
mutual
noncomputable def kDraws:Kx->Nat
 |.tup ks=>kDrawss ks+1
 |_=>1
noncomputable def kDrawss:List Kx->Nat
 |[]=>0
 |k::ks=>kDraws k+kDrawss ks
end
mutual
theorem x6n:∀(k:Kx)(v:Value)(A:Around)(s:Shared)(Q:Int->Shared->Prop),KIs s.heap k v->A.units+k.depth<cLine->Q (kHash w k) {s with toks:=s.toks+kDraws k}->wpAny (model prog w) A (pyHash v) Q E s
 |.non,v,A,s,Q,x,hu,h=>by
  cases(show v=.none from x);exact pyHash_slot (T:="NoneType") rfl F.slot_NoneType_hash F.entry_NoneType_hash (F.args_NoneType_hash_1 _) (beq_builtin_none _) (.inr (by omega)) (wpAny_bind (wpAny_pure (wpAny_bind (wpAny_mkInt (wpAny_pure ⟨_,_,rfl,h⟩)))))
 |.bl b,v,A,s,Q,x,hu,h=>by
  cases(show v=.bool b from x);refine pyHash_slot (T:="bool") rfl F.slot_bool_hash entry_int_hash (args_int_hash _) (beq_builtin_none _) (.inr (by omega)) ?_;cases b
  ·exact(show wpAny _ _ (do ret (<- mkInt 0)) _ _ s from wpAny_bind (wpAny_mkInt (wpAny_pure ⟨_,_,rfl,h⟩)))
  ·exact(show wpAny _ _ (do ret (<- mkInt 1)) _ _ s from wpAny_bind (wpAny_mkInt (wpAny_pure ⟨_,_,rfl,h⟩)))
 |.int i,v,A,s,Q,x,hu,h=>by
  obtain⟨t,rfl⟩:=x;exact wpAny_pyHash_int h
 |.str i,v,A,s,Q,x,hu,h=>by
  obtain⟨t,rfl⟩:=x;exact wpAny_pyHash_str h
 |.tup ks,v,A,s,Q,x,hu,h=>by
  obtain⟨a,o,it,n,rfl,h1,h2,h3,h4⟩:=x;refine pyHash_slot (T:="tuple") ⟨_,h1,h2⟩ F.slot_tuple_hash F.entry_tuple_hash (F.args_tuple_hash_1 _) (beq_builtin_none _) (.inr (by omega)) ?_;show wpAny _ _ (Builtin.Tuple.tupleItemsOf (.ref a) >>= _) _ _ s;refine wpAny_bind (wpAny_tupleItemsOf h1 h3 ?_);refine wpAny_bind ?_;rw[<- w3v];refine x2l ks it.toList A.in1 s #[] _ h4 (by simp only[Kx.depth,Around.in1_units]at hu |-;omega) fun b hb=>?_
  show wpAny _ _ (retInt (Builtin.Tuple.tupleHashOf b.toList)) _ _ _;rw[hb];exact wpAny_bind (wpAny_mkInt (wpAny_pure ⟨_,_,rfl,by simpa [kHash,kDraws,Nat.add_assoc]using h⟩))
theorem x2l:∀(ks:List Kx)(vs:List Value)(A:Around)(s:Shared)(b:Array Int)(Q:Array Int->Shared->Prop),KAre s.heap ks vs->A.units+Kx.depths ks<cLine ->
  (∀b',b'.toList=b.toList++kHashes w ks->Q b' {s with toks:=s.toks+kDrawss ks}) ->
  wpAny (model prog w) A (forIn vs b fun x r=>do let h <- pyHash x;pure PUnit.unit;pure (ForInStep.yield (r.push h))) Q E s
 |[],vs,A,s,b,Q,x,hu,h=>by
  cases(show vs=[]from x);exact wpAny_pure (h b (by simp[kHashes]))
 |k::ks,vs,A,s,b,Q,x,hu,h=>by
  obtain⟨v,r,rfl,h1,h2⟩:=x;simp only[Kx.depths]at hu;rw[w3h];refine wpAny_bind (wpAny_bind (x6n k v A s _ h1 (by omega) ?_));refine wpAny_bind (wpAny_pure (wpAny_pure ?_))
  exact x2l ks r A _ _ Q h2 (by omega) fun b' hb=>by
   have:=h b' (by simp[hb,kHashes])
   simpa [kDrawss,Nat.add_assoc]using this
end
theorem x6o(a b:Bool):decide (Kx.bl a=Kx.bl b)=(a==b):=by
 by_cases e:a=b
 ·subst e;simp
 ·rw[decide_eq_false (fun z=>e (by injection z))];exact(beq_eq_false_iff_ne.mpr e).symm
theorem y1b(a b:Int):decide (Kx.int a=Kx.int b)=(a==b):=by
 by_cases e:a=b
 ·subst e;simp
 ·rw[decide_eq_false (fun z=>e (by injection z))];exact(beq_eq_false_iff_ne.mpr e).symm
theorem y1c(a b:Str):decide (Kx.str a=Kx.str b)=(a==b):=by
 by_cases e:a=b
 ·subst e;simp
 ·rw[decide_eq_false (fun z=>e (by injection z))];exact(beq_eq_false_iff_ne.mpr e).symm
noncomputable def sameAt(ks ks':List Kx)(j:Nat):Bool:=decide (ks[j]?=ks'[j]?)
theorem y1d:∀ks ks':List Kx,((List.range (min ks.length ks'.length)).all (sameAt ks ks')&&ks.length==ks'.length)=decide (Kx.tup ks=Kx.tup ks'):=by
 intro ks ks'
 by_cases e:ks=ks'
 ·subst e;rw[decide_eq_true rfl];simp[sameAt]
 ·rw[decide_eq_false (fun z=>e (by injection z))]
  rw[Bool.and_eq_false_iff]
  by_cases hl:ks.length=ks'.length
  ·left
   rw[w1o];intro ha;refine e (List.ext_getElem? fun j=>?_)
   by_cases hj:j<ks.length
   ·have:=w1c.mp ha j (w1i.mpr (by omega));exact of_decide_eq_true this
   ·rw[w1w (by omega),w1w (by omega)]
  ·right
   simpa using hl
theorem q7l:∀(ks:List Kx){vs:List Value},KAre h ks vs->∀(j:Nat)(v:Value),vs[j]?=some v->∃k,ks[j]?=some k/\KIs h k v
 |[],vs,x,j,v,e=>by cases(show vs=[]from x);simp at e
 |k::ks,vs,x,j,v,e=>by
  obtain⟨u,r,rfl,h1,h2⟩:=x;cases j with
  |zero=>cases e;exact⟨k,rfl,h1⟩
  |succ j=>exact q7l ks h2 j v (by simpa using e)
theorem q75:∀(ks:List Kx)(j:Nat)(k:Kx),ks[j]?=some k->k.depth<=Kx.depths ks
 |[],j,k,e=>by simp at e
 |x::ks,j,k,e=>by
  simp only[Kx.depths];cases j with
  |zero=>cases e;omega
  |succ j=>have:=q75 ks j k (by simpa using e);omega
theorem q76:∀(ks:List Kx)(ss:List Sh),Confs ks ss->∀(j:Nat)(k:Kx),ks[j]?=some k->∃s,ss[j]?=some s/\Conf k s
 |[],ss,_,j,k,e=>by simp at e
 |x::ks,[],c,j,k,e=>c.elim
 |x::ks,s::ss,c,j,k,e=>by
  cases j with
  |zero=>cases e;exact⟨s,rfl,c.1⟩
  |succ j=>exact q76 ks ss c.2 j k (by simpa using e)
theorem q77:∀(ks:List Kx)(s:Sh),ConfM ks s->∀(j:Nat)(k:Kx),ks[j]?=some k->Conf k s
 |[],s,_,j,k,e=>by simp at e
 |x::ks,s,c,j,k,e=>by
  cases j with
  |zero=>cases e;exact c.1
  |succ j=>exact q77 ks s c.2 j k (by simpa using e)
theorem z1g(s:Shared):∀(n:Nat)(k k':Kx)(sh:Sh)(v v':Value)(A:Around),k.depth<=n->Conf k sh->Conf k' sh->KIs s.heap k v->KIs s.heap k' v'->A.units+n<cLine->SeqAt.EqAt A s v v' (decide (k=k')):=by
 intro n
 induction n with
 |zero=>
  intro k k' sh v v' A hd c c' x y hu;cases k with
  |non=>
   cases sh with
   |ob=>
    cases k' with
    |non=>cases(show v=.none from x);cases(show v'=.none from y);rw[decide_eq_true rfl];exact .same _
    |bl b=>cases(show v=.none from x);cases(show v'=.bool b from y);rw[decide_eq_false (fun z=>nomatch z)];exact .none_bool b
    |_=>exact c'.elim
   |_=>exact c.elim
  |bl a=>
   cases sh with
   |ob=>
    cases k' with
    |non=>cases(show v=.bool a from x);cases(show v'=.none from y);rw[decide_eq_false (fun z=>nomatch z)];exact .bool_none a
    |bl b=>cases(show v=.bool a from x);cases(show v'=.bool b from y);rw[x6o];exact .bool_bool a b
    |_=>exact c'.elim
   |bl=>
    cases k' with
    |bl b=>cases(show v=.bool a from x);cases(show v'=.bool b from y);rw[x6o];exact .bool_bool a b
    |_=>exact c'.elim
   |_=>exact c.elim
  |int a=>
   cases sh with
   |int=>
    cases k' with
    |int b=>obtain⟨t,rfl⟩:=x;obtain⟨u,rfl⟩:=y;rw[y1b];exact .int_int a t b u
    |_=>exact c'.elim
   |_=>exact c.elim
  |str a=>
   cases sh with
   |str=>
    cases k' with
    |str b=>obtain⟨t,rfl⟩:=x;obtain⟨u,rfl⟩:=y;rw[y1c];exact .str_str a t b u
    |_=>exact c'.elim
   |_=>exact c.elim
  |tup ks=>simp only[Kx.depth]at hd;omega
 |succ n ih=>
  intro k k' sh v v' A hd c c' x y hu;cases k with
  |non=>exact ih .non k' sh v v' A (w1f _) c c' x y (by omega)
  |bl a=>exact ih (.bl a) k' sh v v' A (w1f _) c c' x y (by omega)
  |int a=>exact ih (.int a) k' sh v v' A (w1f _) c c' x y (by omega)
  |str a=>exact ih (.str a) k' sh v v' A (w1f _) c c' x y (by omega)
  |tup ks=>
   obtain⟨a,o,it,m,rfl,h1,h2,h3,h4⟩:=x
   have tail:∀ks',k'=.tup ks'->(∀(j:Nat)(u u':Kx),ks[j]?=some u->ks'[j]?=some u'->∃s,Conf u s/\Conf u' s)->SeqAt.EqAt A s (.ref a) v' (decide (Kx.tup ks=k')):=by
    rintro ks' rfl hc;obtain⟨b,o',it',m',rfl,g1,g2,g3,g4⟩:=y
    by_cases hab:a=b
    ·subst hab;rw[h1]at g1;cases g1;rw[h3]at g3;injection g3 with e1 _
     subst e1;rw[q9w ks ks' h4 g4,decide_eq_true rfl];exact .same _
    ·have l1:=KAre.length ks h4;have l2:=KAre.length ks' g4;rw[<- y1d]
     have:=SeqAt.RcAt.tuples (A:=A) (s:=s) (e:=sameAt ks ks') (show s.heap.IsTuple a it from⟨o,h1,h2,m,h3⟩) (show s.heap.IsTuple b it' from⟨o',g1,g2,m',g3⟩) (by omega) (fun j j1 j2=>by
      obtain⟨u,u1,u2⟩:=q7l ks h4 j it[j] (by simp[j1]);obtain⟨u',u1',u2'⟩:=q7l ks' g4 j it'[j] (by simp[j2]);obtain⟨sh',c1,c2⟩:=hc j u u' u1 u1';have hdj:=q75 ks j u u1;simp only[Kx.depth]at hd;have z:=ih u u' sh' _ _ A.in1 (by omega) c1 c2 u2 u2' (by rw[Around.in1_units];omega)
      have e:sameAt ks ks' j=decide (u=u'):=by
       unfold sameAt;rw[u1,u1']
       by_cases q:u=u'
       ·rw[q];simp
       ·rw[decide_eq_false q,decide_eq_false (fun z=>q (Option.some.inj z))]
      rw[e];exact z)
     rw[show it.size=ks.length by simpa using l1,show it'.size=ks'.length by simpa using l2]at this;exact .of_refs hab this
   cases sh with
   |tup ss=>
    cases k' with
    |tup ks'=>
     refine tail ks' rfl fun j u u' e1 e2=>?_
     obtain⟨s1,q1,q2⟩:=q76 ks ss c j u e1;obtain⟨s2,q3,q4⟩:=q76 ks' ss c' j u' e2;rw[q1]at q3;cases q3;exact⟨s1,q2,q4⟩
    |_=>exact c'.elim
   |many s1=>
    cases k' with
    |tup ks'=>exact tail ks' rfl fun j u u' e1 e2=>⟨s1,q77 ks s1 c j u e1,q77 ks' s1 c' j u' e2⟩
    |_=>exact c'.elim
   |_=>exact c.elim
theorem y1e:∀(n:Nat)(k:Kx)(v:Value)(s:Shared)(Q:Bool->Shared->Prop),k.depth<=n->KIs s.heap k v->Q true s->wpAny (model prog w) A (eqIsQuiet n v) Q E s:=by
 intro n
 induction n with
 |zero=>
  intro k v s Q hd x h;cases k with
  |non=>cases(show v=.none from x);rw[eqIsQuiet_byValue _ rfl];exact wpAny_pure h
  |bl b=>cases(show v=.bool b from x);rw[eqIsQuiet_byValue _ rfl];exact wpAny_pure h
  |int i=>obtain⟨t,rfl⟩:=x;rw[eqIsQuiet_byValue _ rfl];exact wpAny_pure h
  |str i=>obtain⟨t,rfl⟩:=x;rw[eqIsQuiet_byValue _ rfl];exact wpAny_pure h
  |tup ks=>simp only[Kx.depth]at hd;omega
 |succ n ih=>
  intro k v s Q hd x h;cases k with
  |non=>cases(show v=.none from x);rw[eqIsQuiet_byValue _ rfl];exact wpAny_pure h
  |bl b=>cases(show v=.bool b from x);rw[eqIsQuiet_byValue _ rfl];exact wpAny_pure h
  |int i=>obtain⟨t,rfl⟩:=x;rw[eqIsQuiet_byValue _ rfl];exact wpAny_pure h
  |str i=>obtain⟨t,rfl⟩:=x;rw[eqIsQuiet_byValue _ rfl];exact wpAny_pure h
  |tup ks=>
   obtain⟨a,o,it,m,rfl,h1,h2,h3,h4⟩:=x;have hT:s.TypeIs (.ref a) "tuple":=⟨o,h1,h2⟩;unfold eqIsQuiet;refine wpAny_bind (wpAny_specialOf hT F.slot_tuple_eq.lookup ?_);show wpAny _ _ (isInstance (.ref a) (.type "tuple") >>= _) _ _ s;refine wpAny_bind (wpAny_isInstance hT isSubtype_tuple_tuple ?_);simp only[w2s,w1d,if_false];refine wpAny_bind (wpAny_seqItems h1 h3 ?_);refine wpAny_bind ?_;show wpAny _ _ (forIn it _ _) _ _ s;rw[<- w3v];refine wpAny_forIn_list _ (fun rest r s'=>r.1=none/\s'=s/\∀v∈rest,∃k:Kx,k.depth<=n/\KIs s.heap k v) _ ?_ ?_ _ _ ⟨rfl,rfl,fun v hv=>?_⟩
   ·rintro v rest r s' ⟨hr,rfl,hall⟩;obtain⟨k,k1,k2⟩:=hall v w1e;refine wpAny_bind (ih k v _ _ k1 k2 ?_);simp only[w2s,w1d,if_false];exact wpAny_pure ⟨rfl,rfl,fun u hu'=>hall u (w0x _ hu')⟩
   ·rintro⟨r1,r2⟩ s' ⟨hr,rfl,_⟩;simp only at hr;subst hr;exact wpAny_pure h
   ·obtain⟨j,hj,e⟩:=w1m.mp hv;obtain⟨k,k1,k2⟩:=q7l ks h4 j v (by rw[w0b hj,e]);have:=q75 ks j k k1;simp only[Kx.depth]at hd;exact⟨k,by omega,k2⟩
noncomputable def treeKind(prog:Program)(w:World)(sh:Sh):HeapKind prog w Kx where
 is:=fun h k a=>KIs h k (.ref a)/\Conf k sh/\k.depth<=7
 hash:=kHash w
 draws:=kDraws
 room:=fun A=>A.units+8<cLine
 inj:=fun hx hy=>x6m _ _ hx.1 hy.1
 keeps:=fun {h h' k a d o es ep} x ho hd hs=>⟨x2k (fun b ob e1 e2 e3=>by
  have hne:b≠d:=by
   rintro rfl;rw[ho]at e1;cases e1;obtain⟨it,n,e⟩:=e3;rw[hd]at e;cases e
  exact(hs.2 b hne).trans e1) _ x.1,x.2⟩
 pyHash:=fun {A E s k a Q} hu hk h=>x6n k _ A s Q hk.1 (by have:=hk.2.2;omega) h
 eqBool:=fun {A E s x y a b Q} hu hx hy h=>z1g s 7 x y sh _ _ A hx.2.2 hx.2.1 hy.2.1 hx.1 hy.1 (by omega) prog w E Q h
 quiet:=fun {A E s k a Q} hk h=>y1e 8 k _ s Q (by have:=hk.2.2;omega) hk.1 h
set_option Elab.async false
set_option linter.all false
set_option maxRecDepth 100000
noncomputable abbrev Key:=Sum Int Str
noncomputable def keyIs:Key->Value->Bool
 |.inl k,v=>Value.isInt k v
 |.inr x,v=>Value.isStrOf x v
noncomputable def keyH(w:World):Key->Int
 |.inl k=>hashInt k
 |.inr x=>hashStr w x
theorem q2i:∀{k:Key}{v:Value},keyIs k v=true->(∃i t,k=Sum.inl i/\v=Value.int i t)\/(∃x t,k=Sum.inr x/\v=Value.str x t)
 |.inl i,v,h=>by
  obtain⟨t,e⟩:=Value.isInt_shape (k:=i) (v:=v) h;exact .inl ⟨i,t,rfl,e⟩
 |.inr x,v,h=>by
  obtain⟨t,e⟩:=Value.isStrOf_shape (x:=x) (v:=v) h;exact .inr ⟨x,t,rfl,e⟩
theorem x8u(i:Int)(t:Tok):keyIs (.inl i) (.int i t)=true:=by simp[keyIs,Value.isInt]
theorem x8v(x:Str)(t:Tok):keyIs (.inr x) (.str x t)=true:=by simp[keyIs,Value.isStrOf]
theorem y73(a b:Int):decide ((Sum.inl a:Key)=Sum.inl b)=(a==b):=by
 by_cases e:a=b
 ·subst e;simp
 ·have h:¬(Sum.inl a:Key)=Sum.inl b:=fun q=>e (Sum.inl.inj q)
  rw[decide_eq_false h];exact(beq_eq_false_iff_ne.mpr e).symm
theorem y74(a b:Str):decide ((Sum.inr a:Key)=Sum.inr b)=decide (a=b):=by
 by_cases e:a=b
 ·subst e;simp
 ·have h:¬(Sum.inr a:Key)=Sum.inr b:=fun q=>e (Sum.inr.inj q)
  rw[decide_eq_false h,decide_eq_false e]
theorem y75(a:Int)(b:Str):decide ((Sum.inl a:Key)=Sum.inr b)=false:=decide_eq_false (fun q=>nomatch q)
theorem y76(a:Str)(b:Int):decide ((Sum.inr a:Key)=Sum.inl b)=false:=decide_eq_false (fun q=>nomatch q)
noncomputable def mixKind(prog:Program)(w:World):PySem.KeyKind prog w Key where
 is:=keyIs
 hash:=keyH w
 inj:=fun v a b ha hb=>by
  rcases q2i ha with⟨i,t,rfl,rfl⟩|⟨x,t,rfl,rfl⟩
  ·rcases q2i hb with⟨j,u,rfl,e⟩|⟨y,u,rfl,e⟩
   ·injection e with e1 _;rw[e1]
   ·exact nomatch e
  ·rcases q2i hb with⟨j,u,rfl,e⟩|⟨y,u,rfl,e⟩
   ·exact nomatch e
   ·injection e with e1 _;rw[e1]
 byValue:=fun k v h=>by
  rcases q2i h with⟨i,t,rfl,rfl⟩|⟨x,t,rfl,rfl⟩<;>rfl
 pyHash:=fun hv h=>by
  rcases q2i hv with⟨i,t,rfl,rfl⟩|⟨x,t,rfl,rfl⟩
  ·exact wpAny_pyHash_int h
  ·exact wpAny_pyHash_str h
 eqBool:=fun hu hv h=>by
  rcases q2i hu with⟨i,t,rfl,rfl⟩|⟨x,t,rfl,rfl⟩
  ·rcases q2i hv with⟨j,u,rfl,rfl⟩|⟨y,u,rfl,rfl⟩
   ·rw[y73]at h;exact wpAny_eqBool_int h
   ·rw[y75]at h;exact SeqAt.EqAt.int_str i t y u _ _ _ _ h
  ·rcases q2i hv with⟨j,u,rfl,rfl⟩|⟨y,u,rfl,rfl⟩
   ·rw[y76]at h;exact SeqAt.EqAt.str_int x t j u _ _ _ _ h
   ·rw[y74]at h;exact wpAny_eqBool_str h
 «strs»:=fun k x t v h=>by
  rcases q2i h with⟨i,u,rfl,e⟩|⟨y,u,rfl,e⟩
  ·exact nomatch e
  ·injection e with e1 _
   subst e1;cases v<;>rfl
theorem x55(prog:Program)(w:World)(i:Int)(t:Tok):(mixKind prog w).is (.inl i) (.int i t)=true:=x8u i t
theorem x56(prog:Program)(w:World)(x:Str)(t:Tok):(mixKind prog w).is (.inr x) (.str x t)=true:=x8v x t
set_option genInjectivity true in
inductive V where
 |non|bl (b:Bool)|int (i:Int)|str (x:Str)|byt (b:Array UInt8)|flt (b:UInt64)|ref (a:Addr)|ty (n:String)
 deriving DecidableEq
variable{xs:List V}{v:V}
def RelV:V->Value->Prop
 |.non,u=>u=Value.none
 |.bl b,u=>u=Value.bool b
 |.int i,u=>∃t,u=Value.int i t
 |.str x,u=>∃t,u=Value.str x t
 |.byt b,u=>∃t,u=Value.bytes b t
 |.flt b,u=>∃t,u=Value.float b t
 |.ref a,u=>u=Value.ref a
 |.ty n,u=>u=Value.type n
abbrev Vals:List V->List Value->Prop:=Paired RelV
theorem Vals.length(r:Vals xs us):xs.length=us.length:=Paired.length r
theorem Vals.get:∀{xs:List V}{us:List Value}{i:Nat}{x:V},Vals xs us->xs[i]?=some x->∃u,us[i]?=some u/\RelV x u
 |_,_,_,_,.nil,e=>by simp at e
 |_,_,0,_,.cons r _,e=>by simp at e;subst e;exact⟨_,rfl,r⟩
 |_,_,i+1,x,.cons _ t,e=>by
  obtain⟨u,h1,h2⟩:=Vals.get (i:=i) (x:=x) t (by simpa using e);exact⟨u,by simpa using h1,h2⟩
theorem Vals.append:∀{xs ys:List V}{us ws:List Value},Vals xs us->Vals ys ws->Vals (xs++ys) (us++ws)
 |_,_,_,_,.nil,s=>s
 |_,_,_,_,.cons r t,s=>.cons r (Vals.append t s)
theorem Vals.take:∀{xs:List V}{us:List Value}(n:Nat),Vals xs us->Vals (xs.take n) (us.take n)
 |_,_,0,_=>.nil
 |_,_,_+1,.nil=>.nil
 |_,_,n+1,.cons r t=>.cons r (Vals.take n t)
theorem Vals.drop:∀{xs:List V}{us:List Value}(n:Nat),Vals xs us->Vals (xs.drop n) (us.drop n)
 |_,_,0,r=>r
 |_,_,_+1,.nil=>.nil
 |_,_,n+1,.cons _ t=>Vals.drop n t
def RelO:Option V->Option Value->Prop
 |some v,some u=>RelV v u
 |none,none=>True
 |_,_=>False
def KV{κ:Type}:List (κ×V)->List (κ×Value)->Prop:=Paired fun(p:κ×V) (q:κ×Value)=>p.1=q.1/\RelV p.2 q.2
noncomputable def kV:Key->V
 |.inl i=>.int i
 |.inr x=>.str x
inductive HO where
 /-- a list -/
 |lst (xs:List V)
 /-- a tuple (never changes) -/
 |tup (xs:List V)
 /-- a dict whose keys are ints and texts;one whose keys are tuples of ints and texts (the empty one is both) -/
 |dK (kvs:List (Key×V))|dT (sh:Sh) (kvs:List (Kx×V)) (kas:List Addr)
 /-- a set of ints: its members,its size -/
 |set (S:Int->Bool) (n:Nat)
 /-- an instance of the class at C,its dict at dx,its attributes -/
 |ins (C dx:Addr) (fs:List (Str×V))
 /-- the dict of the instance at x -/
 |own (x:Addr)
 /-- the dict of an exception -/
 |xd (fs:List (Str×V))
 /-- a bound method,f of x -/
 |met (f x:Addr)
 /-- a range object lo,lo+1,.. below hi -/
 |rng (lo hi:Int)
 /-- a thing that is known to the object (the script;a dict while a loop walks it): read,never written while it is so -/
 |frz (o:Obj) (u:HO)
 /-- a code object's table -/
 |tbl (ps:Array Value)
 /-- any other thing,by what is true of its one object (a def of one's own: SetO a S n:=HO.ext fun h=>..) -/
 |ext (φ:Heap->Prop)
noncomputable abbrev Hp:=Addr->Option HO
variable{H H':Hp}
def TupLike:HO->Prop
 |.tup _=>True
 |.frz _ (.tup _)=>True
 |.frz _ (.own _)=>True
 |_=>False
mutual
def KRep(H:Hp):Kx->V->Prop
 |.non,v=>v=.non
 |.bl b,v=>v=.bl b
 |.int i,v=>v=.int i
 |.str x,v=>v=.str x
 |.tup ks,v=>∃a xs,v=.ref a/\(H a=some (.tup xs)\/∃o,H a=some (.frz o (.tup xs)))/\KReps H ks xs
def KReps(H:Hp):List Kx->List V->Prop
 |[],vs=>vs=[]
 |k::ks,vs=>∃v r,vs=v::r/\KRep H k v/\KReps H ks r
end
mutual
theorem KRep.keeps{H H':Hp}(ht:∀b u,TupLike u->H b=some u->H' b=some u):∀(k:Kx){v:V},KRep H k v->KRep H' k v
 |.non,_,x=>x
 |.bl _,_,x=>x
 |.int _,_,x=>x
 |.str _,_,x=>x
 |.tup ks,_,x=>by
  obtain⟨a,xs,e,q,r⟩:=x;refine⟨a,xs,e,?_,KReps.keeps ht ks r⟩;rcases q with q|⟨o,q⟩
  ·exact .inl (ht _ _ True.intro q)
  ·exact .inr ⟨o,ht _ _ True.intro q⟩
theorem KReps.keeps{H H':Hp}(ht:∀b u,TupLike u->H b=some u->H' b=some u):∀(ks:List Kx){vs:List V},KReps H ks vs->KReps H' ks vs
 |[],_,x=>x
 |k::ks,_,x=>by
  obtain⟨v,r,e,h1,h2⟩:=x;exact⟨v,r,e,KRep.keeps ht k h1,KReps.keeps ht ks h2⟩
end
noncomputable def upd(H:Hp)(a:Addr)(o:HO):Hp:=fun b=>if b=a then some o else H b
theorem q0g{o:HO}:upd H a o a=some o:=by unfold upd;rw[if_pos rfl]
theorem q0d{o:HO}(h:b≠a):upd H a o b=H b:=by unfold upd;rw[if_neg h]
theorem q06{o u:HO}(h:H a=some o)(h':H b=some u)(d:o≠u):a≠b:=by
 intro e;subst e;rw[h]at h';exact d (Option.some.inj h')
theorem q0q{o:HO}(h:H a=some o)(h':H b=none):a≠b:=by
 intro e;subst e;rw[h]at h';cases h'
section
variable(P:Program)(w:World)
def BareT(h:Heap)(a:Addr):Prop:=∃o,h.get? a=some o/\o.dict=none
def ObjOk(H:Hp)(h:Heap)(a:Addr):HO->Prop
 |.lst xs=>xs.length<=sizeLine/\∃(its:List Value)(n:Nat),Vals xs its/\h.get? a=some {cls:=.type "list", data:=.seq its.toArray n}
 |.tup xs=>xs.length<=sizeLine/\∃its:List Value,Vals xs its/\IsTup h a its.toArray/\BareT h a
 |.dK kvs=>kvs.length<=sizeLine/\(a==sysModules)=false/\∃vs,KV kvs vs/\h.DictOf (mixKind P w) a vs
 |.dT sh kvs kas=>kvs.length<=sizeLine/\(a==sysModules)=false/\∃xs:List (Kx×Addr×Value),
   Paired (fun(p:Kx×V) (q:Kx×Addr×Value)=>p.1=q.1/\(KRep H p.1 (.ref q.2.1)/\Conf p.1 sh/\p.1.depth<=7)/\RelV p.2 q.2.2) kvs xs/\xs.map (·.2.1)=kas /\
   ∃o es ep,h.get? a=some o/\o.ExactDict/\o.data=.dict es ep/\es.toList=xs.map (entryOfKey (treeKind P w sh))/\(xs.map (·.1)).Nodup
 |.set S n=>h.SetOf (intKind P w) a S n
 |.ins C dx fs=>H dx=some (.own a)/\fs.length<=1000/\dx≠a/\h.get? a=some (PySem.W.instObj C dx) /\
   ∃mA,h.Ns1 dx mA/\(∀f,RelO (fs.lookup f) (mA f))/\PySem.Within mA (fs.map (·.1))
 |.own _=>∃o,h.get? a=some o
 |.xd fs=>∃mA,h.Ns1 a mA/\∀f,RelO (fs.lookup f) (mA f)
 |.rng lo hi=>∃t u v,h.get? a=some {cls:=.type "range", data:=.fields #[.int lo t,.int hi u,.int 1 v]}
 |.frz o u=>h.get? a=some o/\ObjOk H h a u
 |.tbl ps=>(∃(q:Str)(qs:Array Value),ps[0]?=some (.bool true)/\ps[1]?=some (.str q 0)/\h.get? a=some {cls:=.none,data:=.fields qs}/\TriplesOk qs.toList/\∀(pos:Pos)(cv:Value),codeAmong pos qs.toList=some cv ->
   ∃(c:Addr)(oc:Obj)(vs:Array Value)(t:Tok),cv=.ref c/\H c=some (.frz oc (.own 0))/\oc.data=.fields vs/\vs[1]?=some (.str q t)) \/
   ∃(q:Str)(c:Addr)(oc ob:Obj)(vs:Array Value)(t:Tok),ps[0]?=some (.bool false)/\ps[1]?=some (.str q 0)/\ps[2]?=some (.ref c)/\H c=some (.frz oc (.own 0))/\oc.data=.fields vs/\vs[1]?=some (.str q t)/\h.get? a=some ob
 |.met f x=>h.get? a=some (methodObj (.ref f) (.ref x))
 |.ext φ=>φ h/\(∃o,h.get? a=some o)/\∀h1 h2:Heap,φ h1->(∀o,h1.get? a=some o->h2.get? a=some o)->φ h2
def HOk(H:Hp)(h:Heap):Prop:=∀a o,H a=some o->ObjOk P w H h a o
end
section
variable{o:HO}
theorem ObjOk.lt(x:ObjOk P w H h a o):a<h.objs.size:=by
 cases o with
 |lst xs=>obtain⟨_,_,_,_,e⟩:=x;exact Heap.lt_size e
 |tup xs=>obtain⟨_,_,_,p,_⟩:=x;exact p.lt
 |dK kvs=>obtain⟨_,_,_,_,o,_,_,e,_⟩:=x;exact Heap.lt_size e
 |dT sh kvs kas=>obtain⟨_,_,_,_,_,o,_,_,e,_⟩:=x;exact Heap.lt_size e
 |set S n=>obtain⟨o,_,_,_,e,_⟩:=x;exact Heap.lt_size e
 |ins C dx fs=>obtain⟨_,_,_,e,_⟩:=x;exact Heap.lt_size e
 |own y=>obtain⟨_,e⟩:=x;exact Heap.lt_size e
 |xd fs=>obtain⟨_,⟨_,_,_,e,_⟩,_⟩:=x;exact Heap.lt_size e
 |rng lo hi=>obtain⟨_,_,_,e⟩:=x;exact Heap.lt_size e
 |frz ob u=>obtain⟨e,_⟩:=x;exact Heap.lt_size e
 |tbl ps=>rcases x with⟨_,_,_,_,e,_⟩|⟨_,_,_,_,_,_,_,_,_,_,_,_,e⟩<;>exact Heap.lt_size e
 |met f y=>exact Heap.lt_size (show h.get? a=some _ from x)
 |ext φ=>obtain⟨_,⟨_,e⟩,_⟩:=x;exact Heap.lt_size e
theorem Paired.mapP{α β:Type}{F G:α->β->Prop}:∀{l₁:List α}{l₂:List β},Paired F l₁ l₂->(∀a b,F a b->G a b)->Paired G l₁ l₂
 |_,_,.nil,_=>.nil
 |_,_,.cons r t,f=>.cons (f _ _ r) (Paired.mapP t f)
theorem ObjOk.stay(x:ObjOk P w H h a o)(k:∀b u,(b=a\/H b=some (.own a))->h.get? b=some u->h'.get? b=some u)
  (ho:∀b,H b=some (.own a)->H' b=some (.own a))(ht:∀b u,TupLike u->H b=some u->H' b=some u):ObjOk P w H' h' a o:=by
 induction o with
 |lst xs=>obtain⟨z,its,n,r,e⟩:=x;exact⟨z,its,n,r,k _ _ (.inl rfl) e⟩
 |tup xs=>obtain⟨z,its,r,⟨ob,e,c⟩,⟨o2,e2,c2⟩⟩:=x;exact⟨z,its,r,⟨ob,k _ _ (.inl rfl) e,c⟩,⟨o2,k _ _ (.inl rfl) e2,c2⟩⟩
 |dK kvs=>obtain⟨z,y,vs,r,ob,es,ep,e,c⟩:=x;exact⟨z,y,vs,r,ob,es,ep,k _ _ (.inl rfl) e,c⟩
 |dT sh kvs kas=>
  obtain⟨z,y,xs,r,ka,ob,es,ep,e,c⟩:=x;exact⟨z,y,xs,Paired.mapP r fun p q z=>⟨z.1,⟨KRep.keeps ht _ z.2.1.1,z.2.1.2⟩,z.2.2⟩,ka,ob,es,ep,k _ _ (.inl rfl) e,c⟩
 |set S n=>obtain⟨ob,es,ep,t,e,c⟩:=x;exact⟨ob,es,ep,t,k _ _ (.inl rfl) e,c⟩
 |ins C dx fs=>
  obtain⟨d,z,ne,e,mA,⟨od,es,ep,e2,c⟩,r⟩:=x;exact⟨ho _ d,z,ne,k _ _ (.inl rfl) e,mA,⟨od,es,ep,k _ _ (.inr d) e2,c⟩,r⟩
 |own y=>obtain⟨ob,e⟩:=x;exact⟨ob,k _ _ (.inl rfl) e⟩
 |xd fs=>obtain⟨mA,⟨od,es,ep,e,c⟩,r⟩:=x;exact⟨mA,⟨od,es,ep,k _ _ (.inl rfl) e,c⟩,r⟩
 |rng lo hi=>obtain⟨t,u,v,e⟩:=x;exact⟨t,u,v,k _ _ (.inl rfl) e⟩
 |frz ob u ih=>obtain⟨e,q⟩:=x;exact⟨k _ _ (.inl rfl) e,ih q⟩
 |tbl ps=>
  rcases x with⟨q,qs,p0,p1,e,tr,cd⟩|⟨q,c,oc,ob,vs,t,p0,p1,p2,h3,h4,h5,e⟩
  ·refine .inl ⟨q,qs,p0,p1,k _ _ (.inl rfl) e,tr,fun pos cv z=>?_⟩
   obtain⟨c,oc,vs,t,h1,h3,h4,h5⟩:=cd pos cv z;exact⟨c,oc,vs,t,h1,ht _ _ True.intro h3,h4,h5⟩
  ·exact .inr ⟨q,c,oc,ob,vs,t,p0,p1,p2,ht _ _ True.intro h3,h4,h5,k _ _ (.inl rfl) e⟩
 |met f y=>
  have e:h.get? a=some (methodObj (.ref f) (.ref y)):=x;show h'.get? a=some (methodObj (.ref f) (.ref y));exact k a _ (.inl rfl) e
 |ext φ=>obtain⟨p,⟨o,e⟩,st⟩:=x;exact⟨st _ _ p fun o q=>k _ _ (.inl rfl) q,⟨o,k _ _ (.inl rfl) e⟩,st⟩
theorem HOk.lt(x:HOk P w H h)(e:H a=some o):a<h.objs.size:=(x a o e).lt
theorem HOk.fresh(x:HOk P w H h)(e:h.objs.size<=a):H a=none:=by
 cases q:H a with
 |none=>rfl
 |some u=>exact absurd (w0o (x.lt q) e) (w1j _)
theorem HOk.kept(x:HOk P w H h)(k:∀b u,h.get? b=some u->h'.get? b=some u):HOk P w H h':=fun a o e=>
 (x a o e).stay (fun b u _ q=>k b u q) (fun _ q=>q) fun _ _ _ q=>q
theorem HOk.laid(x:HOk P w H h)(k:∀b u,h.get? b=some u->h'.get? b=some u)(hp:h.objs.size<=a)(new:ObjOk P w (upd H a o) h' a o):HOk P w (upd H a o) h':=fun b u e=>by
 have hn:=x.fresh hp
 by_cases hb:b=a
 ·subst hb;rw[q0g]at e;cases e;exact new
 ·rw[q0d hb]at e;exact(x b u e).stay (fun c v _ q=>k c v q) (fun c q=>by rw[q0d (q0q q hn)];exact q) fun c xs _ q=>by rw[q0d (q0q q hn)];exact q
end
def Rd(H:Hp)(a:Addr)(u:HO):Prop:=H a=some u\/∃o,H a=some (.frz o u)
theorem Rd.ok{u:HO}(r:Rd H a u)(x:HOk P w H h):ObjOk P w H h a u:=by
 rcases r with r|⟨o,r⟩
 ·exact x a u r
 ·obtain⟨_,q⟩:=x a _ r;exact q
def Mut:Option HO->Prop
 |some (.lst _)=>True
 |some (.dK _)=>True
 |some (.dT _ _ _)=>True
 |some (.set _ _)=>True
 |some (.ins _ _ _)=>True
 |some (.ext _)=>True
 |_=>False
section
variable{x e:Addr}{o':HO}
theorem HOk.write(ok:HOk P w H h)(mu:Mut (H x))(he:e=x\/H e=some (.own x))(k:∀b u,b≠e->h.get? b=some u->h'.get? b=some u)(heo:∃u,h'.get? e=some u)
  (new:ObjOk P w (upd H x o') h' x o'):HOk P w (upd H x o') h':=fun b u q=>by
 have nown:∀c y,H c=some (.own y)->c≠x:=fun c y r z=>by subst z;rw[r]at mu;exact mu
 have ntup:∀c u,TupLike u->H c=some u->c≠x:=fun c u t r z=>by
  subst z;rw[r]at mu;cases u<;>first|exact mu|exact t
 by_cases hb:b=x
 ·subst hb;rw[q0g]at q;cases q;exact new
 ·rw[q0d hb]at q
  by_cases hbe:b=e
  ·have q':H b=some (.own x):=by
    rcases he with z|z
    ·exact absurd (hbe.trans z) hb
    ·rw[hbe];exact z
   rw[q]at q';cases q';obtain⟨v,hv⟩:=heo;exact⟨v,by rw[hbe];exact hv⟩
  ·refine(ok b u q).stay (fun c v hc r=>k c v ?_ r) (fun c r=>by rw[q0d (nown c b r)];exact r) fun c xs t r=>by rw[q0d (ntup c xs t r)];exact r
   rcases hc with rfl|hc
   ·exact hbe
   ·rintro rfl;rcases he with z|z
    ·exact nown c b hc z
    ·rw[hc]at z;cases z;exact hb rfl
end
structure Un(fs ex:List Addr)(H H':Hp)(h h':Heap):Prop where
 keep:∀b o,h.get? b=some o->H b=none->b∉fs->b∉ex->h'.get? b=some o
 slot:∀b o,h.get? b=some o->H b=none->b∈fs->b∉ex->∃sl,h'.get? b=some {o with slots:=sl}
 free:∀b o,h.get? b=some o->H b=none->b∉ex->H' b=none
 there:∀b o,h.get? b=some o->b∉ex->∃o',h'.get? b=some o'
 tups:∀b xs,H b=some (.tup xs)->H' b=some (.tup xs)
 frzs:∀b o u,H b=some (.frz o u)->H' b=some (.frz o u)
 tbls:∀b ps,H b=some (.tbl ps)->∃more,H' b=some (.tbl (ps++more))
section
variable{fs fs' ex ex':List Addr}{H1 H2:Hp}{h1 h2:Heap}{x e:Addr}{o:HO}
theorem Un.any(u:Un fs ex H H1 h h1){ob:Obj}(q:h.get? b=some ob)(n:H b=none)(hx:b∉ex):∃sl,h1.get? b=some {ob with slots:=sl}:=by
 by_cases hb:b∈fs
 ·exact u.slot b ob q n hb hx
 ·exact⟨ob.slots,u.keep b ob q n hb hx⟩
theorem Un.kept(k:∀b u,h.get? b=some u->h'.get? b=some u):Un fs ex H H h h':=
 ⟨fun b ob q _ _ _=>k b ob q,fun b ob q _ _ _=>⟨ob.slots,k b ob q⟩,fun _ _ _ n _=>n,fun b ob q _=>⟨ob,k b ob q⟩,fun _ _ q=>q,fun _ _ _ q=>q,fun _ ps q=>⟨#[],by rw[q];simp⟩⟩
theorem Un.refl:Un fs ex H H h h:=Un.kept fun _ _ q=>q
theorem Un.laid(k:∀b u,h.get? b=some u->h'.get? b=some u)(hp:h.objs.size<=a)(hn:H a=none):Un fs ex H (upd H a o) h h' where
 keep:=fun b u q _ _ _=>k b u q
 slot:=fun b u q _ _ _=>⟨u.slots,k b u q⟩
 free:=fun b u q n _=>by rw[q0d (w0r (w0o (Heap.lt_size q) hp))];exact n
 there:=fun b u q _=>⟨u,k b u q⟩
 tups:=fun b xs q=>by rw[q0d (q0q q hn)];exact q
 frzs:=fun b u xs q=>by rw[q0d (q0q q hn)];exact q
 tbls:=fun b ps q=>⟨#[],by rw[q0d (q0q q hn),q];simp⟩
theorem Un.write(mu:Mut (H x))(he:e=x\/H e=some (.own x))(k:∀b u,b≠e->h.get? b=some u->h'.get? b=some u)(heo:∃u,h'.get? e=some u):Un fs ex H (upd H x o) h h':=by
 have hx:∀b,H b=none->b≠x:=fun b n z=>by subst z;rw[n]at mu;exact mu
 have hb:∀b,H b=none->b≠e:=fun b n z=>by
  subst z;rcases he with r|r
  ·exact hx b n r
  ·rw[n]at r;cases r
 have hm:∀b u,H b=some u->¬Mut (some u)->b≠x:=fun b u q nm z=>by subst z;rw[q]at mu;exact nm mu
 refine⟨fun b u q n _ _=>k b u (hb b n) q,fun b u q n _ _=>⟨u.slots,k b u (hb b n) q⟩,fun b u q n _=>by rw[q0d (hx b n)];exact n,fun b u q _=>?_,
  fun b xs q=>by rw[q0d (hm b _ q fun z=>z)];exact q,fun b u xs q=>by rw[q0d (hm b _ q fun z=>z)];exact q,fun b ps q=>⟨#[],by rw[q0d (hm b _ q fun z=>z),q];simp⟩⟩
 by_cases hbe:b=e
 ·subst hbe;exact heo
 ·exact⟨u,k b u hbe q⟩
end
noncomputable def trk(h:Heap)(H:Hp):List Addr:=(List.range h.objs.size).filter fun a=>(H a).isSome
noncomputable def hidT(h:Heap)(H:Hp):Heap:=PySem.W.hideAll h (trk h H)
theorem x2m(h:Heap)(H:Hp):(hidT h H).objs.size=h.objs.size:=PySem.W.hideAll_size _ _
theorem x3y{o:Obj}(e:h.get? b=some o)(n:H b=none):(hidT h H).get? b=some o:=
 PySem.W.hideAll_get _ e fun hm=>by
  have q:(H b).isSome=true:=(w3i.mp hm).2;rw[n]at q;simp at q
theorem x6p{o:Obj}(e:(hidT h H).get? b=some o):h.get? b=some o/\H b=none:=by
 have e':h.get? b=some o:=PySem.W.of_hideAll (trk h H) e;refine⟨e',?_⟩;cases q:H b with
 |none=>rfl
 |some x=>
  have hm:b∈trk h H:=w3i.mpr ⟨w1i.mpr (Heap.lt_size e'),by simp[q]⟩;have z:(hidT h H).get? b=none:=PySem.W.hideAll_none (trk h H) hm;rw[z]at e;cases e
noncomputable def allNews(g h:Heap)(L:Addr):List (Addr×Obj):=(List.range h.objs.size).filterMap fun a=>if a=L\/(g.get? a).isSome=true then none else(h.get? a).map fun o=>(a,o)
noncomputable def rest(g h:Heap)(L d:Addr):List (Addr×Obj):=(allNews g h L).filter fun p=>decide (p.1≠d)
structure Mod(K:PySem.W.Frag)(mg:Str->Option Value)(base:Heap):Prop where
 kin:K.In base
 glob:base.Ns mainGlobals mg
 blt:∃mb,base.Ns builtinsNs mb/\∀x:Str,x≠"__name__"->mb x=bootBuiltins x
 nolimit:base.NoLimit
structure Cx where
 prog:Program
 w:World
 K:PySem.W.Frag
 mg:Str->Option Value
 base:Heap
 A:Around
 N:List Str
 s₀:Shared
 H₀:Hp
 env:Env
 outer:List Env
 stack:List Env
 ex:List Addr
 fn:Str->Bool
 calm:Bool
 pn:List (Addr×Obj)
 xe:Value->Shared->Prop
variable{X:Cx}
noncomputable def frs(l:List Env):List Addr:=l.filterMap (·.frame)
noncomputable abbrev Cx.fs(X:Cx):List Addr:=frs X.outer
def Vis(sc:Scope)(x:Str):Prop:=sc.names.lookup x=some .local\/sc.names.lookup x=some .cell\/sc.names.lookup x=some .free
def Loc(sc:Scope)(x:Str):Prop:=sc.names.lookup x=some .local\/sc.names.lookup x=some .cell
def Look(env:Env)(h:Heap)(m:Str->Option Value)(x:Str)(u:Value):Prop:=
 (env.kindOf x=some .local/\m x=some u)\/((env.kindOf x=some .cell\/env.kindOf x=some .free)/\∃c,env.cells.lookup x=some c/\h.IsCell c (some u))
noncomputable abbrev markO(P:Addr)(q:Str):Obj:={cls:=.str q 0,data:=.fields #[.ref P]}
def TabOk(K:PySem.W.Frag)(H:Hp):Prop:=∀(a:Addr)(q:Str)(P:Addr),(a,markO P q)∈K->∃ps:Array Value,H P=some (.tbl ps)/\ps[0]?=some (.bool true)/\ps[1]?=some (.str q 0)
noncomputable def noMark(K:PySem.W.Frag):Bool:=K.all fun p=>match p.2.cls with
 |.str _ _=>false
 |_=>true
theorem TabOk.vac(h:noMark K=true):TabOk K H:=fun a q P m=>by
 have:=w1c.mp h _ m;cases this
theorem TabOk.un{fs ex:List Addr}{h':Heap}(t:TabOk K H)(u:Un fs ex H H' h h'):TabOk K H':=fun a q P m=>by
 obtain⟨ps,e,p0,p1⟩:=t a q P m;obtain⟨more,e'⟩:=u.tbls P ps e;refine⟨_,e',?_,?_⟩
 ·rw[w1n (by obtain⟨z,_⟩:=w1t.mp p0;exact z)];exact p0
 ·rw[w1n (by obtain⟨z,_⟩:=w1t.mp p1;exact z)];exact p1
theorem TabOk.laid{D:Addr}{o:HO}(t:TabOk K H)(hn:H D=none):TabOk K (upd H D o):=fun a q P m=>by
 obtain⟨ps,e,p⟩:=t a q P m;exact⟨ps,by rw[q0d (q0q e hn)];exact e,p⟩
structure Cx.Ok(X:Cx):Prop where
 mod:Mod X.K X.mg X.base
 kind:X.env.scope.kind=.function
 glob:X.env.globals=mainGlobals
 blt:X.env.builtins=builtinsNs
 above:X.s₀.heap.objs.size<=X.env.locals
 inj:∀x y c,X.env.cells.lookup x=some c->X.env.cells.lookup y=some c->x=y
 has:∀x,(X.env.kindOf x=some .cell\/X.env.kindOf x=some .free)->∃c,X.env.cells.lookup x=some c
 cab:∀x c,X.fn x=true->X.env.cells.lookup x=some c->X.s₀.heap.objs.size<=c
 hd:X.calm=true->X.A.handled=none
 frames:X.A.frames=some X.stack
 stk:X.stack=X.outer\/(X.stack=X.env::X.outer/\X.env.frame=some X.env.locals)
 exf:∀b∈X.ex,b≠X.env.locals/\∀x c,X.env.cells.lookup x=some c->c≠b
 bs:∀b o,X.base.get? b=some o->X.s₀.heap.get? b=some o/\X.H₀ b=none
 bsz:X.base.objs.size<=X.s₀.heap.objs.size
 noex:∀b o,X.base.get? b=some o->b∉X.ex
 exfs:∀b∈X.ex,b∉X.fs
 funs:X.s₀.heap.FunFrames X.base X.outer
 frf:∀b∈X.fs,X.H₀ b=none
 tab:TabOk X.K X.H₀
structure Inv(X:Cx)(pins:List (Addr×Obj))(σ:List (Option V))(H:Hp)(s:Shared):Prop where
 ok:X.Ok
 os:s.os=X.s₀.os
 bare:AllBare s.gens
 base:Un X.fs X.ex X.H₀ H X.s₀.heap s.heap
 loc:∃m,s.heap.Ns X.env.locals m/\∀(i:Nat)(x:Str)(v:V),X.N[i]?=some x->σ[i]?=some (some v)->Vis X.env.scope x->∃u,RelV v u/\Look X.env s.heap m x u
 cell:∀x c,X.env.cells.lookup x=some c->∃v,s.heap.IsCell c v
 free:H X.env.locals=none
 freeC:∀x c,X.env.cells.lookup x=some c->H c=none
 pin:∀p∈X.pn++pins,s.heap.get? p.1=some p.2/\H p.1=none/\p.1≠X.env.locals/\p.1∉X.fs/\∀v,p.2.data≠.cell v
 hok:HOk X.prog X.w H s.heap
 len:σ.length=X.N.length
section
variable{σ:List (Option V)}
theorem Cx.Ok.nofr(ok:X.Ok){o:Obj}(e:X.base.get? b=some o):b∉X.fs:=fun hb=>by
 have:=(ok.funs.mem hb).1
 rw[e]at this;cases this
theorem Inv.bs(I:Inv X pins σ H s):∀b o,X.base.get? b=some o->s.heap.get? b=some o/\H b=none:=fun b o e=>
 ⟨I.base.keep b o (I.ok.bs b o e).1 (I.ok.bs b o e).2 (I.ok.nofr e) (I.ok.noex b o e),I.base.free b o (I.ok.bs b o e).1 (I.ok.bs b o e).2 (I.ok.noex b o e)⟩
theorem Inv.bk(I:Inv X pins σ H s):∀b o,X.base.get? b=some o->s.heap.get? b=some o:=fun b o e=>(I.bs b o e).1
theorem Inv.mod(I:Inv X pins σ H s):Mod X.K X.mg X.base:=I.ok.mod
theorem Inv.kIn(I:Inv X pins σ H s):X.K.In s.heap:=I.ok.mod.kin.keeps I.bk
theorem Inv.fr(I:Inv X pins σ H s):∃m,Fr X.base X.env.locals s.heap m:=
 let ⟨m,hn,_⟩:=I.loc
 ⟨m,hn,I.bk,w0z I.ok.bsz I.ok.above⟩
theorem Inv.lt(I:Inv X pins σ H s):X.env.locals<s.heap.objs.size:=let ⟨_,hn,_⟩:=I.loc;hn.lt
theorem Inv.sz(I:Inv X pins σ H s):X.s₀.heap.objs.size<=s.heap.objs.size:=w0z I.ok.above (w3j I.lt)
theorem Inv.nofs(I:Inv X pins σ H s)(h:s.heap.objs.size<=a):a∉X.fs:=fun hb=>by
 obtain⟨_,o,ho,_⟩:=I.ok.funs.mem hb
 exact absurd (w0o (Heap.lt_size ho) (w0z I.sz h)) (w1j _)
theorem Inv.cne(I:Inv X pins σ H s):∀x c,X.env.cells.lookup x=some c->c≠X.env.locals:=fun x c e z=>by
 obtain⟨v,o,ho,hd⟩:=I.cell x c e;obtain⟨m,⟨o',es,ep,ho',hd',_⟩,_⟩:=I.loc;rw[z,ho']at ho;cases ho;rw[hd']at hd;cases hd
theorem Inv.funs(I:Inv X pins σ H s):s.heap.FunFrames X.base X.outer:=by
 have all:∀(l:List Env),(∀b∈frs l,b∈X.fs)->X.s₀.heap.FunFrames X.base l->s.heap.FunFrames X.base l:=by
  intro l
  induction l with
  |nil=>intro _ _;trivial
  |cons env r ih=>
   intro hs hl;obtain⟨hk,⟨L,o,hf,hn,ho,hd⟩,hr⟩:=hl;have hL:L∈X.fs:=hs L (by unfold frs;rw[w2u,hf];exact w1e);obtain⟨sl,e⟩:=I.base.slot L o ho (I.ok.frf L hL) hL fun z=>I.ok.exfs L z hL
   exact⟨hk,⟨L,_,hf,hn,e,hd⟩,ih (fun b hb=>hs b (by unfold frs;rw[w2u,hf];exact w0x _ hb)) hr⟩
 exact all X.outer (fun _ hb=>hb) I.ok.funs
theorem Inv.stack(I:Inv X pins σ H s):s.heap.FunFrames X.base X.stack:=by
 rcases I.ok.stk with e|⟨e,hf⟩
 ·rw[e];exact I.funs
 ·rw[e];obtain⟨m,hn,_⟩:=I.loc;refine .cons (by rw[I.ok.kind];decide) hf hn ?_ I.funs
  exact Heap.get?_none_of_le (w0z I.ok.bsz I.ok.above)
theorem Inv.stkSub(I:Inv X pins σ H s):∀b∈frs X.stack,b∈X.env.locals::X.fs:=fun b hb=>by
 rcases I.ok.stk with e|⟨e,hf⟩
 ·rw[e]at hb;exact w0x _ hb
 ·rw[e]at hb;unfold frs at hb;rw[w2u,hf]at hb;exact hb
theorem Inv.stkFree(I:Inv X pins σ H s):∀b∈frs X.stack,H b=none:=fun b hb=>by
 rcases w0i.mp (I.stkSub b hb)with e|hb
 ·rw[e];exact I.free
 ·obtain⟨_,o,ho,_⟩:=I.ok.funs.mem hb
  exact I.base.free b o ho (I.ok.frf b hb) fun z=>I.ok.exfs b z hb
theorem Inv.step{g':Array GenState}{d':Drawn}{ch:List Addr}(I:Inv X pins σ H s)
  (hch:∀b∈ch,(b∈X.ex\/X.s₀.heap.objs.size<=b)/\b≠X.env.locals/\(∀x c,X.env.cells.lookup x=some c->c≠b)/\∀p∈X.pn++pins,p.1≠b)
  (keep:∀b o,b≠X.env.locals->b∉X.fs->b∉ch->s.heap.get? b=some o->H b=none->h'.get? b=some o)
  (slot:∀b o,b≠X.env.locals->b∈X.fs->b∉ch->s.heap.get? b=some o->H b=none->∃sl,h'.get? b=some {o with slots:=sl})(free:∀b o,b∉ch->s.heap.get? b=some o->H b=none->H' b=none)
  (there:∀b o,b∉ch->s.heap.get? b=some o->∃o',h'.get? b=some o')
  (tups:∀b xs,H b=some (.tup xs)->H' b=some (.tup xs))(frzs:∀b o u,H b=some (.frz o u)->H' b=some (.frz o u))(tbls:∀b ps,H b=some (.tbl ps)->∃more,H' b=some (.tbl (ps++more)))
  (ns:∀m,s.heap.Ns X.env.locals m->h'.Ns X.env.locals m)(hok:HOk X.prog X.w H' h')(hg:AllBare g'):
  Inv X pins σ H' {s with heap:=h',gens:=g',drawn:=d',toks:=t'}:=by
 have neL:∀b o,X.s₀.heap.get? b=some o->b≠X.env.locals:=fun b o e=>w0r (w0o (Heap.lt_size e) I.ok.above)
 have neC:∀b o,X.s₀.heap.get? b=some o->b∉X.ex->b∉ch:=fun b o e hx hb=>by
  rcases(hch b hb).1 with z|z
  ·exact hx z
  ·exact absurd (w0o (Heap.lt_size e) z) (w1j _)
 have cellK:∀x c,X.env.cells.lookup x=some c->∀v,s.heap.IsCell c v->h'.IsCell c v:=fun x c e v ⟨o,ho,hd⟩=>by
  have nch:c∉ch:=fun z=>(hch c z).2.2.1 x c e rfl
  by_cases hc:c∈X.fs
  ·obtain⟨sl,q⟩:=slot c o (I.cne x c e) hc nch ho (I.freeC x c e);exact⟨_,q,hd⟩
  ·exact⟨o,keep c o (I.cne x c e) hc nch ho (I.freeC x c e),hd⟩
 refine⟨I.ok,I.os,hg,⟨fun b o e n hb hx=>?_,fun b o e n hb hx=>?_,fun b o e n hx=>?_,fun b o e hx=>?_,fun b xs e=>tups b xs (I.base.tups b xs e),fun b o xs e=>frzs b o xs (I.base.frzs b o xs e),fun b ps e=>?_⟩,?_,fun x c e=>?_,?_,fun x c e=>?_,fun p hp=>?_,hok,I.len⟩
 ·exact keep b o (neL b o e) hb (neC b o e hx) (I.base.keep b o e n hb hx) (I.base.free b o e n hx)
 ·obtain⟨sl,e1⟩:=I.base.slot b o e n hb hx;obtain⟨sl',e2⟩:=slot b _ (neL b o e) hb (neC b o e hx) e1 (I.base.free b o e n hx);exact⟨sl',e2⟩
 ·obtain⟨o',e1⟩:=I.base.there b o e hx;exact free b o' (neC b o e hx) e1 (I.base.free b o e n hx)
 ·obtain⟨o',e1⟩:=I.base.there b o e hx;exact there b o' (neC b o e hx) e1
 ·obtain⟨m1,e1⟩:=I.base.tbls b ps e;obtain⟨m2,e2⟩:=tbls b _ e1;exact⟨m1++m2,by rw[e2,Array.append_assoc]⟩
 ·obtain⟨m,hn,hl⟩:=I.loc;refine⟨m,ns m hn,fun i x v e1 e2 e3=>?_⟩
  obtain⟨u,r,l⟩:=hl i x v e1 e2 e3;refine⟨u,r,?_⟩;rcases l with l|⟨k,c,e,z⟩
  ·exact .inl l
  ·exact .inr ⟨k,c,e,cellK x c e _ z⟩
 ·obtain⟨v,z⟩:=I.cell x c e;exact⟨v,cellK x c e v z⟩
 ·obtain⟨m,⟨o,_,_,ho,_⟩,_⟩:=I.loc;exact free _ o (fun z=>(hch _ z).2.1 rfl) ho I.free
 ·obtain⟨v,o,ho,hd⟩:=I.cell x c e;exact free c o (fun z=>(hch c z).2.2.1 x c e rfl) ho (I.freeC x c e)
 ·obtain⟨e,n,ne,nf,d⟩:=I.pin p hp;have nch:p.1∉ch:=fun z=>(hch p.1 z).2.2.2 p hp rfl
  exact⟨keep p.1 p.2 ne nf nch e n,free p.1 p.2 nch e n,ne,nf,d⟩
theorem Inv.un(I:Inv X pins σ H s)(u:Un X.fs [] H H' s.heap h')(hok:HOk X.prog X.w H' h'):Inv X pins σ H' {s with heap:=h',toks:=t'}:=by
 obtain⟨m,⟨o,es,ep,ho,r⟩,_⟩:=id I.loc;obtain⟨sl,hL⟩:=u.any ho I.free (by simp)
 exact I.step (g':=s.gens) (d':=s.drawn) (ch:=[]) (fun _ z=>nomatch z) (fun b o _ hb _ e n=>u.keep b o e n hb (by simp)) (fun b o _ hb _ e n=>u.slot b o e n hb (by simp)) (fun b o _ e n=>u.free b o e n (by simp)) (fun b o _ e=>u.there b o e (by simp)) u.tups u.frzs u.tbls (fun m' hm=>by
  obtain⟨o',es',ep',ho',r'⟩:=hm;rw[ho]at ho';cases ho';exact⟨_,es',ep',hL,r'⟩) hok I.bare
theorem Inv.call{g':Array GenState}{d':Drawn}(I:Inv X pins σ H s)(u:Un (frs X.stack) ch H H' s.heap h')(hok:HOk X.prog X.w H' h')(hg:AllBare g')
  (hch:∀b∈ch,(b∈X.ex\/X.s₀.heap.objs.size<=b)/\b≠X.env.locals/\(∀x c,X.env.cells.lookup x=some c->c≠b)/\∀p∈X.pn++pins,p.1≠b):
  Inv X pins σ H' {s with heap:=h',gens:=g',drawn:=d',toks:=t'}:=by
 obtain⟨m,⟨o,es,ep,ho,r⟩,_⟩:=id I.loc;obtain⟨sl,hL⟩:=u.any ho I.free fun z=>(hch _ z).2.1 rfl
 exact I.step (ch:=ch) hch (fun b o hL hb hc e n=>u.keep b o e n (fun z=>(w0i.mp (I.stkSub b z)).elim hL hb) hc) (fun b o _ _ hc e n=>u.any e n hc) (fun b o hc e n=>u.free b o e n hc) (fun b o hc e=>u.there b o e hc) u.tups u.frzs u.tbls (fun m' hm=>by
  obtain⟨o',es',ep',ho',r'⟩:=hm;rw[ho]at ho';cases ho';exact⟨_,es',ep',hL,r'⟩) hok hg
theorem Inv.turned{t':Nat}{it:Addr}(I:Inv X pins σ H s)(k:∀b o,b≠it->s.heap.get? b=some o->h'.get? b=some o)(hn:H it=none)(hL:it≠X.env.locals)
  (h1:it∈X.ex\/X.s₀.heap.objs.size<=it)(h2:∀x c,X.env.cells.lookup x=some c->c≠it)(h3:∀p∈X.pn++pins,p.1≠it):Inv X pins σ H {s with heap:=h',toks:=t'}:=by
 have nit:∀b u,H b=some u->b≠it:=fun b u e z=>by rw[z,hn]at e;cases e
 refine I.step (g':=s.gens) (d':=s.drawn) (ch:=[it]) (fun b hb=>?_) (fun b o _ _ hc e _=>k b o (fun z=>hc (by simp[z])) e) (fun b o _ _ hc e _=>⟨o.slots,k b o (fun z=>hc (by simp[z])) e⟩) (fun _ _ _ _ n=>n)
  (fun b o hc e=>⟨o,k b o (fun z=>hc (by simp[z])) e⟩) (fun _ _ e=>e) (fun _ _ _ e=>e) (fun b ps e=>⟨#[],by rw[e];simp⟩) (fun m hm=>?_) (fun b u e=>?_) I.bare
 ·have e:b=it:=by simpa using hb
  subst e;exact⟨h1,hL,h2,h3⟩
 ·obtain⟨o,es,ep,ho,r⟩:=hm;exact⟨o,es,ep,k _ o (Ne.symm hL) ho,r⟩
 ·refine(I.hok b u e).stay (fun c v hc q=>k c v ?_ q) (fun _ q=>q) fun _ _ _ q=>q
  rcases hc with z|z
  ·rw[z];exact nit b u e
  ·exact nit c _ z
theorem Inv.tok(I:Inv X pins σ H s)(t:Nat):Inv X pins σ H {s with toks:=t}:=I.un (h':=s.heap) (t':=t) Un.refl I.hok
theorem Inv.kept{t':Nat}(I:Inv X pins σ H s)(k:∀b u,s.heap.get? b=some u->h'.get? b=some u):Inv X pins σ H {s with heap:=h',toks:=t'}:=I.un (Un.kept k) (I.hok.kept k)
theorem Inv.laid{a:Addr}{o:HO}{t':Nat}(I:Inv X pins σ H s)(k:∀b u,s.heap.get? b=some u->h'.get? b=some u)(hp:s.heap.objs.size<=a)(new:ObjOk X.prog X.w (upd H a o) h' a o):
  Inv X pins σ (upd H a o) {s with heap:=h',toks:=t'}:=I.un (Un.laid k hp (I.hok.fresh hp)) (I.hok.laid k hp new)
theorem Inv.write{x e:Addr}{o:HO}(I:Inv X pins σ H s)(mu:Mut (H x))(he:e=x\/H e=some (.own x))(k:∀b u,b≠e->s.heap.get? b=some u->h'.get? b=some u)(heo:∃u,h'.get? e=some u)
  (new:ObjOk X.prog X.w (upd H x o) h' x o):Inv X pins σ (upd H x o) {s with heap:=h',toks:=t'}:=I.un (Un.write mu he k heo) (I.hok.write mu he k heo new)
theorem Inv.weak{σ':List (Option V)}(I:Inv X pins σ H s)(hl:σ'.length=σ.length)(w:∀(i:Nat) v,σ'[i]?=some (some v)->σ[i]?=some (some v)):Inv X pins σ' H s:=
 ⟨I.ok,I.os,I.bare,I.base,let ⟨m,hn,hl'⟩:=I.loc;⟨m,hn,fun i x v e1 e2 e3=>hl' i x v e1 (w i v e2) e3⟩,I.cell,I.free,I.freeC,I.pin,I.hok,hl.trans I.len⟩
theorem Inv.pins_of{pins':List (Addr×Obj)}(I:Inv X pins σ H s)(h:∀p∈pins',s.heap.get? p.1=some p.2/\H p.1=none/\p.1≠X.env.locals/\p.1∉X.fs/\∀v,p.2.data≠.cell v):Inv X pins' σ H s:=
 ⟨I.ok,I.os,I.bare,I.base,I.loc,I.cell,I.free,I.freeC,fun p hp=>(w1k.mp hp).elim (fun z=>I.pin p (w3p _ z)) (h p),I.hok,I.len⟩
theorem x3z(hN:N.Nodup){j:Nat}(a:N[i]?=some x)(b:N[j]?=some x):i=j:=by
 obtain⟨h1,e1⟩:=w0a.mp a;obtain⟨h2,e2⟩:=w0a.mp b;exact(w3g hN).mp (e1.trans e2.symm)
theorem x8w{Q:Unit->Shared->Prop}(I:Inv X pins σ H s)(hN:X.N.Nodup)(hi:X.N[i]?=some x)(hx:Loc X.env.scope x)(r:RelV v u)
  (h:∀s',Inv X pins (σ.set i (some v)) H s'->(∃a,Heap.SameBut a s.heap s'.heap/\(a=X.env.locals\/X.env.cells.lookup x=some a))->Q () s')(hf:X.fn x=true\/X.env.scope.names.lookup x=some .local:=by walk_at "2"):wpAny M A (storeName X.env x u) Q E s:=by
 obtain⟨m,hn,hl⟩:=id I.loc;have hcls:(X.env.scope.kind==.class||(X.env.scope.kind==.module&&X.env.locals != X.env.globals))=false:=by rw[I.ok.kind];rfl
 have hiσ:i<σ.length:=by rw[I.len];exact(w0a.mp hi).1
 have cne:=I.cne
 have tracked:∀{a:Addr}{h':Heap},(∃o,s.heap.get? a=some o/\H a=none)->Heap.SameBut a s.heap h'->HOk X.prog X.w H h':=fun {a h'} ha hs b ob e=>by
  obtain⟨_,_,hfree⟩:=ha;refine(I.hok b ob e).stay (fun c w' hc q=>(hs.2 c ?_).trans q) (fun _ q=>q) fun _ _ _ q=>q
  rintro rfl;rcases hc with rfl|hc
  ·rw[hfree]at e;cases e
  ·rw[hfree]at hc;cases hc
 rcases hx with hk|hk
 ·refine wpAny_storeName_local hk hn (fun h' hn' hs=>?_) hcls
  obtain⟨oL,_,_,hoL,_⟩:=id hn;refine h _ ⟨I.ok,I.os,I.bare,⟨fun b o e n hb hx=>?_,fun b o e n hb hx=>?_,I.base.free,fun b o e hx=>?_,I.base.tups,I.base.frzs,I.base.tbls⟩,⟨_,hn',fun j y v' e1 e2 e3=>?_⟩,fun y c e=>?_,I.free,I.freeC,fun p hp=>?_,tracked ⟨oL,hoL,I.free⟩ hs,by simpa using I.len⟩ ⟨_,hs,.inl rfl⟩
  ·exact(hs.2 b (w0r (w0o (Heap.lt_size e) I.ok.above))).trans (I.base.keep b o e n hb hx)
  ·obtain⟨sl,e1⟩:=I.base.slot b o e n hb hx;exact⟨sl,(hs.2 b (w0r (w0o (Heap.lt_size e) I.ok.above))).trans e1⟩
  ·obtain⟨o',e1⟩:=I.base.there b o e hx;exact⟨o',(hs.2 b (w0r (w0o (Heap.lt_size e) I.ok.above))).trans e1⟩
  ·by_cases hj:j=i
   ·subst hj;rw[hi]at e1;cases e1;rw[w0l hiσ]at e2;cases e2;exact⟨u,r,.inl ⟨hk,by simp⟩⟩
   ·rw[w0j (Ne.symm hj)]at e2;obtain⟨u',r',q⟩:=hl j y v' e1 e2 e3;refine⟨u',r',?_⟩;rcases q with⟨k,e⟩|⟨k,c,e,z⟩
    ·refine .inl ⟨k,?_⟩;have:y≠x:=fun e=>hj (x3z hN e1 (e ▸ hi))
     simp[this,e]
    ·exact .inr ⟨k,c,e,z.sameBut hs (cne y c e)⟩
  ·obtain⟨w',z⟩:=I.cell y c e;exact⟨w',z.sameBut hs (cne y c e)⟩
  ·obtain⟨e,n,ne,nf,d⟩:=I.pin p hp;exact⟨(hs.2 p.1 ne).trans e,n,ne,nf,d⟩
 ·have hfn:X.fn x=true:=by
   rcases hf with z|z
   ·exact z
   ·rw[z]at hk;cases hk
  obtain⟨c,hc⟩:=I.ok.has x (.inl hk);obtain⟨w',z⟩:=I.cell x c hc;refine wpAny_storeName_cell I.ok.kind hk hc z (fun h' hc' hs=>?_)
  obtain⟨oc,hoc,hocd⟩:=id z;refine h {s with heap:=h'} ⟨I.ok,I.os,I.bare,⟨fun b o e n hb hx=>?_,fun b o e n hb hx=>?_,I.base.free,fun b o e hx=>?_,I.base.tups,I.base.frzs,I.base.tbls⟩,⟨m,hn.sameBut hs (Ne.symm (cne x c hc)),fun j y v' e1 e2 e3=>?_⟩,fun y c' e=>?_,I.free,I.freeC,fun p hp=>?_,tracked ⟨oc,hoc,I.freeC x c hc⟩ hs,by simpa using I.len⟩ ⟨c,hs,.inr hc⟩
  ·exact(hs.2 b (w0r (w0o (Heap.lt_size e) (I.ok.cab x c hfn hc)))).trans (I.base.keep b o e n hb hx)
  ·obtain⟨sl,e1⟩:=I.base.slot b o e n hb hx;exact⟨sl,(hs.2 b (w0r (w0o (Heap.lt_size e) (I.ok.cab x c hfn hc)))).trans e1⟩
  ·obtain⟨o',e1⟩:=I.base.there b o e hx;exact⟨o',(hs.2 b (w0r (w0o (Heap.lt_size e) (I.ok.cab x c hfn hc)))).trans e1⟩
  ·by_cases hj:j=i
   ·subst hj;rw[hi]at e1;cases e1;rw[w0l hiσ]at e2;cases e2;exact⟨u,r,.inr ⟨.inl hk,c,hc,hc'⟩⟩
   ·rw[w0j (Ne.symm hj)]at e2;obtain⟨u',r',q⟩:=hl j y v' e1 e2 e3;refine⟨u',r',?_⟩;rcases q with q|⟨k,c',e,z'⟩
    ·exact .inl q
    ·refine .inr ⟨k,c',e,z'.sameBut hs ?_⟩;rintro rfl;exact hj (x3z hN e1 (I.ok.inj _ _ _ e hc ▸ hi))
  ·by_cases hcc:c'=c
   ·subst hcc;exact⟨_,hc'⟩
   ·obtain⟨w2,z2⟩:=I.cell y c' e;exact⟨w2,z2.sameBut hs hcc⟩
  ·obtain⟨e,n,ne,nf,d⟩:=I.pin p hp;refine⟨(hs.2 p.1 ?_).trans e,n,ne,nf,d⟩;intro q;rw[q,hoc]at e;have q':oc=p.2:=Option.some.inj e;exact d w' (by rw[<- q'];exact hocd)
theorem x30{Q:Unit->Shared->Prop}(I:Inv X pins σ H s)(hN:X.N.Nodup)(hi:X.N[i]?=some x)(hx:Loc X.env.scope x)(r:RelV v u)
  (h:∀s',Inv X pins (σ.set i (some v)) H s'->Q () s')(hf:X.fn x=true\/X.env.scope.names.lookup x=some .local:=by walk_at "2"):wpAny M A (storeName X.env x u) Q E s:=
 x8w I hN hi hx r (fun s' I' _=>h s' I') hf
theorem Inv.call'{s':Shared}{ch:List Addr}(I:Inv X pins σ H s)(ho:s'.os=s.os)(u:Un (frs X.stack) ch H H' s.heap s'.heap)(hok:HOk X.prog X.w H' s'.heap)(hg:AllBare s'.gens)
  (hch:∀b∈ch,(b∈X.ex\/X.s₀.heap.objs.size<=b)/\b≠X.env.locals/\(∀x c,X.env.cells.lookup x=some c->c≠b)/\∀p∈X.pn++pins,p.1≠b):Inv X pins σ H' s':=by
 obtain⟨h',g',d',t',o'⟩:=s';have e:o'=s.os:=ho;subst e;exact I.call (g':=g') (t':=t') (d':=d') u hok hg hch
end
abbrev XK:=Value->Option Addr->Hp->Prop
noncomputable abbrev St:=List (Option V)
variable{σ:St}
abbrev VK:=V->Hp->Prop
abbrev TE:=St->Hp->VK->Prop
variable{ta te:TE}
abbrev TT:=St->Hp->(Bool->Hp->Prop)->Prop
abbrev TA:=St->Hp->(List V->Hp->Prop)->Prop
structure Ends where
 nx:St->Hp->Prop
 rt:VK
 bk:St->Hp->Prop:=fun _ _=>False
 ct:St->Hp->Prop:=fun _ _=>False
abbrev TS:=Ends->St->Hp->Prop
variable{tb:TS}
def EP(X:Cx)(pins:List (Addr×Obj))(σ:St)(Q:VK)(u:Value)(s':Shared):Prop:=∃v H',Inv X pins σ H' s'/\RelV v u/\Q v H'
def TP(X:Cx)(pins:List (Addr×Obj))(σ:St)(Q:Bool->Hp->Prop)(b:Bool)(s':Shared):Prop:=∃H',Inv X pins σ H' s'/\Q b H'
def AP(X:Cx)(pins:List (Addr×Obj))(σ:St)(Q:List V->Hp->Prop)(us:List Value)(s':Shared):Prop:=∃vs H',Inv X pins σ H' s'/\Vals vs us/\Q vs H'
def SP(X:Cx)(pins:List (Addr×Obj))(D:Ends)(f:Flow)(s':Shared):Prop:=
 match f with
 |.next=>∃σ' H',Inv X pins σ' H' s'/\D.nx σ' H'
 |.brk=>∃σ' H',Inv X pins σ' H' s'/\D.bk σ' H'
 |.cont=>∃σ' H',Inv X pins σ' H' s'/\D.ct σ' H'
 |.ret u=>∃v σ' H',Inv X pins σ' H' s'/\RelV v u/\D.rt v H'
def PE(X:Cx)(e:Expr)(t:TE):Prop:=
 ∀(pins:List (Addr×Obj))(s:Shared)(σ:St)(H:Hp)(Q:VK),Inv X pins σ H s->t σ H Q->wpAny (model X.prog X.w) X.A (eval e X.env) (EP X pins σ Q) X.xe s
def PT(X:Cx)(e:Expr)(t:TT):Prop:=
 ∀(pins:List (Addr×Obj))(s:Shared)(σ:St)(H:Hp)(Q:Bool->Hp->Prop),Inv X pins σ H s->t σ H Q->wpAny (model X.prog X.w) X.A (isTrue e X.env (eval e X.env)) (TP X pins σ Q) X.xe s
def PW(X:Cx)(e:Expr)(t:TT):Prop:=
 ∀(whole:Sem Value)(pins:List (Addr×Obj))(s:Shared)(σ:St)(H:Hp)(Q:Bool->Hp->Prop),Inv X pins σ H s->t σ H Q->wpAny (model X.prog X.w) X.A (isTrue e X.env whole) (TP X pins σ Q) X.xe s
theorem PW.pt{t:TT}(h:PW X e t):PT X e t:=h _
def PA(X:Cx)(es:List Expr)(t:TA):Prop:=
 ∀(pos:Pos)(pins:List (Addr×Obj))(s:Shared)(σ:St)(H:Hp)(Q:List V->Hp->Prop),Inv X pins σ H s->t σ H Q->wpAny (model X.prog X.w) X.A (spliced (backTo pos (starEach es X.env))) (AP X pins σ Q) X.xe s
def PS(X:Cx)(st:Stmt)(t:TS):Prop:=
 ∀(pins:List (Addr×Obj))(s:Shared)(σ:St)(H:Hp)(D:Ends),Inv X pins σ H s->t D σ H->wpAny (model X.prog X.w) X.A (exec st X.env) (SP X pins D) X.xe s
def PSs(X:Cx)(st:List Stmt)(t:TS):Prop:=
 ∀(pins:List (Addr×Obj))(s:Shared)(σ:St)(H:Hp)(D:Ends),Inv X pins σ H s->t D σ H->wpAny (model X.prog X.w) X.A (execs st X.env) (SP X pins D) X.xe s
theorem thn{α:Type}{t:Sem α}{Q Q':α->Shared->Prop}(h:wpAny M A t Q E s)(hQ:∀a s,Q a s->Q' a s):wpAny M A t Q' E s:=wpAny_mono h hQ fun _ _ x=>x
section
def tVar(i:Nat):TE:=fun σ H Q=>∃v,σ[i]?=some (some v)/\Q v H
def tC(v:V):TE:=fun _ H Q=>Q v H
theorem y77(hN:X.N[i]?=some x)(hv:Vis X.env.scope x)(hd:(x==("__debug__":Str))=false:=by decide)(hcd:(x==("__classdict__":Str))=false:=by decide):PE X (.Name x pos) (tVar i):=by
 intro pins s σ H Q I h;obtain⟨v,e,h⟩:=h;obtain⟨m,hn,hl⟩:=I.loc;obtain⟨u,r,l⟩:=hl i x v hN e hv;have fin:EP X pins σ Q u s:=⟨v,H,I,r,h⟩;rcases l with⟨hk,hm⟩|⟨hk,c,hc,hcell⟩
 ·exact wpAny_Name (wpAny_loadName_local I.ok.kind hk hn hm fin) hd
 ·rcases hk with hk|hk
  ·exact wpAny_Name (wpAny_loadName_cell I.ok.kind hk hc hcell fin) hd
  ·exact wpAny_Name (wpAny_loadName_free I.ok.kind hk hc hcell fin hcd) hd
theorem q1m{i j pos}:PE X (.Constant (.int i) j pos) (tC (.int i)):=fun _ _ _ H _ I h=>wpAny_Constant_int ⟨.int i,H,I.tok _,⟨_,rfl⟩,h⟩
theorem x7k{b j pos}:PE X (.Constant (.bool b) j pos) (tC (.bl b)):=fun _ _ _ H _ I h=>Constant_bool ⟨.bl b,H,I,rfl,h⟩
theorem y78{x j pos}:PE X (.Constant (.str x) j pos) (tC (.str x)):=fun _ _ _ H _ I h=>Calls.Constant_str ⟨.str x,H,I.tok _,⟨_,rfl⟩,h⟩
def Gl(X:Cx)(x:Str):Prop:=X.env.kindOf x=some .globalImplicit
theorem x6q{Q:Value->Shared->Prop}(I:Inv X pins σ H s)(hg:Gl X x)(hm:X.mg x=some u)(h:Q u s)
  (hd:(x==("__debug__":Str))=false:=by decide):wpAny (model X.prog X.w) X.A (eval (.Name x pos) X.env) Q E s:=
 Calls.Name_function_global I.ok.kind hg (Calls.loadGlobal_global (by rw[I.ok.glob];exact I.mod.glob.keeps I.bk) hm h) hd
theorem x0q{Q:Value->Shared->Prop}(I:Inv X pins σ H s)(hg:Gl X x)(hm:X.mg x=none)(hv:bootBuiltins x=some u)(h:Q u s)
  (hn:x≠"__name__":=by decide)(hd:(x==("__debug__":Str))=false:=by decide):wpAny (model X.prog X.w) X.A (eval (.Name x pos) X.env) Q E s:=by
 obtain⟨mb,h1,h2⟩:=I.mod.blt;exact Calls.Name_function_global I.ok.kind hg (Calls.loadGlobal_builtin (by rw[I.ok.glob];exact I.mod.glob.keeps I.bk) hm (by rw[I.ok.blt];exact h1.keeps I.bk) ((h2 x hn).trans hv) h) hd
theorem y4f{v:V}(hg:Gl X x)(hm:X.mg x=none)(hv:bootBuiltins x=some u)(r:RelV v u)(hn:x≠"__name__":=by decide)(hd:(x==("__debug__":Str))=false:=by decide):PE X (.Name x pos) (tC v):=
 fun _ _ _ H _ I h=>x0q I hg hm hv ⟨v,H,I,r,h⟩ hn hd
variable{a b:Expr}{tb:TE}
def PC(X:Cx)(op:CmpOp)(a b:Expr)(t:TE):Prop:=
 ∀(pins:List (Addr×Obj))(s:Shared)(σ:St)(H:Hp)(Q:VK),Inv X pins σ H s->t σ H Q ->
  wpAny (model X.prog X.w) X.A (eval a X.env) (fun v s₁=>wpAny (model X.prog X.w) X.A (eval b X.env) (fun u s₂=>wpAny (model X.prog X.w) X.A (compareOp op v u) (EP X pins σ Q) X.xe s₂) X.xe s₁) X.xe s
theorem nobehind(b:Expr)(h:op≠.In)(h2:op≠.NotIn):behindInMarks op b=false:=by
 have e1:(op==CmpOp.In)=false:=by cases op<;>first|rfl|exact absurd rfl h
 have e2:(op==CmpOp.NotIn)=false:=by cases op<;>first|rfl|exact absurd rfl h2
 cases b<;>simp[behindInMarks,e1,e2]
def tB(t:TE):TT:=fun σ H Q=>t σ H fun x H1=>∃c,x=.bl c/\Q c H1
theorem x8x{t:TE}(h:PC X op a b t)(h1:behindInMarks op b=false:=by first|exact nobehind _ (by decide) (by decide)|rfl):PT X (.Compare a [op] [b] pos) (tB t):=by
 intro pins s σ H Q I hw;refine wpAny_isTrue_Compare1 (thn (h pins s σ H _ I hw) fun v s1 h1=>thn h1 fun u s2 h2=>thn h2 fun c s3 ⟨x,H1,I1,r1,q1⟩=>?_) h1
 obtain⟨d,rfl,q⟩:=q1;cases r1;exact wpAny_truthy_bool ⟨H1,I1,q⟩
variable{tA tB':TT}{rest:List Expr}
def tAnd(t u:TT):TT:=fun σ H Q=>t σ H fun c H1=>if c=true then u σ H1 Q else Q false H1
def tOr(t u:TT):TT:=fun σ H Q=>t σ H fun c H1=>if c=true then Q true H1 else u σ H1 Q
def tNot(t:TT):TT:=fun σ H Q=>t σ H fun c H1=>Q (!c) H1
theorem y4g(ha:PT X a tA):PW X (.BoolOp .And [a] pos) tA:=by
 intro wh pins s σ H Q I h;refine isTrue_and (thn (ha pins s σ H Q I h) fun c s1 e=>?_)
 cases c with
 |true=>exact isTrue_and_nil e
 |false=>exact e
theorem x8y(ha:PT X a tA):PW X (.BoolOp .Or [a] pos) tA:=by
 intro wh pins s σ H Q I h;refine isTrue_or (thn (ha pins s σ H Q I h) fun c s1 e=>?_)
 cases c with
 |false=>exact isTrue_or_nil e
 |true=>exact e
theorem y79(ha:PT X a tA)(hb:PW X (.BoolOp .And (b::rest) pos) tB'):PW X (.BoolOp .And (a::b::rest) pos) (tAnd tA tB'):=by
 intro wh pins s σ H Q I h;refine isTrue_and (thn (ha pins s σ H _ I h) fun c s1 ⟨H1,I1,q1⟩=>?_)
 cases c with
 |true=>exact hb wh pins s1 σ H1 Q I1 q1
 |false=>exact⟨H1,I1,q1⟩
theorem y3y(ha:PT X a tA)(hb:PW X (.BoolOp .Or (b::rest) pos) tB'):PW X (.BoolOp .Or (a::b::rest) pos) (tOr tA tB'):=by
 intro wh pins s σ H Q I h;refine isTrue_or (thn (ha pins s σ H _ I h) fun c s1 ⟨H1,I1,q1⟩=>?_)
 cases c with
 |true=>exact⟨H1,I1,q1⟩
 |false=>exact hb wh pins s1 σ H1 Q I1 q1
theorem y8a(ha:PT X a tA):PT X (.UnaryOp .Not a pos) (tNot tA):=by
 intro pins s σ H Q I h;exact isTrue_not (ha pins s σ H (fun c H1=>Q (!c) H1) I h)
def tAndV(ta tb:TE):TE:=fun σ H Q=>ta σ H fun x H1=>∃c,x=.bl c/\if c=true then tb σ H1 Q else Q (.bl false) H1
def tNotV(ta:TE):TE:=fun σ H Q=>ta σ H fun x H1=>∃c,x=.bl c/\Q (.bl (!c)) H1
theorem y8b{op}{t:TE}(h:PE X a t):PE X (.BoolOp op [a] pos) t:=fun pins s σ H Q I hw=>BoolOp_one (h pins s σ H Q I hw)
theorem y8c(ha:PE X a ta)(hb:PE X (.BoolOp .And (b::rest) pos) tb):PE X (.BoolOp .And (a::b::rest) pos) (tAndV ta tb):=by
 intro pins s σ H Q I h;refine BoolOp_and (thn (ha pins s σ H _ I h) fun v s1 ⟨x,H1,I1,r1,q1⟩=>?_)
 obtain⟨c,rfl,q1⟩:=q1;cases r1;refine wpAny_truthy_bool ?_;cases c with
 |true=>exact hb pins s1 σ H1 Q I1 q1
 |false=>exact⟨.bl false,H1,I1,rfl,q1⟩
theorem y8d(ha:PE X a ta):PE X (.UnaryOp .Not a pos) (tNotV ta):=by
 intro pins s σ H Q I h;refine UnaryOp_ (thn (ha pins s σ H _ I h) fun v s1 ⟨x,H1,I1,r1,q1⟩=>?_)
 obtain⟨c,rfl,q1⟩:=q1;cases r1;exact not_of (wpAny_truthy_bool ⟨.bl (!c),H1,I1,rfl,q1⟩)
def tIf(t:TT)(ta tb:TE):TE:=fun σ H Q=>t σ H fun c H1=>if c=true then ta σ H1 Q else tb σ H1 Q
theorem x31(hc:PT X c tA)(ha:PE X a ta)(hb:PE X b tb):PE X (.IfExp c a b pos) (tIf tA ta tb):=by
 intro pins s σ H Q I h;refine wpAny_IfExp (thn (hc pins s σ H _ I h) fun d s1 ⟨H1,I1,q1⟩=>?_)
 cases d with
 |true=>exact ha pins s1 σ H1 Q I1 q1
 |false=>exact hb pins s1 σ H1 Q I1 q1
end
def SqL(K:PySem.W.Frag)(H:Hp)(a:Addr)(xs:List V):Prop:=
 Rd H a (.lst xs) \/
  ∃(o:Obj)(its:Array Value)(n:Nat),K.lookup a=some o/\o.cls=.type "list" /\ o.dict=none/\o.data=.seq its n/\its.size<=sizeLine/\Vals xs its.toList
def SqT(K:PySem.W.Frag)(H:Hp)(a:Addr)(xs:List V):Prop:=
 Rd H a (.tup xs) \/
  ∃(o:Obj)(its:Array Value)(n:Nat),K.lookup a=some o/\o.cls=.type "tuple" /\ o.dict=none/\o.data=.seq its n/\its.size<=sizeLine/\Vals xs its.toList
noncomputable def absV:Value->Option V
 |.none=>some .non
 |.bool b=>some (.bl b)
 |.int i _=>some (.int i)
 |.str x _=>some (.str x)
 |.bytes b _=>some (.byt b)
 |.float b _=>some (.flt b)
 |.ref a=>some (.ref a)
 |.type n=>some (.ty n)
 |_=>none
theorem RelV.abs{x:V}(r:RelV x u):absV u=some x:=by
 cases x with
 |non=>cases r;rfl
 |bl _=>cases r;rfl
 |int _=>obtain⟨t,rfl⟩:=r;rfl
 |str _=>obtain⟨t,rfl⟩:=r;rfl
 |byt _=>obtain⟨t,rfl⟩:=r;rfl
 |flt _=>obtain⟨t,rfl⟩:=r;rfl
 |ref _=>cases r;rfl
 |ty _=>cases r;rfl
theorem RelV.inj{x y:V}(r:RelV x u)(q:RelV y u):x=y:=Option.some.inj (r.abs.symm.trans q.abs)
theorem Vals.inj:∀{xs ys:List V}{us:List Value},Vals xs us->Vals ys us->xs=ys
 |_,_,_,.nil,.nil=>rfl
 |_,_,_,.cons r t,.cons r' t'=>by rw[r.inj r',Vals.inj t t']
section
variable{ys:List V}
theorem SqL.of(h:H a=some (.lst xs)):SqL K H a xs:=.inl (.inl h)
theorem SqT.of(h:H a=some (.tup xs)):SqT K H a xs:=.inl (.inl h)
theorem Inv.list(I:Inv X pins σ H s)(h:SqL X.K H a xs):∃its:List Value,Vals xs its/\PlainL s.heap a its.toArray/\xs.length<=sizeLine:=by
 rcases h with h|⟨o,its,n,hk,hc,hd,hs,hz,r⟩
 ·obtain⟨z,its,n,r,e⟩:=h.ok I.hok;exact⟨its,r,⟨_,n,e,rfl,rfl,rfl⟩,z⟩
 ·refine⟨its.toList,r,⟨o,n,I.kIn a o hk,hc,hd,by simpa using hs⟩,?_⟩;have e:=r.length;simp only[w2v]at e;omega
theorem Inv.tuple(I:Inv X pins σ H s)(h:SqT X.K H a xs):∃its:List Value,Vals xs its/\IsTup s.heap a its.toArray/\xs.length<=sizeLine:=by
 rcases h with h|⟨o,its,n,hk,hc,_,hs,hz,r⟩
 ·obtain⟨z,its,r,p,_⟩:=h.ok I.hok;exact⟨its,r,p,z⟩
 ·refine⟨its.toList,r,⟨o,I.kIn a o hk,hc,n,by simpa using hs⟩,?_⟩;have e:=r.length;simp only[w2v]at e;omega
theorem Inv.list_inj(I:Inv X pins σ H s)(h:SqL X.K H a xs)(h':SqL X.K H a ys):xs=ys:=by
 obtain⟨its,r,⟨o,n,e,_,_,d⟩,_⟩:=I.list h;obtain⟨its',r',⟨o',n',e',_,_,d'⟩,_⟩:=I.list h';rw[e]at e';cases e';rw[d]at d';injection d' with d1 _
 have:its=its':=by simpa using congrArg Array.toList d1
 subst this;exact r.inj r'
theorem Inv.tuple_inj(I:Inv X pins σ H s)(h:SqT X.K H a xs)(h':SqT X.K H a ys):xs=ys:=by
 obtain⟨its,r,⟨o,e,_,n,d⟩,_⟩:=I.tuple h;obtain⟨its',r',⟨o',e',_,n',d'⟩,_⟩:=I.tuple h';rw[e]at e';cases e';rw[d]at d';injection d' with d1 _
 have:its=its':=by simpa using congrArg Array.toList d1
 subst this;exact r.inj r'
end
section
variable{st:Stmt}{rest:List Stmt}{t u:TS}
def tNext:TS:=fun D σ H=>D.nx σ H
def tSeq(t u:TS):TS:=fun D σ H=>t {D with nx:=u D} σ H
theorem q82:PSs X [] tNext:=fun _ _ σ H _ I h=>wpAny_execs_nil ⟨σ,H,I,h⟩
theorem q1w(h1:PS X st t)(h2:PSs X rest u):PSs X (st::rest) (tSeq t u):=by
 intro pins s σ H D I h;refine wpAny_execs_cons (thn (h1 pins s σ H {D with nx:=u D} I h) fun f s1 q=>?_)
 cases f with
 |next=>
  obtain⟨σ',H',I',q⟩:=q;exact h2 pins s1 σ' H' D I' q
 |ret v=>exact q
 |brk=>exact q
 |cont=>exact q
theorem q36(h1:PS X st t):PSs X [st] t:=by
 intro pins s σ H D I h;refine wpAny_execs_cons (thn (h1 pins s σ H D I h) fun f s1 q=>?_)
 cases f with
 |next=>exact wpAny_execs_nil q
 |ret v=>exact q
 |brk=>exact q
 |cont=>exact q
theorem Inv.quiet(I:Inv X pins σ H s):interactive X.env=false:=by simp[interactive,I.ok.kind]
def tDrop(te:TE):TS:=fun D σ H=>te σ H fun _ H1=>D.nx σ H1
theorem q6w(he:PE X e te)(hs:swapsWith e none pos.line X.env=pure false:=by rfl):PS X (.Expr e pos) (tDrop te):=by
 intro pins s σ H D I h;exact wpAny_Expr_any (thn (he pins s σ H _ I h) fun v s1 ⟨x,H1,I1,r1,q1⟩=>⟨σ,H1,I1,q1⟩) I.quiet hs
def tRet(te:TE):TS:=fun D σ H=>te σ H D.rt
theorem q5o(he:PE X e te):PS X (.Return (some e) pos) (tRet te):=by
 intro pins s σ H D I h;exact wpAny_Return_some (thn (he pins s σ H _ I h) fun v s1 ⟨x,H1,I1,r1,q1⟩=>⟨x,σ,H1,I1,r1,q1⟩)
def tIfS(c:TT)(t u:TS):TS:=fun D σ H=>c σ H fun b H1=>if b=true then t D σ H1 else u D σ H1
theorem x0r{a b:List Stmt}{tc:TT}(hc:PT X c tc)(ha:PSs X a t)(hb:PSs X b u):PS X (.If c a b pos) (tIfS tc t u):=by
 intro pins s σ H D I h;refine wpAny_If (thn (hc pins s σ H _ I h) fun d s1 ⟨H1,I1,q1⟩=>?_)
 cases d with
 |true=>exact ha pins s1 σ H1 D I1 q1
 |false=>exact hb pins s1 σ H1 D I1 q1
end
abbrev TG:=V->St->Hp->(St->Hp->Prop)->Prop
abbrev TGs:=List V->St->Hp->(St->Hp->Prop)->Prop
def PG(X:Cx)(target:Expr)(t:TG):Prop:=
 ∀(pins:List (Addr×Obj))(s:Shared)(σ:St)(H:Hp)(v:V)(u:Value)(Q:St->Hp->Prop),Inv X pins σ H s->RelV v u->t v σ H Q ->
  wpAny (model X.prog X.w) X.A (assign target X.env u) (fun _ s'=>∃σ' H',Inv X pins σ' H' s'/\Q σ' H') X.xe s
def PGs(X:Cx)(ts:List Expr)(t:TGs):Prop:=
 ∀(pins:List (Addr×Obj))(s:Shared)(σ:St)(H:Hp)(vs:List V)(us:List Value)(Q:St->Hp->Prop),Inv X pins σ H s->Vals vs us->t vs σ H Q ->
  wpAny (model X.prog X.w) X.A (assignInOrder ((assignEach ts X.env).map (·.2)) us) (fun _ s'=>∃σ' H',Inv X pins σ' H' s'/\Q σ' H') X.xe s
def gName(i:Nat):TG:=fun v σ H Q=>Q (σ.set i (some v)) H
theorem y4h(hN:X.N.Nodup)(hi:X.N[i]?=some x)(hx:Loc X.env.scope x)(hf:X.fn x=true\/X.env.scope.names.lookup x=some .local:=by walk_at "2"):PG X (.Name x pos) (gName i):=by
 intro pins s σ H v u Q I r h;exact wpAny_assign_Name (x30 I hN hi hx r (fun s' I'=>⟨_,H,I',h⟩) hf)
noncomputable def gNil:TGs:=fun vs σ H Q=>vs=[]/\Q σ H
noncomputable def gCons(t:TG)(u:TGs):TGs:=fun vs σ H Q=>∃v r,vs=v::r/\t v σ H fun σ' H'=>u r σ' H' Q
theorem y4i:PGs X [] gNil:=by
 intro pins s σ H vs us Q I r h;obtain⟨e,h⟩:=h;subst e;cases r;exact assignInOrder_nil ⟨σ,H,I,h⟩
theorem x32{t:TG}{u:TGs}(h1:PG X e t)(h2:PGs X es u)
  (hs:(assignEach (e::es) X.env).map (·.2)=assign e X.env::(assignEach es X.env).map (·.2):=by rfl):PGs X (e::es) (gCons t u):=by
 intro pins s σ H vs us Q I r h;obtain⟨v,vr,e1,h⟩:=h;subst e1;cases r with
 |cons r rr=>
  rw[hs];refine assignInOrder_cons (thn (h1 pins s σ H _ _ _ I r h) fun _ s1 ⟨σ1,H1,I1,q1⟩=>?_)
  exact h2 pins s1 σ1 H1 _ _ Q I1 rr q1
def gTup(K:PySem.W.Frag)(n:Nat)(t:TGs):TG:=fun v σ H Q=>∃a xs,v=.ref a/\SqT K H a xs/\xs.length=n/\t xs σ H Q
theorem y8e{k:Nat}{t:TGs}{n:Nat}(hc:X.calm=true)(h:PGs X es t)
  (hn:(assignEach es X.env).length=n:=by rfl)(hst:(assignEach es X.env).findIdx? (·.1)=none:=by rfl):PG X (.Tuple es k pos) (gTup X.K n t):=by
 intro pins s σ H v u Q I r hw;obtain⟨a,xs,e1,hq,hl,hw⟩:=hw;subst e1;cases r;obtain⟨its,rv,ht,hz⟩:=I.tuple hq;refine assign_Tuple_tuple (I.ok.hd hc) ht (by simp[hn,<- hl,rv.length]) hst fun h' hx=>?_
 have I1:Inv X pins σ H {s with heap:=h'}:=I.kept (t':=s.toks) fun b o e=>hx b o (w0r (Heap.lt_size e)) e
 exact h pins _ σ H xs _ Q I1 (by simpa using rv) hw
def tAsg(te:TE)(g:TG):TS:=fun D σ H=>te σ H fun x H1=>g x σ H1 D.nx
theorem y8f{pos':Pos}(hN:X.N.Nodup)(hi:X.N[i]?=some x)(hx:Loc X.env.scope x)(he:PE X e te)(hs:swapsWith e (some (.Name x pos')) pos.line X.env=pure false:=by rfl)(hf:X.fn x=true\/X.env.scope.names.lookup x=some .local:=by walk_at "2"):
  PS X (.Assign [.Name x pos'] e pos) (tAsg te (gName i)):=by
 intro pins s σ H D I h;refine wpAny_Assign_Name (thn (he pins s σ H _ I h) fun v s1 ⟨y,H1,I1,r1,q1⟩=>?_) hs
 exact x30 I1 hN hi hx r1 (fun s2 I2=>⟨_,H1,I2,q1⟩) hf
def tWhile(c:TT)(tb:TS):TS:=fun D σ H=>∃W:Nat->St->Hp->Prop,(∃m,W m σ H)/\∀m σ H,W m σ H ->
 c σ H fun b H1=>if b=true then ∃N:St->Hp->Prop,(∀σ' H',N σ' H'->∃m',m'<m/\W m' σ' H')/\tb {D with nx:=N,ct:=N,bk:=D.nx} σ H1 else D.nx σ H1
theorem y1f{body:List Stmt}{tc:TT}(hp:PassesOwn (model X.prog X.w) X.A X.env X.xe)(hc:PT X c tc)(hb:PSs X body tb):PS X (.While c body [] pos) (tWhile tc tb):=by
 intro pins s σ H D I h;obtain⟨W,⟨m0,w0⟩,turn⟩:=h;refine wpAny_While (codeAny_whileLoop (fun n s'=>∃σ' H',Inv X pins σ' H' s'/\W n σ' H') ?_ m0 ⟨σ,H,I,w0⟩)
 rintro n s1 ⟨σ1,H1,I1,w1⟩;refine wpAny_passesOwn hp (thn (hc pins s1 σ1 H1 _ I1 (turn n σ1 H1 w1)) fun b s2 ⟨H2,I2,q2⟩=>?_)
 cases b with
 |true=>
  obtain⟨N,hN,q2⟩:=q2;rw[if_pos rfl];refine wpAny_passesOwn hp (thn (hb pins s2 σ1 H2 _ I2 q2) fun f s3 q3=>?_)
  cases f with
  |next=>
   obtain⟨σ3,H3,I3,n3⟩:=q3;obtain⟨m',hm,w3⟩:=hN σ3 H3 n3;exact⟨m',hm,σ3,H3,I3,w3⟩
  |cont=>
   obtain⟨σ3,H3,I3,n3⟩:=q3;obtain⟨m',hm,w3⟩:=hN σ3 H3 n3;exact⟨m',hm,σ3,H3,I3,w3⟩
  |brk=>exact q3
  |ret v=>exact q3
 |false=>
  rw[if_neg w0s];exact wpAny_execs_nil ⟨σ1,H2,I2,q2⟩
structure It where
 go:Nat->Hp->Prop
 yld:Nat->Hp->V->Hp->Prop
 stop:Nat->Hp->Prop
def FpOk(X:Cx)(pins:List (Addr×Obj))(H:Hp)(b:Addr):Prop:=
 H b=none/\b≠X.env.locals/\b∉X.fs/\(b∈X.ex\/X.s₀.heap.objs.size<=b)/\(∀x c,X.env.cells.lookup x=some c->c≠b)/\∀p∈X.pn++pins,p.1≠b
theorem Inv.fpOk(I:Inv X pins σ H s)(hb:s.heap.objs.size<=b)(hn:H' b=none):FpOk X pins H' b:=by
 refine⟨hn,Nat.ne_of_gt (w0o I.lt hb),I.nofs hb,.inr (w0z I.sz hb),fun x c e z=>?_,fun p hp z=>?_⟩
 ·obtain⟨v,q⟩:=I.cell x c e;exact absurd (w0o q.lt (by rw[z];exact hb)) (w1j _)
 ·exact absurd (w0o (Heap.lt_size (I.pin p hp).1) (by rw[z];exact hb)) (w1j _)
structure Turn(P:Program)(w:World)(K:PySem.W.Frag)(tg:Expr)(J:It)(fp:List Addr)(it:Addr)(tn:Nat->Heap->Prop):Prop where
 mem:it∈fp
 obj:∀i h,tn i h->∀b∈fp,∃o,h.get? b=some o/\∀v,o.data≠.cell v
 keep:∀i h h',tn i h->(∀b∈fp,∀o,h.get? b=some o->h'.get? b=some o)->tn i h'
 item:∀(X:Cx),X.prog=P->X.w=w->X.K=K->X.calm=true->∀(i:Nat)(pins:List (Addr×Obj))(s:Shared)(σ:St)(H:Hp)(E:Value->Shared->Prop),Inv X pins σ H s->(∀b∈fp,FpOk X pins H b)->tn i s.heap->J.go i H ->
  wpAny (model P w) X.A (pyNext (.ref it)) (fun r s1=>∃u,r=some u /\
   wpAny (model P w) X.A (letOwnedTupleGo tg (.ref it) u) (fun _ s2=>∃x H',Inv X pins σ H' s2/\RelV x u/\J.yld i H x H'/\tn (i+1) s2.heap/\∀b∈fp,H' b=none) E s1) E s
 done:∀(X:Cx),X.prog=P->X.w=w->X.K=K->X.calm=true->∀(i:Nat)(pins:List (Addr×Obj))(s:Shared)(σ:St)(H:Hp)(E:Value->Shared->Prop),Inv X pins σ H s->(∀b∈fp,FpOk X pins H b)->tn i s.heap->J.stop i H ->
  wpAny (model P w) X.A (pyNext (.ref it)) (fun r s1=>r=none/\Inv X pins σ H s1) E s
 self:∀(A:Around)(i:Nat)(s:Shared)(Q:Value->Shared->Prop)(E:Value->Shared->Prop),tn i s.heap->Q (.ref it) s->wpAny (model P w) A (pyIter (.ref it)) Q E s
abbrev TI:=St->Hp->(It->Hp->Prop)->Prop
def PIE(X:Cx)(pins:List (Addr×Obj))(σ:St)(tg:Expr)(R:It->Hp->Prop)(itv:Value)(s2:Shared):Prop:=
 ∃(it:Addr)(fp:List Addr)(tn:Nat->Heap->Prop)(J:It)(H':Hp),itv=.ref it/\Inv X pins σ H' s2/\Turn X.prog X.w X.K tg J fp it tn/\tn 0 s2.heap/\(∀b∈fp,FpOk X pins H' b)/\R J H'
def PI(X:Cx)(tg iter:Expr)(wi:TI):Prop:=
 ∀(pins:List (Addr×Obj))(s:Shared)(σ:St)(H:Hp)(R:It->Hp->Prop),Inv X pins σ H s->wi σ H R ->
  wpAny (model X.prog X.w) X.A (eval iter X.env) (fun v s1=>wpAny (model X.prog X.w) X.A (pyIter v) (PIE X pins σ tg R) X.xe s1) X.xe s
theorem x7l{E : Value -> Shared -> Prop}{s : Shared}{it : Addr}{o : Obj}{n : String}{vs : Array Value}{Q : Unit -> Shared -> Prop}(ho : s.heap.get? it = some o)(hc : o.cls = .type n)(hd : o.data = .fields vs)
    (hn : ["enumerate", "zip", "dict_itemiterator", "dict_reverseitemiterator", "odict_iterator", "itertools.zip_longest", "itertools.pairwise"].contains n = false)(hQ : Q () s) : wpAny M A (letOwnedTupleGo tg (.ref it) u) Q E s := by
  unfold letOwnedTupleGo
  cases tg <;> first
    | exact wpAny_pure hQ
    | (cases u <;> first
        | exact wpAny_pure hQ
        | (refine wpAny_bind (wpAny_load ho ?_)
           rw [hc, hd];show wpAny M A (if (["enumerate", "zip", "dict_itemiterator", "dict_reverseitemiterator", "odict_iterator", "itertools.zip_longest", "itertools.pairwise"].contains n && vs[0]? == some (rawInt _)) = true then _ else _) Q E s;rw [if_neg (by intro h; rw [hn, Bool.false_and] at h; cases h)];exact wpAny_pure hQ))
noncomputable def Itl(K:PySem.W.Frag)(a:Addr):It:=
 ⟨fun i H=>∃xs x,SqL K H a xs/\xs[i]?=some x,fun i H x H'=>H'=H/\∀xs,SqL K H a xs->xs[i]?=some x,fun i H=>∃xs,SqL K H a xs/\xs.length<=i⟩
noncomputable def Itt(K:PySem.W.Frag)(a:Addr):It:=
 ⟨fun i H=>∃xs x,SqT K H a xs/\xs[i]?=some x,fun i H x H'=>H'=H/\∀xs,SqT K H a xs->xs[i]?=some x,fun i H=>∃xs,SqT K H a xs/\xs.length<=i⟩
noncomputable def Itr(lo:Int)(n:Nat):It:=⟨fun i _=>i<n,fun i H x H'=>H'=H/\x=.int (lo+i),fun i _=>n<=i⟩
theorem x8z(a it:Addr):Turn P w K tg (Itl K a) [it] it (fun i h=>h.IsListIter it a i) where
 mem:=by simp
 obj:=fun i h st b hb=>by
  have e:b=it:=by simpa using hb
  subst e;obtain⟨o,e,c,d⟩:=st;exact⟨o,e,fun v z=>by rw[d]at z;cases z⟩
 keep:=fun i h h' st k=>st.at fun o e=>k it (by simp) o e
 item:=by
  intro X hP hw hK hc i pins s σ H E I hf st hg;subst hP hw hK;obtain⟨xs,x,hq,hx⟩:=hg;obtain⟨its,rv,p,hz⟩:=I.list hq;obtain⟨u,hu,ru⟩:=rv.get hx;obtain⟨f0,f1,f2,f3,f4,f5⟩:=hf it (by simp);refine wpAny_pyNext_list_item st p.isList (x:=u) (by simpa using hu) fun h' st' sb=>?_
  have I1:Inv X pins σ H {s with heap:=h'}:=I.turned (t':=s.toks) (fun b o hb e=>(sb.2 b hb).trans e) f0 f1 f3 f4 f5
  obtain⟨o,e,c,d⟩:=id st';exact⟨u,rfl,x7l (s:={s with heap:=h'}) e c d (by decide) ⟨x,H,I1,ru,⟨rfl,fun ys hy=>by rw[I.list_inj hy hq];exact hx⟩,st',fun b hb=>(hf b hb).1⟩⟩
 done:=by
  intro X hP hw hK hc i pins s σ H E I hf st hg;subst hP hw hK;obtain⟨xs,hq,hx⟩:=hg;obtain⟨its,rv,p,hz⟩:=I.list hq;obtain⟨f0,f1,f2,f3,f4,f5⟩:=hf it (by simp);have hl:=rv.length;exact wpAny_pyNext_list_end (I.ok.hd hc) st p.isList (by simp;omega) fun h' eb=>⟨rfl,I.turned (t':=s.toks) (fun b o hb e=>eb b o hb e) f0 f1 f3 f4 f5⟩
 self:=fun _ _ _ _ _ st h=>wpAny_pyIter_listiter st h
theorem x7m(a it:Addr):Turn P w K tg (Itt K a) [it] it (fun i h=>h.IsTupleIter it a i) where
 mem:=by simp
 obj:=fun i h st b hb=>by
  have e:b=it:=by simpa using hb
  subst e;obtain⟨o,e,c,d⟩:=st;exact⟨o,e,fun v z=>by rw[d]at z;cases z⟩
 keep:=fun i h h' st k=>st.at fun o e=>k it (by simp) o e
 item:=by
  intro X hP hw hK hc i pins s σ H E I hf st hg;subst hP hw hK;obtain⟨xs,x,hq,hx⟩:=hg;obtain⟨its,rv,p,hz⟩:=I.tuple hq;obtain⟨u,hu,ru⟩:=rv.get hx;obtain⟨f0,f1,f2,f3,f4,f5⟩:=hf it (by simp);refine wpAny_pyNext_tuple_item st (show s.heap.IsTuple a its.toArray from p) (x:=u) (by simpa using hu) fun h' st' sb=>?_
  have I1:Inv X pins σ H {s with heap:=h'}:=I.turned (t':=s.toks) (fun b o hb e=>(sb.2 b hb).trans e) f0 f1 f3 f4 f5
  obtain⟨o,e,c,d⟩:=id st';exact⟨u,rfl,x7l (s:={s with heap:=h'}) e c d (by decide) ⟨x,H,I1,ru,⟨rfl,fun ys hy=>by rw[I.tuple_inj hy hq];exact hx⟩,st',fun b hb=>(hf b hb).1⟩⟩
 done:=by
  intro X hP hw hK hc i pins s σ H E I hf st hg;subst hP hw hK;obtain⟨xs,hq,hx⟩:=hg;obtain⟨its,rv,p,hz⟩:=I.tuple hq;obtain⟨f0,f1,f2,f3,f4,f5⟩:=hf it (by simp);have hl:=rv.length;exact wpAny_pyNext_tuple_end (I.ok.hd hc) st (show s.heap.IsTuple a its.toArray from p) (by simp;omega) fun h' eb=>⟨rfl,I.turned (t':=s.toks) (fun b o hb e=>eb b o hb e) f0 f1 f3 f4 f5⟩
 self:=fun _ _ _ _ _ st h=>wpAny_pyIter_tupleiter st h
theorem x7n(it:Addr)(lo:Int)(n:Nat):Turn P w K tg (Itr lo n) [it] it (fun i h=>IsRangeIter h it (lo+(i:Nat)*1) ((n:Int)-(i:Nat)) 1) where
 mem:=by simp
 obj:=fun i h st b hb=>by
  have e:b=it:=by simpa using hb
  subst e
  exact⟨_,st,fun v z=>by
   have z':Data.fields _=Data.cell v:=z;cases z'⟩
 keep:=fun i h h' st k=>k it (by simp) _ st
 item:=by
  intro X hP hw hK hc i pins s σ H E I hf st hg;subst hP hw hK;obtain⟨f0,f1,f2,f3,f4,f5⟩:=hf it (by simp);have W:=Walks.range (prog:=X.prog) (w:=X.w) (I.ok.hd hc) it lo 1 n;refine W.item i s _ _ hg st fun v h' tk hv st' kk=>?_
  obtain⟨t,rfl⟩:=hv;have I1:Inv X pins σ H {s with heap:=h',toks:=tk}:=I.turned (fun b o hb e=>kk b o (by simpa using hb) e) f0 f1 f3 f4 f5
  refine⟨_,rfl,x7l (s:={s with heap:=h',toks:=tk}) (n:="range_iterator") st' rfl rfl (by decide) ⟨.int (lo+i),H,I1,⟨t,?_⟩,⟨rfl,rfl⟩,st',fun b hb=>(hf b hb).1⟩⟩
  rw[Int.mul_one]
 done:=by
  intro X hP hw hK hc i pins s σ H E I hf st hg;subst hP hw hK;obtain⟨f0,f1,f2,f3,f4,f5⟩:=hf it (by simp);exact wpAny_pyNext_range_end (I.ok.hd hc) st (by have:n<=i:=hg;omega) fun h' eb=>⟨rfl,I.turned (t':=s.toks) (fun b o hb e=>eb b o hb e) f0 f1 f3 f4 f5⟩
 self:=fun _ _ _ _ _ st h=>wpAny_pyIter_rangeiter st h
theorem y1g{R:It->Hp->Prop}{lo hi:Int}{t u v:Tok}{tk:Nat}(I:Inv X pins σ H s)(h1:-(2^62)<=lo)(h2:lo<2^62)(h3:-(2^62)<=hi)(h4:hi<2^62)
  (q:R (Itr lo (hi-lo).toNat) H):wpAny (model X.prog X.w) X.A (pyIter (.ref s.heap.objs.size)) (PIE X pins σ tg R) E {s with heap:=s.heap.push {cls:=.type "range", data:=.fields #[.int lo t,.int hi u,.int 1 v]},toks:=tk}:=by
 refine wpAny_pyIter_range (IsRange.new ..) (small_one h1 h2 h3 h4) ?_;have I1:Inv X pins σ H {s with heap:=s.heap.push {cls:=.type "range", data:=.fields #[.int lo t,.int hi u,.int 1 v]},toks:=tk}:=I.kept fun b o e=>Heap.get?_push_of_some _ e
 refine⟨(s.heap.push {cls:=.type "range", data:=.fields #[.int lo t,.int hi u,.int 1 v]}).objs.size,[(s.heap.push {cls:=.type "range", data:=.fields #[.int lo t,.int hi u,.int 1 v]}).objs.size],_,_,H,rfl,
  I1.kept (t':=tk) fun b o e=>Heap.get?_push_of_some _ e,x7n _ lo (hi-lo).toNat,?_,fun b hb=>?_,q⟩
 ·have e1:lo+((0:Nat):Int)*1=lo:=by simp
  have e2:(((hi-lo).toNat:Nat):Int)-((0:Nat):Int)=Builtin.Range.rangeSize lo hi 1:=by rw[rangeSize_one];split<;>omega
  show IsRangeIter _ _ (lo+((0:Nat):Int)*1) ((((hi-lo).toNat:Nat):Int)-((0:Nat):Int)) 1;rw[e1,e2];exact Heap.get?_push_size _ rfl
 ·have e:b=(s.heap.push {cls:=.type "range", data:=.fields #[.int lo t,.int hi u,.int 1 v]}).objs.size:=by simpa using hb
  subst e;exact I1.fpOk (w0g _) (I1.hok.fresh (w0g _))
def iRng1(ta:TA):TI:=fun σ H R=>ta σ H fun vs H1=>∃j:Int,vs=[.int j]/\-(2^62)<=j/\j<2^62/\R (Itr 0 j.toNat) H1
theorem x2n{a:Expr}{ta:TA}(hg:Gl X "range")(hm:X.mg "range"=none)(ha:PA X [a] ta)(hs:starEach [a] X.env=[(false,eval a X.env)]:=by rfl):PI X tg (.Call (.Name "range" p) [a] [] pos) (iRng1 ta):=by
 intro pins s σ H R I h;refine Call_ (x0q I hg hm boot_range (PyProof.Rows.callWith_type1 (thn (ha pos pins s σ H _ I h) fun us s1 ⟨vs,H1,I1,r1,q1⟩=>?_) hs rfl))
 obtain⟨j,e,q1,q2,q⟩:=q1;subst e;cases r1 with
 |cons r rr=>
  cases rr;obtain⟨t,rfl⟩:=r;exact call_range_1 (y1g I1 (by omega) (by omega) q1 q2 (by simpa using q))
def tFor(wi:TI)(g:TG)(tb:TS):TS:=fun D σ H=>wi σ H fun J H1=>∃W:Nat->Nat->St->Hp->Prop,(∃m,W 0 m σ H1)/\∀i m σ H,W i m σ H ->
 (J.stop i H/\D.nx σ H)\/(J.go i H/\∃N:St->Hp->Prop,(∀σ' H',N σ' H'->∃m',m'<m/\W (i+1) m' σ' H')/\∀x H',J.yld i H x H'->g x σ H' fun σ2 H2=>tb {D with nx:=N,ct:=N,bk:=D.nx} σ2 H2)
noncomputable def pinsAt(fp:List Addr)(h:Heap):List (Addr×Obj):=fp.filterMap fun b=>(h.get? b).map fun o=>(b,o)
theorem q3t{o:Obj}(hb:b∈fp)(e:h.get? b=some o):(b,o)∈pinsAt fp h:=w2k.mpr ⟨b,hb,by rw[e];rfl⟩
theorem x80{p:Addr×Obj}(hp:p∈pinsAt fp h):p.1∈fp/\h.get? p.1=some p.2:=by
 obtain⟨b,hb,e⟩:=w2k.mp hp;cases q:h.get? b with
 |none=>rw[q]at e;cases e
 |some o=>
  rw[q]at e;have e':(b,o)=p:=Option.some.inj e;subst e';exact⟨hb,q⟩
theorem Inv.pinned(I:Inv X pins σ H s)(hf:∀b∈fp,FpOk X pins H b)(ho:∀b∈fp,∃o,s.heap.get? b=some o/\∀v,o.data≠.cell v):Inv X (pins++pinsAt fp s.heap) σ H s:=
 I.pins_of fun p hp=>(w1k.mp hp).elim (fun z=>I.pin p (w0k _ z)) fun z=>by
  obtain⟨hb,e⟩:=x80 z;obtain⟨f0,f1,f2,_⟩:=hf p.1 hb;obtain⟨o,e',d⟩:=ho p.1 hb;rw[e]at e';cases e';exact⟨e,f0,f1,f2,d⟩
theorem Inv.unpinned{pl:List (Addr×Obj)}(I:Inv X (pins++pl) σ H s):Inv X pins σ H s:=I.pins_of fun p hp=>I.pin p (w0k _ (w3p _ hp))
theorem x33{iter:Expr}{body:List Stmt}{wi:TI}{g:TG}(hp:PassesOwn (model X.prog X.w) X.A X.env X.xe)(hc:X.calm=true)(hi:PI X tg iter wi)(hg:PG X tg g)(hb:PSs X body tb)
  (hs:∀x,foldedSetIterable iter X.env x=pure x:=by intro _;rfl):PS X (.For tg iter body [] pos) (tFor wi g tb):=by
 intro pins s σ H D I h;refine wpAny_For (thn (hi pins s σ H _ I h) fun v s1 h1=>thn h1 fun itv s2 h2=>?_) hs
 obtain⟨it,fp,tn,J,H2,e,I2,T,st2,f2,W,⟨m0,w0⟩,turn⟩:=h2;subst e;have stat:∀{H':Hp},(∀b∈fp,H' b=none)->∀b∈fp,FpOk X pins H' b:=fun hn b hb=>⟨hn b hb,(f2 b hb).2⟩
 refine codeAny_forLoop_any (fun n s'=>∃i σ' H',Inv X pins σ' H' s'/\tn i s'.heap/\(∀b∈fp,H' b=none)/\W i n σ' H') ?_ m0 ⟨0,σ,H2,I2,st2,fun b hb=>(f2 b hb).1,w0⟩
 rintro n s3 ⟨i,σ3,H3,I3,st3,fr3,w3⟩;rcases turn i n σ3 H3 w3 with⟨stop,qn⟩|⟨go,N,hN,step⟩
 ·refine wpAny_passesOwn hp (thn (T.done X rfl rfl rfl hc i pins s3 σ3 H3 X.xe I3 (stat fr3) st3 stop) fun r s4 ⟨hr,I4⟩=>?_)
  subst hr;exact wpAny_execs_nil ⟨σ3,H3,I4,qn⟩
 ·refine wpAny_passesOwn hp (thn (T.item X rfl rfl rfl hc i pins s3 σ3 H3 X.xe I3 (stat fr3) st3 go) fun r s4 ⟨u,hr,h4⟩=>?_)
  subst hr;refine wpAny_passesOwn hp (thn h4 fun _ s5 ⟨x,H5,I5,r5,y5,st5,fr5⟩=>?_)
  have I5':=I5.pinned (stat fr5) (T.obj _ _ st5);refine wpAny_passesOwn hp (thn (hg _ s5 σ3 H5 x u _ I5' r5 (step x H5 y5)) fun _ s6 ⟨σ6,H6,I6,q6⟩=>?_)
  refine wpAny_passesOwn hp (thn (hb _ s6 σ6 H6 _ I6 q6) fun f s7 q7=>?_)
  have again:∀{σ7:St}{H7:Hp},Inv X (pins++pinsAt fp s5.heap) σ7 H7 s7->N σ7 H7->∃m,m<n/\∃i σ' H',Inv X pins σ' H' s7/\tn i s7.heap/\(∀b∈fp,H' b=none)/\W i m σ' H':=fun {σ7 H7} I7 n7=>by
   obtain⟨m',hm,w7⟩:=hN σ7 H7 n7;refine⟨m',hm,i+1,σ7,H7,I7.unpinned,T.keep _ _ _ st5 fun b hb o e=>(I7.pin (b,o) (w0k _ (w0k _ (q3t hb e)))).1,fun b hb=>?_,w7⟩
   obtain⟨o,e,d⟩:=T.obj _ _ st5 b hb;exact(I7.pin (b,o) (w0k _ (w0k _ (q3t hb e)))).2.1
  cases f with
  |next=>obtain⟨σ7,H7,I7,n7⟩:=q7;exact again I7 n7
  |cont=>obtain⟨σ7,H7,I7,n7⟩:=q7;exact again I7 n7
  |brk=>obtain⟨σ7,H7,I7,q7⟩:=q7;exact⟨σ7,H7,I7.unpinned,q7⟩
  |ret v=>obtain⟨x7,σ7,H7,I7,r7,q7⟩:=q7;exact⟨x7,σ7,H7,I7.unpinned,r7,q7⟩
theorem x34{g:TG}{D:Ends}(Pv:Nat->St->Hp->Prop)(h0:Pv 0 σ H)(hl:∀i σ H,i<=xs.length->Pv i σ H->SqL K H a xs)
  (hs:∀i x σ H,xs[i]?=some x->Pv i σ H->g x σ H fun σ2 H2=>tb {D with nx:=Pv (i+1),ct:=Pv (i+1),bk:=D.nx} σ2 H2)(hd:∀σ H,Pv xs.length σ H->D.nx σ H):
  ∃W:Nat->Nat->St->Hp->Prop,(∃m,W 0 m σ H)/\∀i m σ H,W i m σ H ->
   ((Itl K a).stop i H/\D.nx σ H)\/((Itl K a).go i H/\∃N:St->Hp->Prop,(∀σ' H',N σ' H'->∃m',m'<m/\W (i+1) m' σ' H')/\∀x H',(Itl K a).yld i H x H'->g x σ H' fun σ2 H2=>tb {D with nx:=N,ct:=N,bk:=D.nx} σ2 H2):=by
 refine⟨fun i m σ H=>m=xs.length-i/\i<=xs.length/\Pv i σ H,⟨xs.length,by simp,w1f _,h0⟩,?_⟩
 rintro i m σ H ⟨rfl,hi,p⟩;have q:=hl i σ H hi p
 by_cases hlt:i<xs.length
 ·refine .inr ⟨⟨xs,xs[i],q,by simp[hlt]⟩,Pv (i+1),fun σ' H' p'=>⟨xs.length-(i+1),by omega,rfl,hlt,p'⟩,fun x H' y=>?_⟩
  obtain⟨e,y⟩:=y;subst e;exact hs i x σ _ (y xs q) p
 ·have e:i=xs.length:=by omega
  subst e;exact .inl ⟨⟨xs,q,w0g _⟩,hd σ H p⟩
theorem y4j{g:TG}{D:Ends}(Pv:Nat->St->Hp->Prop)(h0:Pv 0 σ H)(hl:∀i σ H,i<=xs.length->Pv i σ H->SqT K H a xs)
  (hs:∀i x σ H,xs[i]?=some x->Pv i σ H->g x σ H fun σ2 H2=>tb {D with nx:=Pv (i+1),ct:=Pv (i+1),bk:=D.nx} σ2 H2)(hd:∀σ H,Pv xs.length σ H->D.nx σ H):
  ∃W:Nat->Nat->St->Hp->Prop,(∃m,W 0 m σ H)/\∀i m σ H,W i m σ H ->
   ((Itt K a).stop i H/\D.nx σ H)\/((Itt K a).go i H/\∃N:St->Hp->Prop,(∀σ' H',N σ' H'->∃m',m'<m/\W (i+1) m' σ' H')/\∀x H',(Itt K a).yld i H x H'->g x σ H' fun σ2 H2=>tb {D with nx:=N,ct:=N,bk:=D.nx} σ2 H2):=by
 refine⟨fun i m σ H=>m=xs.length-i/\i<=xs.length/\Pv i σ H,⟨xs.length,by simp,w1f _,h0⟩,?_⟩
 rintro i m σ H ⟨rfl,hi,p⟩;have q:=hl i σ H hi p
 by_cases hlt:i<xs.length
 ·refine .inr ⟨⟨xs,xs[i],q,by simp[hlt]⟩,Pv (i+1),fun σ' H' p'=>⟨xs.length-(i+1),by omega,rfl,hlt,p'⟩,fun x H' y=>?_⟩
  obtain⟨e,y⟩:=y;subst e;exact hs i x σ _ (y xs q) p
 ·have e:i=xs.length:=by omega
  subst e;exact .inl ⟨⟨xs,q,w0g _⟩,hd σ H p⟩
theorem x81{lo:Int}{n:Nat}{g:TG}{D:Ends}(Pv:Nat->St->Hp->Prop)(h0:Pv 0 σ H)
  (hs:∀i σ H,i<n->Pv i σ H->g (.int (lo+i)) σ H fun σ2 H2=>tb {D with nx:=Pv (i+1),ct:=Pv (i+1),bk:=D.nx} σ2 H2)(hd:∀σ H,Pv n σ H->D.nx σ H):
  ∃W:Nat->Nat->St->Hp->Prop,(∃m,W 0 m σ H)/\∀i m σ H,W i m σ H ->
   ((Itr lo n).stop i H/\D.nx σ H)\/((Itr lo n).go i H/\∃N:St->Hp->Prop,(∀σ' H',N σ' H'->∃m',m'<m/\W (i+1) m' σ' H')/\∀x H',(Itr lo n).yld i H x H'->g x σ H' fun σ2 H2=>tb {D with nx:=N,ct:=N,bk:=D.nx} σ2 H2):=by
 refine⟨fun i m σ H=>m=n-i/\i<=n/\Pv i σ H,⟨n,by simp,w1f _,h0⟩,?_⟩
 rintro i m σ H ⟨rfl,hi,p⟩
 by_cases hlt:i<n
 ·refine .inr ⟨hlt,Pv (i+1),fun σ' H' p'=>⟨n-(i+1),by omega,rfl,hlt,p'⟩,fun x H' y=>?_⟩
  obtain⟨e,y⟩:=y;subst e y;exact hs i σ _ hlt p
 ·have e:i=n:=by omega
  subst e;exact .inl ⟨w0g _,hd σ H p⟩
abbrev R2:=V->V->Hp->VK->Prop
variable{r:R2}
def OpR(X:Cx)(f:Value->Value->Sem Value)(r:R2):Prop:=
 ∀(pins:List (Addr×Obj))(s:Shared)(σ:St)(H:Hp)(x y:V)(v u:Value)(Q:VK),Inv X pins σ H s->RelV x v->RelV y u->r x y H Q ->
  wpAny (model X.prog X.w) X.A (f v u) (EP X pins σ Q) X.xe s
def UnR(X:Cx)(f:Value->Sem Value)(r:V->Hp->VK->Prop):Prop:=
 ∀(pins:List (Addr×Obj))(s:Shared)(σ:St)(H:Hp)(x:V)(v:Value)(Q:VK),Inv X pins σ H s->RelV x v->r x H Q ->
  wpAny (model X.prog X.w) X.A (f v) (EP X pins σ Q) X.xe s
def CallR(X:Cx)(f:Value)(r:List V->Hp->VK->Prop):Prop:=
 ∀(pins:List (Addr×Obj))(s:Shared)(σ:St)(H:Hp)(xs:List V)(us:List Value)(Q:VK),Inv X pins σ H s->Vals xs us->r xs H Q ->
  wpAny (model X.prog X.w) X.A (call f us) (EP X pins σ Q) X.xe s
def TruR(X:Cx)(r:V->Hp->(Bool->Hp->Prop)->Prop):Prop:=
 ∀(pins:List (Addr×Obj))(s:Shared)(σ:St)(H:Hp)(x:V)(v:Value)(Q:Bool->Hp->Prop),Inv X pins σ H s->RelV x v->r x H Q ->
  wpAny (model X.prog X.w) X.A (truthy v) (TP X pins σ Q) X.xe s
def tOp(r:R2)(ta tb:TE):TE:=fun σ H Q=>ta σ H fun x H1=>tb σ H1 fun y H2=>r x y H2 Q
def rI(C:Int->Int->Prop)(g:Int->Int->V):R2:=fun x y H Q=>∃i j,x=.int i/\y=.int j/\C i j/\Q (g i j) H
def rI0(g:Int->Int->V):R2:=fun x y H Q=>∃i j,x=.int i/\y=.int j/\Q (g i j) H
section
variable{a b:Expr}{tb tc:TE}
theorem binT(ha:PE X a ta)(hb:PE X b tb){R:V->V->Hp->Prop}(I:Inv X pins σ H s)
  (h:ta σ H fun x H1=>tb σ H1 fun y H2=>R x y H2){Q:Value->Shared->Prop}
  (hf:∀v u s2 x y H2,Inv X pins σ H2 s2->RelV x v->RelV y u->R x y H2->wpAny (model X.prog X.w) X.A (f v u) Q X.xe s2):
  wpAny (model X.prog X.w) X.A (eval a X.env) (fun v s₁=>wpAny (model X.prog X.w) X.A (eval b X.env) (fun u s₂=>wpAny (model X.prog X.w) X.A (f v u) Q X.xe s₂) X.xe s₁) X.xe s:=by
 refine thn (ha pins s σ H _ I h) fun v s1 ⟨x,H1,I1,r1,q1⟩=>?_
 refine thn (hb pins s1 σ H1 _ I1 q1) fun u s2 ⟨y,H2,I2,r2,q2⟩=>?_
 exact hf v u s2 x y H2 I2 r1 r2 q2
theorem y3z{op:Operator}(ho:OpR X (binaryOp op) r)(ha:PE X a ta)(hb:PE X b tb):PE X (.BinOp a op b pos) (tOp r ta tb):=by
 intro pins s σ H Q I h;exact wpAny_BinOp (binT ha hb I h fun v u s2 x y H2 I2 rx ry q=>ho pins s2 σ H2 x y v u Q I2 rx ry q)
theorem opI{C:Int->Int->Prop}{g:Int->Int->Int}
  (rule:∀(i j:Int)(t u:Tok)(s:Shared)(Q:Value->Shared->Prop)(E:Value->Shared->Prop),C i j->Q (.int (g i j) s.toks) {s with toks:=s.toks+1}->wpAny (model X.prog X.w) X.A (f (.int i t) (.int j u)) Q E s):
  OpR X f (rI C fun i j=>.int (g i j)):=by
 intro pins s σ H x y v u Q I rx ry h;obtain⟨i,j,rfl,rfl,hc,q⟩:=h;obtain⟨t,rfl⟩:=rx;obtain⟨t',rfl⟩:=ry;exact rule i j t t' s _ _ hc ⟨.int (g i j),H,I.tok _,⟨_,rfl⟩,q⟩
theorem opI0{g:Int->Int->Int}
  (rule:∀(i j:Int)(t u:Tok)(s:Shared)(Q:Value->Shared->Prop)(E:Value->Shared->Prop),Q (.int (g i j) s.toks) {s with toks:=s.toks+1}->wpAny (model X.prog X.w) X.A (f (.int i t) (.int j u)) Q E s):
  OpR X f (rI0 fun i j=>.int (g i j)):=by
 intro pins s σ H x y v u Q I rx ry h;obtain⟨i,j,rfl,rfl,q⟩:=h;obtain⟨t,rfl⟩:=rx;obtain⟨t',rfl⟩:=ry;exact rule i j t t' s _ _ ⟨.int (g i j),H,I.tok _,⟨_,rfl⟩,q⟩
theorem opB0{g:Int->Int->Bool}
  (rule:∀(i j:Int)(t u:Tok)(s:Shared)(Q:Value->Shared->Prop)(E:Value->Shared->Prop),Q (.bool (g i j)) s->wpAny (model X.prog X.w) X.A (f (.int i t) (.int j u)) Q E s):
  OpR X f (rI0 fun i j=>.bl (g i j)):=by
 intro pins s σ H x y v u Q I rx ry h;obtain⟨i,j,rfl,rfl,q⟩:=h;obtain⟨t,rfl⟩:=rx;obtain⟨t',rfl⟩:=ry;exact rule i j t t' s _ _ ⟨.bl (g i j),H,I,rfl,q⟩
def CDiv(i j:Int):Prop:=0<j/\j<1073741824
def CMul(i j:Int):Prop:=(-(2^64)<i/\i<2^64)\/(-(2^64)<j/\j<2^64)
theorem CMul.ok{i j:Int}(h:CMul i j):IntMulOk i j:=by
 rcases h with⟨h1,h2⟩|⟨h1,h2⟩
 ·exact .of_left (intBits_le_64 h1 h2)
 ·exact .of_right (intBits_le_64 h1 h2)
theorem op_add:OpR X (binaryOp .Add) (rI0 fun i j=>.int (i+j)):=opI0 fun _ _ _ _ _ _ _ q=>add_int q
theorem y8g:OpR X (binaryOp .Sub) (rI0 fun i j=>.int (i-j)):=opI0 fun _ _ _ _ _ _ _ q=>sub_int q
theorem y8h:OpR X (binaryOp .Mult) (rI CMul fun i j=>.int (i*j)):=opI fun _ _ _ _ _ _ _ hc q=>mul_int q hc.ok
theorem y4k:OpR X (binaryOp .FloorDiv) (rI CDiv fun i j=>.int (i / j)):=opI fun i j _ _ _ _ _ hc q=>by
 have h1:(0:Int)<j:=hc.1;have h2:j<1073741824:=hc.2;exact floordiv_int (by omega) (by rw[Int.fdiv_eq_ediv_of_nonneg i (by omega)];exact q) (.inl (PyProof.noPylong_small (by omega)))
theorem y8i:OpR X (binaryOp .Mod) (rI (fun _ j=>0<j) fun i j=>.int (i%j)):=opI fun i j _ _ _ _ _ hc q=>by
 have h1:(0:Int)<j:=hc;exact mod_int' (by omega) (by rw[Int.fmod_eq_emod_of_nonneg i (by omega)];exact q)
end
noncomputable def scal:V->V->Bool
 |.non,.non=>true|.non,.int _=>true|.int _,.non=>true|.non,.bl _=>true|.bl _,.non=>true|.non,.str _=>true|.str _,.non=>true
 |.int _,.int _=>true|.bl _,.bl _=>true|.str _,.str _=>true|.byt _,.byt _=>true
 |.int _,.str _=>true|.str _,.int _=>true|.bl _,.str _=>true|.str _,.bl _=>true
 |_,_=>false
def rEq:R2:=fun x y H Q=>scal x y=true/\Q (.bl (decide (x=y))) H
theorem y4l{i j:Int}:decide (V.int i=V.int j)=(i==j):=by
 rw[w1b];simp
theorem y8j{i j:Bool}:decide (V.bl i=V.bl j)=(i==j):=by
 rw[w1b];simp
theorem y4m{i j:Str}:decide (V.str i=V.str j)=(i==j):=by
 rw[w1b];simp
theorem y4n{i j:Array UInt8}:decide (V.byt i=V.byt j)=(i.toList==j.toList):=by
 rw[w1b];cases i;cases j;simp
section
variable{a b:Expr}{tb tc:TE}
theorem q2w{Q:VK}{k k':Bool}(I:Inv X pins σ H s)(q:Q (.bl k) H)(e:k=k'):EP X pins σ Q (.bool k') s:=by
 subst e;exact⟨.bl k,H,I,rfl,q⟩
theorem z1h:OpR X (compareOp .Eq) rEq:=by
 intro pins s σ H x y v u Q I rx ry h;obtain⟨hs,q⟩:=h;cases x with
 |non=>
  cases rx;cases y with
  |non=>cases ry;exact PySem.EqNone.eq_none_none (q2w I q (by simp))
  |bl j=>cases ry;exact PySem.EqNone.eq_none_bool (q2w I q (by simp))
  |int j=>obtain⟨t',rfl⟩:=ry;exact PySem.EqNone.eq_none_int (q2w I q (by simp))
  |str j=>obtain⟨t',rfl⟩:=ry;exact PySem.EqNone.eq_none_str (q2w I q (by simp))
  |_=>exact absurd (show false=true from hs) w0s
 |bl i=>
  cases rx;cases y with
  |non=>cases ry;exact PySem.EqNone.eq_bool_none (q2w I q (by simp))
  |bl j=>cases ry;exact eq_bool (q2w I q y8j)
  |str j=>obtain⟨t',rfl⟩:=ry;exact PySem.EqMixed.eq_bool_str (q2w I q (by simp))
  |_=>exact absurd (show false=true from hs) w0s
 |int i=>
  obtain⟨t,rfl⟩:=rx;cases y with
  |non=>cases ry;exact PySem.EqNone.eq_int_none (q2w I q (by simp))
  |int j=>obtain⟨t',rfl⟩:=ry;exact eq_int (q2w I q y4l)
  |str j=>obtain⟨t',rfl⟩:=ry;exact PySem.EqMixed.eq_int_str (q2w I q (by simp))
  |_=>exact absurd (show false=true from hs) w0s
 |str i=>
  obtain⟨t,rfl⟩:=rx;cases y with
  |non=>cases ry;exact PySem.EqNone.eq_str_none (q2w I q (by simp))
  |bl j=>cases ry;exact PySem.EqMixed.eq_str_bool (q2w I q (by simp))
  |int j=>obtain⟨t',rfl⟩:=ry;exact PySem.EqMixed.eq_str_int (q2w I q (by simp))
  |str j=>obtain⟨t',rfl⟩:=ry;exact eq_str (q2w I q y4m)
  |_=>exact absurd (show false=true from hs) w0s
 |byt i=>
  obtain⟨t,rfl⟩:=rx;cases y with
  |byt j=>obtain⟨t',rfl⟩:=ry;exact PySem.W.eq_bytes (q2w I q y4n)
  |_=>exact absurd (show false=true from hs) w0s
 |_=>cases y<;>exact absurd (show false=true from hs) w0s
theorem y30:OpR X (compareOp .Lt) (rI0 fun i j=>.bl (decide (i<j))):=opB0 fun _ _ _ _ _ _ _ q=>lt_int q
theorem y31:OpR X (compareOp .LtE) (rI0 fun i j=>.bl (decide (i<=j))):=opB0 fun _ _ _ _ _ _ _ q=>le_int q
theorem z1i:OpR X (compareOp .Gt) (rI0 fun i j=>.bl (decide (j<i))):=opB0 fun _ _ _ _ _ _ _ q=>gt_int q
theorem z1j:OpR X (compareOp .GtE) (rI0 fun i j=>.bl (decide (j<=i))):=opB0 fun _ _ _ _ _ _ _ q=>ge_int q
theorem OpR.or{r':R2}(h:OpR X f r)(h':OpR X f r'):OpR X f (fun x y H Q=>r x y H Q\/r' x y H Q):=by
 intro pins s σ H x y v u Q I rx ry q;rcases q with q|q
 ·exact h pins s σ H x y v u Q I rx ry q
 ·exact h' pins s σ H x y v u Q I rx ry q
theorem nomark(b:Expr)(h:op≠.In:=by decide)(h2:op≠.NotIn:=by decide):behindInMarks op b=false:=by
 have e1:(op==CmpOp.In)=false:=by cases op<;>first|rfl|exact absurd rfl h
 have e2:(op==CmpOp.NotIn)=false:=by cases op<;>first|rfl|exact absurd rfl h2
 cases b<;>simp[behindInMarks,e1,e2]
theorem y4o(ho:OpR X (compareOp op) r)(ha:PE X a ta)(hb:PE X b tb)(hm:behindInMarks op b=false):PE X (.Compare a [op] [b] pos) (tOp r ta tb):=by
 intro pins s σ H Q I h;exact wpAny_Compare1 (binT ha hb I h fun v u s2 x y H2 I2 rx ry q=>ho pins s2 σ H2 x y v u Q I2 rx ry q) hm
def tTest(t:TE):TT:=fun σ H Q=>t σ H fun x H'=>∃k,x=.bl k/\Q k H'
theorem q83(ho:OpR X (compareOp op) r)(ha:PE X a ta)(hb:PE X b tb)(hm:behindInMarks op b=false):PT X (.Compare a [op] [b] pos) (tTest (tOp r ta tb)):=by
 intro pins s σ H Q I h
 refine wpAny_isTrue_Compare1 (thn (ha pins s σ H _ I h) fun v s1 ⟨x,H1,I1,r1,q1⟩=>thn (hb pins s1 σ H1 _ I1 q1) fun u s2 ⟨y,H2,I2,r2,q2⟩=>
  thn (ho pins s2 σ H2 x y v u _ I2 r1 r2 q2) fun c s3 ⟨z,H3,I3,r3,k,e,q3⟩=>?_) hm
 subst e;cases r3;exact wpAny_truthy_bool ⟨H3,I3,q3⟩
def TruV(K:PySem.W.Frag)(x:V)(H:Hp)(k:Bool):Prop:=
 match x with
 |.non=>k=false
 |.bl b=>k=b
 |.int i=>k=(i != 0)
 |.str y=>y.length<=sizeLine/\k=((y.length:Int) != 0)
 |.byt y=>y.size<=sizeLine/\k=((y.size:Int) != 0)
 |.ref p=>(∃xs,SqL K H p xs/\k=!xs.isEmpty)\/(∃xs,SqT K H p xs/\k=!xs.isEmpty)\/∃kvs,H p=some (.dK kvs)/\k=!kvs.isEmpty
 |_=>False
theorem x7o{κ:Type}{kvs:List (κ×V)}{vs:List (κ×Value)}(r:KV kvs vs):(!vs.isEmpty)=!kvs.isEmpty:=by
 cases r<;>rfl
theorem x0s{its:List Value}(r:Vals xs its):(!its.toArray.isEmpty)=!xs.isEmpty:=by
 cases r<;>simp
theorem line63:(sizeLine:Nat)<2^63:=by rw[sizeLine_eq];decide
theorem y8k:TruR X (fun x H Q=>∃k,TruV X.K x H k/\Q k H):=by
 intro pins s σ H x v Q I rx h;obtain⟨k,e,q⟩:=h;have hl:=line63;have hs:sizeLine=16777216:=sizeLine_eq;cases x with
 |non=>
  cases rx;have e':k=false:=e;subst e';exact truthy_none ⟨H,I,q⟩
 |bl b=>
  cases rx;have e':k=b:=e;subst e';exact wpAny_truthy_bool ⟨H,I,q⟩
 |int i=>
  obtain⟨t,rfl⟩:=rx;have e':k=(i != 0):=e;subst e';exact PySem.P.truthy_int ⟨H,I,q⟩
 |str y=>
  obtain⟨t,rfl⟩:=rx;obtain⟨hy,e'⟩:y.length<=sizeLine/\k=((y.length:Int) != 0):=e;subst e';exact PySem.P.truthy_str (by omega) ⟨H,I.tok _,q⟩
 |byt y=>
  obtain⟨t,rfl⟩:=rx;obtain⟨hy,e'⟩:y.size<=sizeLine/\k=((y.size:Int) != 0):=e;subst e';exact PySem.W.truthy_bytes (by omega) ⟨H,I.tok _,q⟩
 |ref p=>
  cases rx;have e':(∃xs,SqL X.K H p xs/\k=!xs.isEmpty)\/(∃xs,SqT X.K H p xs/\k=!xs.isEmpty)\/∃kvs,H p=some (.dK kvs)/\k=!kvs.isEmpty:=e;rcases e' with⟨xs,hx,e'⟩|⟨xs,hx,e'⟩|⟨kvs,hx,e'⟩
  ·subst e';obtain⟨its,r,pl,hz⟩:=I.list hx;have hlen:=r.length;exact wpAny_truthy_list pl.isList (by simp only[w0e];omega) ⟨H,I.tok _,by rw[x0s r];exact q⟩
  ·subst e';obtain⟨its,r,pl,hz⟩:=I.tuple hx;have hlen:=r.length;exact truthy_tuple pl (by simp only[w0e];omega) ⟨H,I.tok _,by rw[x0s r];exact q⟩
  ·subst e';obtain⟨hz,hS,vs,r,m⟩:kvs.length<=sizeLine/\(p==sysModules)=false/\∃vs,KV kvs vs/\s.heap.DictOf (mixKind X.prog X.w) p vs:=I.hok p _ hx;have hlen:kvs.length=vs.length:=Paired.length r;exact wpAny_truthy_dict hS m (by omega) ⟨H,I.tok _,by rw[x7o r];exact q⟩
 |_=>exact(show False from e).elim
theorem x35(ha:PE X a ta)(he:∀whole,isTrue a X.env whole=(do let v <- whole;standAt a.pos;holding [v] (truthy v))):
  PT X a (fun σ H Q=>ta σ H fun x H'=>∃k,TruV X.K x H' k/\Q k H'):=by
 intro pins s σ H Q I h;exact isTrue_plain (thn (ha pins s σ H _ I h) fun v s1 ⟨x,H1,I1,r1,q1⟩=>y8k pins s1 σ H1 x v Q I1 r1 q1) (he _)
theorem op_add_str:OpR X (binaryOp .Add) (fun x y H Q=>∃i j,x=.str i/\y=.str j/\i.length+j.length<=sizeLine/\Q (.str (i++j)) H):=by
 intro pins s σ H x y v u Q I rx ry h;obtain⟨i,j,rfl,rfl,hz,q⟩:=h;obtain⟨t,rfl⟩:=rx;obtain⟨t',rfl⟩:=ry;exact add_str (fun t' tk=>⟨.str (i++j),H,I.tok _,⟨_,rfl⟩,q⟩) hz
theorem vals1{x:V}(r:Vals [x] us):∃u,us=[u]/\RelV x u:=by
 cases r with
 |cons r1 r2=>cases r2;exact⟨_,rfl,r1⟩
theorem vals2{x y:V}(r:Vals [x,y] us):∃u w',us=[u,w']/\RelV x u/\RelV y w':=by
 cases r with
 |cons r1 r2=>
  cases r2 with
  |cons r3 r4=>cases r4;exact⟨_,_,rfl,r1,r3⟩
theorem x82:CallR X (.type "int") (fun xs H Q=>(∃i,xs=[.int i]/\Q (.int i) H)\/∃k,xs=[.bl k]/\Q (.int (if k then 1 else 0)) H):=by
 intro pins s σ H xs us Q I r h;rcases h with⟨i,rfl,q⟩|⟨k,rfl,q⟩
 ·obtain⟨u,rfl,t,rfl⟩:=vals1 r;exact call_int_int ⟨.int i,H,I,⟨_,rfl⟩,q⟩
 ·obtain⟨u,rfl,r1⟩:=vals1 r;cases r1;exact call_int_bool ⟨.int (if k then 1 else 0),H,I.tok _,⟨_,rfl⟩,q⟩
def LenV(K:PySem.W.Frag)(x:V)(H:Hp)(n:Nat):Prop:=
 match x with
 |.str y=>y.length<=sizeLine/\n=y.length
 |.byt y=>y.size<=sizeLine/\n=y.size
 |.ref p=>(∃xs,SqL K H p xs/\n=xs.length)\/∃xs,SqT K H p xs/\n=xs.length
 |_=>False
theorem q9x:CallR X (.builtin "len") (fun xs H Q=>∃x n,xs=[x]/\LenV X.K x H n/\Q (.int n) H):=by
 intro pins s σ H xs us Q I r h;obtain⟨x,n,rfl,e,q⟩:=h;obtain⟨u,rfl,rx⟩:=vals1 r;have hl:=line63;have hs:sizeLine=16777216:=sizeLine_eq;cases x with
 |str y=>
  obtain⟨t,rfl⟩:=rx;obtain⟨hy,e'⟩:y.length<=sizeLine/\n=y.length:=e;subst e';exact len_str (by omega) ⟨.int _,H,I.tok _,⟨_,rfl⟩,q⟩
 |byt y=>
  obtain⟨t,rfl⟩:=rx;obtain⟨hy,e'⟩:y.size<=sizeLine/\n=y.size:=e;subst e';exact PySem.W.len_bytes (by omega) ⟨.int _,H,I.tok _,⟨_,rfl⟩,q⟩
 |ref p=>
  cases rx;have e':(∃xs,SqL X.K H p xs/\n=xs.length)\/∃xs,SqT X.K H p xs/\n=xs.length:=e;rcases e' with⟨xs,hx,e'⟩|⟨xs,hx,e'⟩
  ·subst e';obtain⟨its,r',pl,hz⟩:=I.list hx;have hlen:=r'.length;exact Calls.call_len_list pl.isList (by simp only[w0e];omega) ⟨.int xs.length,H,I.tok _,⟨_,by simp only[w0e];rw[hlen]⟩,q⟩
  ·subst e';obtain⟨its,r',pl,hz⟩:=I.tuple hx;have hlen:=r'.length;exact len_tuple pl (by simp only[w0e];omega) ⟨.int xs.length,H,I.tok _,⟨_,by simp only[w0e];rw[hlen]⟩,q⟩
 |_=>exact(show False from e).elim
end
structure ObjM(h:Heap)(x dx C:Addr)(mA:Str->Option Value):Prop where
 obj:h.get? x=some (PySem.W.instObj C dx)
 ns:h.Ns1 dx mA
 ne:dx≠x
theorem RelO.some_of{v:V}{o:Option Value}(r:RelO (some v) o):∃u,o=some u/\RelV v u:=by
 cases o with
 |none=>exact(show False from r).elim
 |some u=>exact⟨u,rfl,r⟩
structure Cls(K:PySem.W.Frag)(C:Addr):Prop where
 pg:PySem.W.plainGet K C Str.empty=true
 hd:PySem.W.hasDictIn K C=true
 po:PySem.W.plainOver K C=true
 sa:findIn K (.ref C) "__setattr__"=some (some (.builtin "object.__setattr__"))
structure Con(K:PySem.W.Frag)(C:Addr)(f:Str)(v:V)(u:Value):Prop where
 at_:findIn K (.ref C) f=some (some u)
 rel:RelV v u
 get:specialIn K u "__get__"=some none
 cp:PySem.W.copiedNames.contains f=false
structure Meth(K:PySem.W.Frag)(C:Addr)(m:Str)(f:Addr):Prop where
 at_:findIn K (.ref C) m=some (some (.ref f))
 fn:PySem.W.isFn K (.ref f)=true
 kp:keepIn K (.ref f)=true
section
variable{Q:Value->Shared->Prop}{c:Value}{b:Bool}
inductive TyOf(K:PySem.W.Frag)(H:Hp):V->Value->Prop where
 |non:TyOf K H .non (.type "NoneType")
 |bl (x:Bool):TyOf K H (.bl x) (.type "bool")
 |int (i:Int):TyOf K H (.int i) (.type "int")
 |str (x:Str):TyOf K H (.str x) (.type "str")
 |flt (x:UInt64):TyOf K H (.flt x) (.type "float")
 |lst {a:Addr} {xs:List V} (e:H a=some (.lst xs)):TyOf K H (.ref a) (.type "list")
 |frz {a:Addr} {o:Obj} {xs:List V} (e:H a=some (.frz o (.lst xs))):TyOf K H (.ref a) (.type "list")
 |tup {a:Addr} {xs:List V} (e:H a=some (.tup xs)):TyOf K H (.ref a) (.type "tuple")
 |dK {a:Addr} {kvs:List (Key×V)} (e:H a=some (.dK kvs)):TyOf K H (.ref a) (.type "dict")
 |dT {a:Addr} {sh:Sh} {kvs:List (Kx×V)} {kas:List Addr} (e:H a=some (.dT sh kvs kas)):TyOf K H (.ref a) (.type "dict")
 |ins {a C dx:Addr} {fs:List (Str×V)} (e:H a=some (.ins C dx fs)) (cl:Cls K C) (ha:findIn K (.ref C) "__class__"=some (some (.builtin "object.__class__")))
   (hn:specialIn K (.builtin "object.__class__") "__get__"=some (some (.builtin "getset_descriptor.__get__"))) (htk:takesIn K (.builtin "object.__class__")=some true)
   (hm:PySem.W.mroIn K C (.type "object")=some true):TyOf K H (.ref a) (.ref C)
end
structure Room(k:Nat)(A:Around):Prop where
 hd:A.handled=none
 dp:A.depth+3*k+5<recursionLimit
 un:A.units+16*k+200<cLine
 gd:A.guards=some []
theorem Room.deeper{k:Nat}(r:Room (k+1) A)(env:Env):Room k (A.deeper env):=
 ⟨r.hd,by have:=r.dp;show A.depth+1+3*k+5<_;omega,by have:=r.un;show A.units+3+16*k+200<_;omega,r.gd⟩
theorem Room.depth{k:Nat}(r:Room k A):A.depth<recursionLimit:=by have:=r.dp;omega
def tNil:TA:=fun _ H Q=>Q [] H
def tCons(ta:TE)(tr:TA):TA:=fun σ H Q=>ta σ H fun x H1=>tr σ H1 fun xs H2=>Q (x::xs) H2
section
variable{t:TA}
theorem q1n:PA X [] tNil:=fun _ _ _ _ H Q I h=>Calls.spliced_nil ⟨[],H,I,.nil,h⟩
theorem q0o(ha:PE X e te)(hr:PA X es t)(hs:starEach (e::es) X.env=(false,eval e X.env)::starEach es X.env:=by rfl):PA X (e::es) (tCons te t):=by
 intro pos pins s σ H Q I h;rw[hs];show wpAny _ _ (spliced ((false,eval e X.env)::backTo pos (starEach es X.env))) _ _ s;refine Calls.spliced_cons (thn (ha pins s σ H _ I h) fun u s1 ⟨x,H1,I1,r1,q1⟩=>?_)
 exact thn (hr pos pins s1 σ H1 _ I1 q1) fun us s2 ⟨xs,H2,I2,r2,q2⟩=>⟨x::xs,H2,I2,.cons r1 r2,q2⟩
def tTup(t:TA):TE:=fun σ H Q=>t σ H fun xs H1=>xs.length<=sizeLine/\∀p,H1 p=none->Q (.ref p) (upd H1 p (.tup xs))
def tLst(t:TA):TE:=fun σ H Q=>t σ H fun xs H1=>xs.length<=sizeLine/\∀p,H1 p=none->Q (.ref p) (upd H1 p (.lst xs))
theorem q55{x1}(h:PA X es t):PE X (.Tuple es x1 pos) (tTup t):=by
 intro pins s σ H Q I hq;refine wpAny_Tuple_spliced (thn (h pos pins s σ H _ I hq) fun us s1 ⟨xs,H1,I1,r,z,q⟩=>⟨by rw[<- r.length];exact z,?_⟩)
 have hf:H1 s1.heap.objs.size=none:=I1.hok.fresh (w0g _);refine⟨.ref s1.heap.objs.size,upd H1 s1.heap.objs.size (.tup xs),I1.laid (t':=s1.toks) (fun b u e=>Heap.get?_push_of_some _ e) (w0g _) ?_,rfl,q _ hf⟩
 exact⟨z,us,r,⟨_,Heap.get?_push_size _ rfl,rfl,_,rfl⟩,⟨_,Heap.get?_push_size _ rfl,rfl⟩⟩
theorem x36(h:PA X es t):PE X (.List es pos) (tLst t):=by
 intro pins s σ H Q I hq;refine wpAny_List_spliced (thn (h pos pins s σ H _ I hq) fun us s1 ⟨xs,H1,I1,r,z,q⟩=>⟨by rw[<- r.length];exact z,?_⟩)
 have hf:H1 s1.heap.objs.size=none:=I1.hok.fresh (w0g _);refine⟨.ref s1.heap.objs.size,upd H1 s1.heap.objs.size (.lst xs),I1.laid (t':=s1.toks) (fun b u e=>Heap.get?_push_of_some _ e) (w0g _) ?_,rfl,q _ hf⟩
 exact⟨z,us,0,r,Heap.get?_push_size _ rfl⟩
end
abbrev Sp:=List V->Hp->VK->XK->Prop
variable{sp:Sp}
abbrev CXT:=List Env->Hp->Shared->XK->Value->Shared->Prop
variable{CX:CXT}
structure Env0(P:Program)(w:World)(K:PySem.W.Frag)(mg:Str->Option Value)(base:Heap)(A:Around)(outer:List Env)(s:Shared)(H:Hp):Prop where
 frames:A.frames=some outer
 mod:Mod K mg base
 bs:∀b o,base.get? b=some o->s.heap.get? b=some o/\H b=none
 bsz:base.objs.size<=s.heap.objs.size
 funs:s.heap.FunFrames base outer
 frf:∀b∈frs outer,H b=none
 hok:HOk P w H s.heap
 bare:AllBare s.gens
 tab:TabOk K H
def CE(outer:List Env)(P:Program)(w:World)(H:Hp)(s:Shared)(Q:VK)(u:Value)(s':Shared):Prop:=
 ∃v H',s'.os=s.os/\AllBare s'.gens/\Un (frs outer) [] H H' s.heap s'.heap/\HOk P w H' s'.heap/\RelV v u/\Q v H'
def CR(CX:CXT)(outer:List Env)(P:Program)(w:World)(H:Hp)(s:Shared)(Q:VK)(E:XK)(r:Result)(s':Shared):Prop:=
 match r with
 |.ok (.ret u)=>CE outer P w H s Q u s'
 |.ok _=>False
 |.error e=>CX outer H s E e s'
structure FnOk(P:Program)(w:World)(K:PySem.W.Frag)(mg:Str->Option Value)(base:Heap)(CX:CXT)(k:Nat)(f:Addr)(fd:FuncData)(ps:List Str)(sp:Sp):Prop where
 len:∀vs H Q E,sp vs H Q E->vs.length=ps.length
 run:∀(A:Around)(outer:List Env)(s:Shared)(H:Hp)(args:Args)(us:List Value)(vs:List V)(Q:VK)(E:XK),Room k A->Env0 P w K mg base A outer s H->BindsTo s fd args (ps.zip us)->Vals vs us->sp vs H Q E ->
  codeAny (model P w) A (.call (.ref f) args) (CR CX outer P w H s Q E) s
theorem FnOk.imp{base:Heap}{k:Nat}{f:Addr}{sp':Sp}(F:FnOk P w K mg base CX k f fd ps sp)
  (h:∀vs H Q E,sp' vs H Q E->sp vs H Q E):FnOk P w K mg base CX k f fd ps sp':=
 ⟨fun vs H Q E q=>F.len vs H Q E (h _ _ _ _ q),fun A outer s H args us vs Q E hr he hb hv hs=>F.run A outer s H args us vs Q E hr he hb hv (h _ _ _ _ hs)⟩
section
variable{s':Shared}
theorem Inv.env0(I:Inv X pins σ H s):Env0 X.prog X.w X.K X.mg X.base X.A X.stack s H:=
 ⟨I.ok.frames,I.ok.mod,I.bs,w0z I.ok.bsz I.sz,I.stack,I.stkFree,I.hok,I.bare,I.ok.tab.un I.base⟩
theorem Inv.after{Q:VK}(I:Inv X pins σ H s)(h:CE X.stack X.prog X.w H s Q u s'):EP X pins σ Q u s':=by
 obtain⟨v,H',os,bare,un,hok,r,q⟩:=h;obtain⟨hh,g,d,t,os'⟩:=s';obtain rfl:os'=s.os:=os;exact⟨v,H',I.call (h':=hh) (g':=g) (d':=d) (t':=t) (ch:=[]) un hok bare (fun b z=>absurd z (by simp)),r,q⟩
end
def Binds(K:PySem.W.Frag)(fd:FuncData)(ps:List Str)(ds:List Value):Prop:=
 ∀(s:Shared)(us:List Value),K.In s.heap->(us++ds).length=ps.length->BindsTo s fd ⟨us,[]⟩ (ps.zip (us++ds))
theorem Binds.all(h:∀us:List Value,us.length=ps.length->bindArgs fd ⟨us,[]⟩=pure (ps.zip us)):Binds K fd ps []:=fun s us _ hl=>by
 rw[w1p]at hl |-
 exact .of_eq (h us hl)
section
variable{k:Nat}{f:Addr}{dvs:List V}{ds:List Value}{E:XK}{m:Str}{apos:Pos}{o:Expr}{t:TA}
structure Mk(K:PySem.W.Frag)(C f:Addr):Prop where
 makes:PySem.W.makesIn K C=true
 init:findIn K (.ref C) "__init__"=some (some (.ref f))
 fn:PySem.W.isFn K (.ref f)=true
 kp:keepIn K (.ref C)=true
end
section
variable{k:Nat}{f:Addr}{ks:List Str}{E:XK}{m:Str}{apos kpos:Pos}{o:Expr}{kws:List Keyword}{t tk:TA}{nm:Option Str}
structure KBinds(K:PySem.W.Frag)(fd:FuncData)(ps ks:List Str)(g:List Value->List Value->List Value)(gV:List V->List V->List V):Prop where
 to:∀(s:Shared)(us ws:List Value),K.In s.heap->(g us ws).length=ps.length->BindsTo s fd ⟨us,ks.zip ws⟩ (ps.zip (g us ws))
 rel:∀{vs:List V}{us:List Value}{zs:List V}{ws:List Value},Vals vs us->Vals zs ws->Vals (gV vs zs) (g us ws)
variable{g:List Value->List Value->List Value}{gV:List V->List V->List V}
end
structure FnScope(N P:List Str)(sc:Scope):Prop where
 kind:sc.kind=.function
 co:sc.isCoroutine=false
 gen:sc.isGenerator=false
 nd:N.Nodup
 pre:N.take P.length=P
 par:∀x∈P,sc.names.lookup x=some .local\/sc.names.lookup x=some .cell
 nofree:∀y∈sc.names,y.2≠.free
theorem x2o{kindOf:Str->Option NameKind}:∀{binds:List (Str×Value)}{m:Str->Option Value},(∀v,(x,v)∉binds)->bindL kindOf binds m x=m x
 |[],_,_=>rfl
 |(n,v)::r,m,h=>by
  unfold bindL;rw[x2o fun w hw=>h w (w0x _ hw)]
  split
  ·have:x≠n:=by rintro rfl;exact h v w1e
   simp[this]
  ·rfl
theorem x2p{kindOf:Str->Option NameKind}:∀{binds:List (Str×Value)}{m:Str->Option Value},(∀v,(x,v)∉binds)->bindC kindOf binds m x=m x
 |[],_,_=>rfl
 |(n,v)::r,m,h=>by
  unfold bindC;rw[x2p fun w hw=>h w (w0x _ hw)]
  split
  ·rfl
  ·have:x≠n:=by rintro rfl;exact h v w1e
   simp[this]
theorem x2q{kindOf:Str->Option NameKind}{x:Str}{v:Value}:∀{P:List Str}{vs:List Value}{i:Nat}{m:Str->Option Value},P.Nodup->P[i]?=some x->vs[i]?=some v->kindOf x=some .local ->
  bindL kindOf (P.zip vs) m x=some v
 |[],_,_,_,_,h,_,_=>by simp at h
 |_::_,[],_,_,_,_,h,_=>by simp at h
 |p::P,w::vs,0,m,nd,h1,h2,hk=>by
  simp at h1 h2;subst h1;subst h2;show bindL kindOf ((p,w)::P.zip vs) m p=_;unfold bindL;rw[x2o fun v hv=>(w1z.mp nd).1 (w2w hv).1,if_pos hk]
  simp
 |p::P,w::vs,i+1,m,nd,h1,h2,hk=>by
  show bindL kindOf ((p,w)::P.zip vs) m x=_;unfold bindL;exact x2q (i:=i) (w1z.mp nd).2 (by simpa using h1) (by simpa using h2) hk
theorem x2r{kindOf:Str->Option NameKind}{x:Str}{v:Value}:∀{P:List Str}{vs:List Value}{i:Nat}{m:Str->Option Value},P.Nodup->P[i]?=some x->vs[i]?=some v->kindOf x≠some .local ->
  bindC kindOf (P.zip vs) m x=some v
 |[],_,_,_,_,h,_,_=>by simp at h
 |_::_,[],_,_,_,_,h,_=>by simp at h
 |p::P,w::vs,0,m,nd,h1,h2,hk=>by
  simp at h1 h2;subst h1;subst h2;show bindC kindOf ((p,w)::P.zip vs) m p=_;unfold bindC;rw[x2p fun v hv=>(w1z.mp nd).1 (w2w hv).1,if_neg hk]
  simp
 |p::P,w::vs,i+1,m,nd,h1,h2,hk=>by
  show bindC kindOf ((p,w)::P.zip vs) m x=_;unfold bindC;exact x2r (i:=i) (w1z.mp nd).2 (by simpa using h1) (by simpa using h2) hk
noncomputable def start(N:List Str)(vs:List V):St:=vs.map some++List.replicate (N.length-vs.length) none
noncomputable def cxOf(CX:CXT)(P:Program)(w:World)(K:PySem.W.Frag)(mg:Str->Option Value)(base:Heap)(N:List Str)(qual:Str)(scope:Scope)(f:Addr)(cd:Value)(A:Around)(outer:List Env)(s:Shared)(H:Hp)(E:XK):Cx where
 prog:=P
 w:=w
 K:=K
 mg:=mg
 base:=base
 A:=A.deeper (envOfC qual scope s.heap.objs.size f cd)
 N:=N
 s₀:=s
 H₀:=H
 env:=envOfC qual scope s.heap.objs.size f cd
 outer:=outer
 stack:=envOfC qual scope s.heap.objs.size f cd::outer
 ex:=[]
 calm:=true
 fn:=fun _=>true
 pn:=[]
 xe:=fun e s'=>wpAny (model P w) (A.deeper (envOfC qual scope s.heap.objs.size f cd)) (leaving (envOfC qual scope s.heap.objs.size f cd) e) (fun _ s''=>CX outer H s E e s'') (fun e' s''=>CX outer H s E e' s'') s'
theorem x37{sc:Scope}{n:Nat}(h:sc.names.lookup x=some .cell):∃c,(cellsFrom n sc.names []).lookup x=some c:=by
 have q:=PySem.W.cellsFrom_some sc.names n [] (.inl h);exact w3a.mp q
theorem x83{base:Heap}{qual:Str}{scope:Scope}{f:Addr}{cd:Value}{outer:List Env}{s1:Shared}{E:XK}{vs:List V}
  (S:FnScope N ps scope)(hd:A.handled=none)(e0:Env0 P w K mg base A outer s H)(hl:vs.length=ps.length)(r:Vals vs us)
  (x:InCallC s s.heap.objs.size (bindL (envOfC qual scope s.heap.objs.size f cd).kindOf (ps.zip us) fun _=>none) (cellsFrom (s.heap.objs.size+1) scope.names []) (bindC (envOfC qual scope s.heap.objs.size f cd).kindOf (ps.zip us) fun _=>none) s1):
  Inv (cxOf CX P w K mg base N qual scope f cd A outer s H E) [] (start N vs) H s1:=by
 have hpl:ps.length<=N.length:=by have:=congrArg List.length S.pre;rw[w1q]at this;omega
 obtain⟨h1,tk,rfl,hk⟩:=x.done;have noA:∀b:Addr,b∉(cxOf CX P w K mg base N qual scope f cd A outer s H E).ex:=fun b z=>absurd (show b∈([]:List Addr)from z) (by simp)
 refine⟨⟨e0.mod,S.kind,rfl,rfl,w0g _,fun y z c h1 h2=>?_,fun y hy=>?_,fun y c _ h=>?_,fun _=>hd,Around.frames_deeper e0.frames,.inr ⟨rfl,rfl⟩,fun b z=>absurd z (noA b),e0.bs,e0.bsz,fun b _ _=>noA b,fun b z=>absurd z (noA b),e0.funs,e0.frf,e0.tab⟩,
  rfl,e0.bare,Un.kept hk,⟨_,x.toInCall.ns,fun i y v h1 h2 h3=>?_⟩,fun y c h=>⟨_,x.cell y c h⟩,e0.hok.fresh (w0g _),fun y c h=>?_,fun p hp=>absurd (show p∈([]:List (Addr×Obj))from hp) (by simp),e0.hok.kept hk,?_⟩
 ·exact name_of_addr x.apart (PySem.mem_of_lookup h1) (PySem.mem_of_lookup h2)
 ·have hy:scope.names.lookup y=some .cell\/scope.names.lookup y=some .free:=hy;rcases hy with hy|hy
  ·exact x37 hy
  ·exact absurd rfl (S.nofree _ (PySem.mem_of_lookup hy))
 ·exact w3j (x.above y c (PySem.mem_of_lookup h))
 ·have hi:i<vs.length:=by
   unfold start at h2
   by_cases hi:i<vs.length
   ·exact hi
   ·rw[w0y (by simpa using hi)]at h2;rw[w2l]at h2;split at h2<;>cases h2
  have ha:vs[i]?=some v:=by
   unfold start at h2;rw[w0u (by simpa using hi),w0f]at h2;cases e:vs[i]? with
   |none=>rw[e]at h2;cases h2
   |some a=>rw[e]at h2;cases h2;rfl
  obtain⟨u,hu,rv⟩:=r.get ha
  have hp:ps[i]?=some y:=by
   rw[<- S.pre,List.getElem?_take_of_lt (by omega)];exact h1
  have ndP:ps.Nodup:=by rw[<- S.pre];exact S.nd.sublist (List.take_sublist _ _)
  refine⟨u,rv,?_⟩;rcases S.par y (w1a hp)with k|k
  ·exact .inl ⟨k,x2q ndP hp hu k⟩
  ·obtain⟨c,e⟩:=x37 (n:=s.heap.objs.size+1) k;refine .inr ⟨.inl k,c,e,?_⟩;have q:=x.cell y c e;rw[x2r ndP hp hu (by show scope.names.lookup y≠_;rw[k];decide)]at q;exact q
 ·exact e0.hok.fresh (w3j (x.above y c (PySem.mem_of_lookup h)))
 ·unfold start;show _=N.length;rw[w0h,w0d,w2p];omega
theorem y32{base:Heap}{k:Nat}{f:Addr}{name qual:Str}{params:Arguments}{body:List Stmt}{scope:Scope}{dV kV doc pm cdv ct oc:Value}{an od:Option Addr}
  {osl:Array (Option Value)}(lk:K.lookup f=some ⟨oc,od,.func (PySem.W.fnOf name qual params body scope dV kV doc pm an cdv ct),osl⟩)(hcd:PySem.W.codeIn K cdv qual=true)(S:FnScope N ps scope)
  (len:∀vs H Q E,sp vs H Q E->vs.length=ps.length)
  (hbody:∀(A:Around)(outer:List Env)(s:Shared)(H:Hp)(vs:List V)(Q:VK)(E:XK),Room k (A.deeper (envOfC qual scope s.heap.objs.size f cdv))->sp vs H Q E ->
   ∃t,PSs (cxOf CX P w K mg base N qual scope f cdv A outer s H E) body t/\t {nx:=fun _ H'=>Q .non H',rt:=Q} (start N vs) H):
  FnOk P w K mg base CX (k+1) f (PySem.W.fnOf name qual params body scope dV kV doc pm an cdv ct) ps sp:=by
 refine⟨len,fun A outer s H args us vs Q E hr e0 hb r hsp=>?_⟩
 have hl:=len _ _ _ _ hsp;have KX:K.In s.heap:=e0.mod.kin.keeps fun b o e=>(e0.bs b o e).1
 have lim:s.heap.NoLimit:=e0.mod.nolimit.keeps fun b o e=>(e0.bs b o e).1
 have hkind:∀y∈ps.zip us,scope.names.lookup y.1=some .local\/(scope.names.lookup y.1=some .cell/\((cellsFrom (s.heap.objs.size+1) scope.names []).lookup y.1).isSome=true):=fun⟨n,v⟩ hy=>by
  rcases S.par n (w2w hy).1 with q|q
  ·exact .inl q
  ·exact .inr ⟨q,PySem.W.cellsFrom_some _ _ _ (.inl q)⟩
 refine codeAny_call_function hr.depth (KX _ _ lk) rfl S.co S.gen rfl (PySem.W.codeRec_of KX hcd) (hb _ _ _ _ ?_)
 refine wpAny_newFunctionEnv_cells S.kind hkind fun env he s1 x=>?_
 subst he;refine⟨lim.keeps x.toInCall.keep,codeAny_func ?_⟩
 obtain⟨t,ht,hq⟩:=hbody A outer s H vs Q E (hr.deeper _) hsp;have I:Inv (cxOf CX P w K mg base N qual scope f cdv A outer s H E) [] (start N vs) H s1:=x83 S hr.hd e0 hl r x;refine wpAny_mono (ht [] s1 (start N vs) H _ I hq) (fun fl s' hs=>?_) fun e s' hs=>hs
 have fin:∀{σ':St}{H':Hp}{v:V}{u:Value},Inv (cxOf CX P w K mg base N qual scope f cdv A outer s H E) [] σ' H' s'->RelV v u->Q v H'->CE outer P w H s Q u s':=
  fun {σ' H' v u} J rv q=>⟨v,H',J.os,J.bare,J.base,J.hok,rv,q⟩
 cases fl with
 |ret u=>
  obtain⟨v,σ',H',J,rv,q⟩:=hs;exact fin J rv q
 |next=>
  obtain⟨σ',H',J,q⟩:=hs;exact fin (v:=V.non) (u:=Value.none) J rfl q
 |brk=>
  obtain⟨_,_,_,q⟩:=hs;exact False.elim q
 |cont=>
  obtain⟨_,_,_,q⟩:=hs;exact False.elim q
section
variable{t:TA}{id T:String}{r:List V->Hp->VK->Prop}
def tCB(r:List V->Hp->VK->Prop)(t:TA):TE:=fun σ H Q=>t σ H fun vs H1=>r vs H1 Q
theorem q7m(hc:CallR X (.builtin id) r)(hg:Gl X x)(hm:X.mg x=none)(hv:bootBuiltins x=some (.builtin id))(ha:PA X (e::es) t)(hn:x≠"__name__":=by decide)(hdb:(x==("__debug__":Str))=false:=by decide)
  (he:starEach (e::es) X.env=(false,eval e X.env)::starEach es X.env:=by rfl)(hpl:(backTo pos (starEach es X.env)).any (·.1)=false:=by rfl):PE X (.Call (.Name x p) (e::es) [] pos) (tCB r t):=by
 intro pins s σ H Q I h;refine wpAny_Call_Name_kw (x0q I hg hm hv ?_ hn hdb);exact PyProof.Rows.callWith_builtin1 (thn (ha pos pins s σ H _ I h) fun us s1 ⟨vs,H1,I1,r1,q1⟩=>hc pins s1 σ H1 vs us Q I1 r1 q1) he hpl
theorem x2s(hc:CallR X (.type T) r)(hg:Gl X x)(hm:X.mg x=none)(hv:bootBuiltins x=some (.type T))(ha:PA X (e::es) t)(hn:x≠"__name__":=by decide)(hdb:(x==("__debug__":Str))=false:=by decide)
  (he:starEach (e::es) X.env=(false,eval e X.env)::starEach es X.env:=by rfl)(hpl:(backTo pos (starEach es X.env)).any (·.1)=false:=by rfl):PE X (.Call (.Name x p) (e::es) [] pos) (tCB r t):=by
 intro pins s σ H Q I h;refine wpAny_Call_Name_kw (x0q I hg hm hv ?_ hn hdb);exact PyProof.Rows.callWith_type1 (thn (ha pos pins s σ H _ I h) fun us s1 ⟨vs,H1,I1,r1,q1⟩=>hc pins s1 σ H1 vs us Q I1 r1 q1) he hpl
end
end L2
namespace HT
open PySem PyProof.Rows
section
variable{prog:Program}{w:World}{A:Around}{E:Value->Shared->Prop}{s:Shared}
theorem cat_tup{t b:Addr}{vs ws:List Value}{Q:Value->Shared->Prop}(ht:IsTup s.heap t vs.toArray)(hb:IsTup s.heap b ws.toArray)(hv:vs≠[])
  (h1:ws=[]->Q (.ref t) s)(h2:ws≠[]->Q (.ref s.heap.objs.size) {s with heap:=s.heap.push {cls:=.type "tuple", data:=.seq (vs++ws).toArray}})
  (hsz:vs.length+ws.length<=sizeLine):wpAny (model prog w) A (binaryOp .Add (.ref t) (.ref b)) Q E s:=by
 obtain⟨⟨cls,dd,data,sl⟩,ho,hc,n,hd⟩:=id ht;obtain⟨⟨cls2,dd2,data2,sl2⟩,ho2,hc2,n2,hd2⟩:=id hb;simp only at hc hd hc2 hd2;subst hc hd hc2 hd2;have e:vs.toArray++ws.toArray=(vs++ws).toArray:=by simp
 by_cases hw:ws=[]
 ·exact concat_meets ⟨_,ho,rfl⟩ ⟨_,ho2,rfl⟩ noFill_tuple_add seq_tuple_add PySem.F.slot_tuple_add PySem.F.entry_tuple_add (PySem.F.args_tuple_add_2 _ _)
   (tuple_addW1 t b vs.toArray ws.toArray n n2 dd dd2 sl sl2 (by simpa using hv) (by simp[hw])) ⟨ho,ho2,h1 hw⟩
 ·refine concat_meets ⟨_,ho,rfl⟩ ⟨_,ho2,rfl⟩ noFill_tuple_add seq_tuple_add PySem.F.slot_tuple_add PySem.F.entry_tuple_add (PySem.F.args_tuple_add_2 _ _)
   (tuple_addW2 t b vs.toArray ws.toArray n n2 dd dd2 sl sl2 (by simpa using hv) (by simpa using hw) (by rw[w0e,w0e];exact hsz)) ⟨ho,ho2,?_⟩
  rw[e];exact h2 hw
noncomputable def sIx(n d:Nat):Option Int->Nat
 |none=>d
 |some v=>if v<0 then(v+(n:Int)).toNat else min v.toNat n
theorem sIx_none(n d:Nat):sIx n d none=d:=rfl
theorem sIx_nat(n d k:Nat):sIx n d (some (k:Int))=min k n:=by
 show(if(k:Int)<0 then((k:Int)+(n:Int)).toNat else min (k:Int).toNat n)=min k n;rw[if_neg (by omega),Int.toNat_natCast]
theorem y8l(n d:Nat)(hd:d<=n)(o:Option Int):sIx n d o<=n:=by
 cases o with
 |none=>exact hd
 |some v=>
  show(if v<0 then(v+(n:Int)).toNat else min v.toNat n)<=n
  by_cases hv:v<0
  ·rw[if_pos hv];omega
  ·rw[if_neg hv];exact w2q _ _
theorem x6r(v:Int)(n d:Nat):(if v<0 then max (v+(n:Int)) 0 else min v (n:Int))=((sIx n d (some v):Nat):Int):=by
 show(if v<0 then max (v+(n:Int)) 0 else min v (n:Int))=(((if v<0 then(v+(n:Int)).toNat else min v.toNat n):Nat):Int)
 by_cases hv:v<0
 ·simp only[if_pos hv];omega
 ·simp only[if_neg hv];omega
theorem x7p(lo hi:Option Int)(n:Nat):Builtin.Slice.sliceAdjust lo hi 1 (n:Int)=(((sIx n 0 lo:Nat):Int),((sIx n n hi:Nat):Int)):=by
 have h1:¬((1:Int)<0):=by omega
 unfold Builtin.Slice.sliceAdjust;simp only[h1,if_false];refine Prod.ext ?_ ?_
 ·cases lo with
  |none=>rfl
  |some v=>exact x6r v n 0
 ·cases hi with
  |none=>rfl
  |some v=>exact x6r v n n
theorem x7q(i j:Nat):Builtin.Slice.slicePlaces (i:Int) (j:Int) 1=j-i:=by
 unfold Builtin.Slice.slicePlaces;have h1:(1:Int)>0:=by omega
 simp only[h1,if_true,Int.ediv_one];split<;>omega
theorem x0t{v:Value}{o:Option Int}{Q:Option Int->Shared->Prop}(p:IsPart v o)(h:Q o s):wpAny (model prog w) A (Builtin.Slice.slicePartIndex v) Q E s:=by
 cases p with
 |none=>exact slicePart_none h
 |int i t=>exact slicePart_int h
theorem q9y{sl:Addr}{vl vu:Value}{lo hi:Option Int}{n:Nat}{Q:Int×Int×Nat->Shared->Prop}(hs:s.heap.IsSliceOf sl vl vu .none)(pl:IsPart vl lo)(pu:IsPart vu hi)
  (h:Q (((sIx n 0 lo:Nat):Int),1,sIx n n hi-sIx n 0 lo) s):wpAny (model prog w) A (Builtin.Slice.sliceApplied (.ref sl) (pure (n:Int))) Q E s:=by
 obtain⟨os,hos,hcs,hds⟩:=id hs;unfold Builtin.Slice.sliceApplied Builtin.Slice.sliceFields;refine wpAny_bind (wpAny_bind (wpAny_field hos hds (x:=vl) rfl (wpAny_bind (wpAny_field hos hds (x:=vu) rfl (wpAny_bind (wpAny_field hos hds (x:=.none) rfl (wpAny_pure ?_)))))));refine wpAny_bind (slicePart_none ?_);show wpAny _ _ (if((1:Int)==0)=true then _ else _) _ _ s;rw[if_neg (by decide)];refine wpAny_bind (x0t pl (wpAny_bind (x0t pu (wpAny_bind (wpAny_pure ?_)))));show wpAny _ _ (match Builtin.Slice.sliceAdjust lo hi 1 (n:Int)with|(lo,hi)=>pure (lo,(1:Int),Builtin.Slice.slicePlaces lo hi 1)) _ _ s;rw[x7p lo hi n];show wpAny _ _ (pure (((sIx n 0 lo:Nat):Int),(1:Int),Builtin.Slice.slicePlaces ((sIx n 0 lo:Nat):Int) ((sIx n n hi:Nat):Int) 1)) _ _ s;rw[x7q];exact wpAny_pure h
theorem y1h(xs:Array Value)(i k:Nat):((List.range k).filterMap fun(m:Nat)=>xs[((i:Int)+(m:Int)*1).toNat]?).toArray=((xs.toList.drop i).take k).toArray:=by
 have e:(fun(m:Nat)=>xs[((i:Int)+(m:Int)*1).toNat]?)=fun m=>xs[i+m]?:=by
  funext m
  have:((i:Int)+(m:Int)*1).toNat=i+m:=by omega
  rw[this]
 rw[e];have:=pick_run xs i k;rw[List.filterMap_map]at this;have e2:((fun x=>xs[x]?) ∘ fun x=>i+x)=fun m=>xs[i+m]?:=rfl
 rw[e2]at this;rw[this]
theorem getItem_tuple_cut{t sl:Addr}{items:Array Value}{vl vu:Value}{lo hi:Option Int}{Q:Value->Shared->Prop}(ht:IsTup s.heap t items)(hs:s.heap.IsSliceOf sl vl vu .none)(pl:IsPart vl lo)(pu:IsPart vu hi)
  (hw:¬(sIx items.size 0 lo=0/\sIx items.size items.size hi=items.size))
  (h:Q (.ref s.heap.objs.size) {s with heap:=s.heap.push {cls:=.type "tuple", data:=.seq ((items.toList.drop (sIx items.size 0 lo)).take (sIx items.size items.size hi-sIx items.size 0 lo)).toArray}})
  (hsz:items.size<=sizeLine):wpAny (model prog w) A (getItem (.ref t) (.ref sl)) Q E s:=by
 have htake:sizeOk (.seq ((items.toList.drop (sIx items.size 0 lo)).take (sIx items.size items.size hi-sIx items.size 0 lo)).toArray):=by
  show((items.toList.drop (sIx items.size 0 lo)).take (sIx items.size items.size hi-sIx items.size 0 lo)).toArray.size<=sizeLine;rw[w0e,w1q,w1u,w2v];exact w0z (w2q _ _) (w0z (Nat.sub_le _ _) hsz)
 have hj:sIx items.size items.size hi<=items.size:=y8l _ _ (w0g _) hi;obtain⟨os,hos,hcs,hds⟩:=id hs;have hTs:s.TypeIs (.ref sl) "slice":=⟨os,hos,hcs⟩;unfold getItem;try with_reducible refine wpAny_holding ?_
 first|refine wpAny_bind (wpAny_pure ?_)|skip
 refine wpAny_bind (wpAny_sequenceKey ht.typeIs (by decide) ?_)
 refine wpAny_bind (wpAny_callSpecial?_slot (name:=Str.ofString "__getitem__") ht.typeIs PyProof.Rows.slot_tuple_getitem
  (wpAny_call_entry PyProof.Rows.slot_tuple_getitem ht.typeIs entry_tuple_getitem ?_ (args_tuple_getitem _ _)))
 show wpAny _ _ (Builtin.Tuple.tupleItemsOf (.ref t) >>= _) _ _ s;refine wpAny_bind (tupleItemsOf_ ht ?_);refine wpAny_bind (wpAny_typeOf hTs ?_);rw[if_pos (by decide)];refine wpAny_bind (q9y hs pl pu ?_)
 have hno:¬((((sIx items.size 0 lo:Nat):Int)==0&&(1:Int)==1&&(sIx items.size items.size hi-sIx items.size 0 lo)==items.size)=true):=by
  intro q;rw[w0t,w0t]at q;have q1:((sIx items.size 0 lo:Nat):Int)=0:=eq_of_beq q.1.1;have q2:sIx items.size items.size hi-sIx items.size 0 lo=items.size:=eq_of_beq q.2;exact hw ⟨by omega,by omega⟩
 show wpAny _ _ (if(((sIx items.size 0 lo:Nat):Int)==0&&(1:Int)==1&&(sIx items.size items.size hi-sIx items.size 0 lo)==items.size)=true then _ else _) _ _ s;rw[if_neg hno,y1h]
 first
  |exact wpAny_bind (m:=Builtin.Tuple.tupleExact _) (wpAny_newObj_type (wpAny_pure ⟨_,rfl,wpAny_pure h⟩) htake)
  |exact wpAny_bind (m:=Builtin.Tuple.tupleExact _) (wpAny_newObj_type (wpAny_bind (wpAny_pure (wpAny_pure ⟨_,rfl,wpAny_pure h⟩))) htake)
  |exact wpAny_bind (wpAny_bind (m:=Builtin.Tuple.tupleExact _) (wpAny_newObj_type (wpAny_pure (wpAny_pure ⟨_,rfl,wpAny_pure h⟩)) htake))
  |exact wpAny_bind (wpAny_bind (m:=Builtin.Tuple.tupleExact _) (wpAny_newObj_type (wpAny_pure ⟨_,rfl,wpAny_pure h⟩) htake))
end
end HT
namespace L2
open PySem PySem.Spec PyProof.Rows
variable{A:Around}{X:Cx}{xs:List V}{us:List Value}{s:Shared}{α:Type}{x:V}{v:Value}
abbrev TO:=St->Hp->(Option Int->Hp->Prop)->Prop
def PO(X:Cx)(e:Option Expr)(t:TO):Prop:=
 ∀(pins:List (Addr×Obj))(s:Shared)(σ:St)(H:Hp)(Q:Option Int->Hp->Prop),Inv X pins σ H s->t σ H Q ->
  wpAny (model X.prog X.w) X.A (evalPart e X.env) (fun u s'=>∃o H',Inv X pins σ H' s'/\IsPart u o/\Q o H') X.xe s
def tNoPart:TO:=fun _ H Q=>Q none H
def tPart(t:TE):TO:=fun σ H Q=>t σ H fun x H1=>∃i,x=.int i/\Q (some i) H1
section
variable{e:Expr}{te:TE}{lo hi:Option Expr}{tl th:TO}{pos p2:Pos}
theorem y4p:PO X none tNoPart:=by
 intro pins s σ H Q I h;rw[evalPart_none];exact wpAny_pure ⟨none,H,I,.none,h⟩
theorem y4q(h:PE X e te):PO X (some e) (tPart te):=by
 intro pins s σ H Q I hw;rw[evalPart_some];refine thn (h pins s σ H _ I hw) fun u s1 ⟨x,H1,I1,r1,q1⟩=>?_
 obtain⟨i,rfl,q⟩:=q1;obtain⟨t,rfl⟩:=r1;exact⟨some i,H1,I1,.int i t,q⟩
def SlR(X:Cx)(r:V->Option Int->Option Int->Hp->VK->Prop):Prop:=
 ∀(pins:List (Addr×Obj))(s:Shared)(σ:St)(H:Hp)(x:V)(v vl vu:Value)(lo hi:Option Int)(sl:Addr)(Q:VK),Inv X pins σ H s->RelV x v->s.heap.IsSliceOf sl vl vu .none->IsPart vl lo->IsPart vu hi->r x lo hi H Q ->
  ∃T id,typeLookup (.type T) "__getitem__"=pure (some (.builtin id))/\s.TypeIs v T/\wpAny (model X.prog X.w) X.A (getItem v (.ref sl)) (EP X pins σ Q) X.xe s
theorem SlR.or{r r':V->Option Int->Option Int->Hp->VK->Prop}(h:SlR X r)(h':SlR X r'):SlR X (fun x lo hi H Q=>r x lo hi H Q\/r' x lo hi H Q):=by
 intro pins s σ H x v vl vu lo hi sl Q I rx hs pl pu q;rcases q with q|q
 ·exact h pins s σ H x v vl vu lo hi sl Q I rx hs pl pu q
 ·exact h' pins s σ H x v vl vu lo hi sl Q I rx hs pl pu q
def tSl(r:V->Option Int->Option Int->Hp->VK->Prop)(te:TE)(tl th:TO):TE:=fun σ H Q=>te σ H fun x H1=>tl σ H1 fun l H2=>th σ H2 fun u H3=>r x l u H3 Q
theorem y1i{r:V->Option Int->Option Int->Hp->VK->Prop}(hr:SlR X r)(he:PE X e te)(hl:PO X lo tl)(hu:PO X hi th):PE X (.Subscript e (.Slice lo hi none p2) pos) (tSl r te tl th):=by
 intro pins s σ H Q I h;refine Subscript_ (thn (he pins s σ H _ I h) fun v s1 ⟨x,H1,I1,r1,q1⟩=>?_)
 refine wpAny_Slice (thn (hl pins s1 σ H1 _ I1 q1) fun vl s2 ⟨l,H2,I2,pl,q2⟩=>thn (hu pins s2 σ H2 _ I2 q2) fun vu s3 ⟨u,H3,I3,pu,q3⟩=>?_)
 rw[evalPart_none];refine wpAny_pure ?_;have I4:Inv X pins σ H3 {s3 with heap:=s3.heap.push {cls:=.type "slice", data:=.fields #[vl,vu,.none]}}:=I3.kept (t':=s3.toks) fun b ob q=>Heap.get?_push_of_some _ q
 obtain⟨T,id,hT,ht,hg⟩:=hr pins {s3 with heap:=s3.heap.push {cls:=.type "slice", data:=.fields #[vl,vu,.none]}} σ H3 x v vl vu l u s3.heap.objs.size Q I4 r1 (Heap.IsSliceOf.new ..) pl pu q3;show wpAny (model X.prog X.w) X.A (subscriptTail e (.Slice lo hi none p2) v (.ref s3.heap.objs.size)) (EP X pins σ Q) X.xe {s3 with heap:=s3.heap.push {cls:=.type "slice", data:=.fields #[vl,vu,.none]}};exact tail_any (ops:=[.ref s3.heap.objs.size,v]) ht hT hg (by with_unfolding_all rfl)
noncomputable def cutV(xs:List V)(lo hi:Option Int):List V:=(xs.drop (HT.sIx xs.length 0 lo)).take (HT.sIx xs.length xs.length hi-HT.sIx xs.length 0 lo)
theorem q9g(xs:List V)(lo hi:Option Int):(cutV xs lo hi).length<=xs.length:=by
 unfold cutV;rw[w1q,w1u];exact w0z (w2q _ _) (Nat.sub_le _ _)
def rSlT(K:PySem.W.Frag):V->Option Int->Option Int->Hp->VK->Prop:=fun x lo hi H Q=>∃a xs,x=.ref a/\SqT K H a xs /\
 ¬(HT.sIx xs.length 0 lo=0/\HT.sIx xs.length xs.length hi=xs.length)/\∀p,H p=none->Q (.ref p) (upd H p (.tup (cutV xs lo hi)))
theorem y8m:SlR X (rSlT X.K):=by
 intro pins s σ H x v vl vu lo hi sl Q I rx hs pl pu h;obtain⟨a,xs,rfl,hx,hw,q⟩:=h;cases rx;obtain⟨its,r,ht,hz⟩:=I.tuple hx;have hlen:its.toArray.size=xs.length:=by rw[w0e];exact r.length.symm
 refine⟨"tuple", _,PyProof.Rows.slot_tuple_getitem.lookup,ht.typeIs,?_⟩;refine HT.getItem_tuple_cut ht hs pl pu (by rw[hlen];exact hw) ?_ (by rw[hlen];exact hz);rw[hlen];refine⟨.ref s.heap.objs.size,_,I.laid (t':=s.toks) (o:=.tup (cutV xs lo hi)) (fun b ob q=>Heap.get?_push_of_some _ q) (w0g _) ?_,rfl,q _ (I.hok.fresh (w0g _))⟩
 exact⟨w0z (q9g xs lo hi) hz,_,(r.drop (HT.sIx xs.length 0 lo)).take (HT.sIx xs.length xs.length hi-HT.sIx xs.length 0 lo),IsTup.new _ _,_,Heap.get?_push_size _ rfl,rfl⟩
def rCatT(K:PySem.W.Frag):R2:=fun x y H Q=>∃a b xs ys,x=.ref a/\y=.ref b/\SqT K H a xs/\SqT K H b ys/\xs≠[]/\xs.length+ys.length<=sizeLine /\
 (ys=[]->Q (.ref a) H)/\(ys≠[]->∀p,H p=none->Q (.ref p) (upd H p (.tup (xs++ys))))
theorem Vals.nil_iff(r:Vals xs us):us=[]↔xs=[]:=by
 cases r with
 |nil=>simp
 |cons _ _=>simp
theorem op_catT:OpR X (binaryOp .Add) (rCatT X.K):=by
 intro pins s σ H x y v u Q I rx ry h;obtain⟨a,b,xs,ys,rfl,rfl,ha,hb,hx,hz,q1,q2⟩:=h;cases rx;cases ry;obtain⟨its,r1,p1,_⟩:=I.tuple ha;obtain⟨its2,r2,p2,_⟩:=I.tuple hb;refine HT.cat_tup p1 p2 (fun z=>hx (r1.nil_iff.mp z)) (fun z=>⟨.ref a,H,I,rfl,q1 (r2.nil_iff.mp z)⟩) (fun z=>?_) (by rw[<- r1.length,<- r2.length];exact hz)
 refine⟨.ref s.heap.objs.size,_,I.laid (t':=s.toks) (o:=.tup (xs++ys)) (fun b ob q=>Heap.get?_push_of_some _ q) (w0g _) ?_,rfl,q2 (fun w=>z (r2.nil_iff.mpr w)) _ (I.hok.fresh (w0g _))⟩
 exact⟨by rw[w0h];exact hz,_,r1.append r2,IsTup.new _ _,_,Heap.get?_push_size _ rfl,rfl⟩
end
noncomputable def ixN(n:Nat)(i:Int):Option Nat:=if 0<=i then(if i<n then some i.toNat else none)else if -(n:Int)<=i then some (i+n).toNat else none
noncomputable def atI(xs:List α)(i:Int):Option α:=(ixN xs.length i).bind fun j=>xs[j]?
theorem y4r{n:Nat}{i:Int}{j:Nat}(h:ixN n i=some j):seqIndex? i n=some j/\j<n/\-(n:Int)<=i/\i<n:=by
 unfold ixN at h
 by_cases h0:0<=i
 ·rw[if_pos h0]at h
  by_cases h1:i<n
  ·rw[if_pos h1]at h;have e:i.toNat=j:=Option.some.inj h;exact⟨by rw[seqIndex_of h0 h1,e],by omega,by omega,h1⟩
  ·rw[if_neg h1]at h;cases h
 ·rw[if_neg h0]at h
  by_cases h1:-(n:Int)<=i
  ·rw[if_pos h1]at h;have e:(i+n).toNat=j:=Option.some.inj h;exact⟨by rw[seqIndex_neg (by omega) h1,e],by omega,h1,by omega⟩
  ·rw[if_neg h1]at h;cases h
theorem x1u{xs:List α}{i:Int}{v:α}(h:atI xs i=some v):∃j,seqIndex? i xs.length=some j/\xs[j]?=some v/\j<xs.length/\-(xs.length:Int)<=i/\i<xs.length:=by
 unfold atI at h;cases e:ixN xs.length i with
 |none=>rw[e]at h;cases h
 |some j=>
  rw[e]at h;obtain⟨h1,h2,h3,h4⟩:=y4r e;exact⟨j,h1,h,h2,h3,h4⟩
theorem q44{xs:List α}{j:Nat}{v:α}(h:xs[j]?=some v):atI xs (j:Int)=some v:=by
 have hj:j<xs.length:=(w0a.mp h).1
 have e:ixN xs.length (j:Int)=some j:=by
  unfold ixN;rw[if_pos (by omega),if_pos (by omega)];simp
 unfold atI;rw[e];exact h
def PlainIx(b:Expr):Prop:=∀o i,subscripted b false o i=operate [o,i] (getItem o i)
def IxR(X:Cx)(r:R2):Prop:=
 ∀(value slice:Expr)(pins:List (Addr×Obj))(s:Shared)(σ:St)(H:Hp)(x y:V)(v u:Value)(Q:VK),Inv X pins σ H s->RelV x v->RelV y u->r x y H Q ->
  subscripted slice false v u=operate [v,u] (getItem v u)->wpAny (model X.prog X.w) X.A (subscriptTail value slice v u) (EP X pins σ Q) X.xe s
def MtR(X:Cx)(id:String)(r:V->List V->Hp->VK->Prop):Prop:=
 ∀(pins:List (Addr×Obj))(s:Shared)(σ:St)(H:Hp)(x:V)(xs:List V)(v:Value)(us:List Value)(Q:VK),Inv X pins σ H s->RelV x v->Vals xs us->r x xs H Q ->
  wpAny (model X.prog X.w) X.A (call (.builtin id) (v::us)) (EP X pins σ Q) X.xe s
section
variable{a b:Expr}{ta tb:TE}{pos:Pos}
theorem IxR.or{r r':R2}(h:IxR X r)(h':IxR X r'):IxR X (fun x y H Q=>r x y H Q\/r' x y H Q):=by
 intro value slice pins s σ H x y v u Q I rx ry q hs;rcases q with q|q
 ·exact h value slice pins s σ H x y v u Q I rx ry q hs
 ·exact h' value slice pins s σ H x y v u Q I rx ry q hs
theorem pe_ix{r:R2}(hr:IxR X r)(ha:PE X a ta)(hb:PE X b tb)(hs:PlainIx b):PE X (.Subscript a b pos) (tOp r ta tb):=by
 intro pins s σ H Q I h;exact Subscript_ (binT ha hb I h fun v u s2 x y H2 I2 rx ry q=>hr a b pins s2 σ H2 x y v u Q I2 rx ry q (hs _ _))
def rIxL(K:PySem.W.Frag):R2:=fun x y H Q=>∃p xs i v,x=.ref p/\y=.int i/\SqL K H p xs/\atI xs i=some v/\Q v H
def rIxT(K:PySem.W.Frag):R2:=fun x y H Q=>∃p xs i v,x=.ref p/\y=.int i/\SqT K H p xs/\atI xs i=some v/\Q v H
def rIxS:R2:=fun x y H Q=>∃z i c,x=.str z/\y=.int i/\z.length<=sizeLine/\atI z.cps.toList i=some c/\Q (.str ⟨#[c]⟩) H
theorem ix_list:IxR X (rIxL X.K):=by
 intro value slice pins s σ H x y v u Q I rx ry h hs;obtain⟨p,xs,i,z,rfl,rfl,hq,he,q⟩:=h;cases rx;obtain⟨t,rfl⟩:=ry;obtain⟨its,r,pl,hz⟩:=I.list hq;obtain⟨j,h1,h2,h3,h4,h5⟩:=x1u he;obtain⟨w,ew,rw'⟩:=r.get h2;have hl:=r.length;have hn:=line63;have fin:EP X pins σ Q w s:=⟨z,H,I,rw',q⟩
 by_cases h0:0<=i
 ·have hj:i.toNat=j:=by
   rw[seqIndex_of h0 h5]at h1;exact Option.some.inj h1
  exact item_listR pl.isList h0 (by omega) (by rw[hj];simpa using ew) fin hs
 ·have hj:(i+(its.toArray.size:Int)).toNat=j:=by
   rw[seqIndex_neg (by omega) h4]at h1;rw[w0e,<- hl];exact Option.some.inj h1
  exact subscriptTail_builtinR (x:=w) pl.isList.typeIs slot_list_getitem.lookup
   (wpAny_getItem_list_neg (Q:=fun r s'=>r=w/\EP X pins σ Q r s') pl.isList (by omega) (by rw[w0e]<;>omega) (by omega) (by rw[hj];simpa using ew) ⟨rfl,fin⟩) hs
theorem ix_tup:IxR X (rIxT X.K):=by
 intro value slice pins s σ H x y v u Q I rx ry h hs;obtain⟨p,xs,i,z,rfl,rfl,hq,he,q⟩:=h;cases rx;obtain⟨t,rfl⟩:=ry;obtain⟨its,r,pl,hz⟩:=I.tuple hq;obtain⟨j,h1,h2,h3,h4,h5⟩:=x1u he;obtain⟨w,ew,rw'⟩:=r.get h2;have hl:=r.length;have hn:=line63;have fin:EP X pins σ Q w s:=⟨z,H,I,rw',q⟩
 exact subscriptTail_builtinR (x:=w) pl.typeIs slot_tuple_getitem.lookup
  (getItem_tuple (j:=j) (Q:=fun r s'=>r=w/\EP X pins σ Q r s') pl (by omega) (by omega) (by rw[w0e,<- hl];exact h1) (by simpa using ew) ⟨rfl,fin⟩) hs
theorem y8n:IxR X rIxS:=by
 intro value slice pins s σ H x y v u Q I rx ry h hs;obtain⟨z,i,c,rfl,rfl,hz,he,q⟩:=h;obtain⟨t,rfl⟩:=rx;obtain⟨t',rfl⟩:=ry;obtain⟨j,h1,h2,h3,h4,h5⟩:=x1u he;have hl:z.cps.toList.length=z.length:=by simp[Str.length]
 rw[hl]at h1 h4 h5;have hn:=line63
 exact tail_any (typeIs_str s z t) slot_str_getitem.lookup (getItem_str (c:=c) (by
  have e1:decide (i < -(2^63:Int))=false:=decide_eq_false (by omega);have e2:decide (i>=2^63)=false:=decide_eq_false (by omega);rw[e1,e2,Bool.or_false]) (by rw[h1];simpa using h2) ⟨.str ⟨#[c]⟩,H,I.tok _,⟨_,rfl⟩,q⟩) hs
def rIx(K:PySem.W.Frag):R2:=fun x y H Q=>rIxL K x y H Q\/rIxT K x y H Q\/rIxS x y H Q
theorem x84:IxR X (rIx X.K):=ix_list.or (ix_tup.or y8n)
theorem x38(lo hi:Option Int)(n:Nat):(sliceBounds lo hi none n).1=((HT.sIx n 0 lo:Nat):Int)/\(sliceBounds lo hi none n).2.1=((HT.sIx n n hi:Nat):Int)/\(sliceBounds lo hi none n).2.2=1:=by
 refine⟨?_,?_,rfl⟩
 ·cases lo with
  |none=>simp[sliceBounds,HT.sIx]
  |some i=>
   simp only[sliceBounds,HT.sIx,Option.getD_none,show(1:Int)>0 by decide,if_true]
   by_cases h:i<0
   ·simp only[h,if_true]<;>omega
   ·simp only[h,if_false]<;>omega
 ·cases hi with
  |none=>simp[sliceBounds,HT.sIx]
  |some i=>
   simp only[sliceBounds,HT.sIx,Option.getD_none,show(1:Int)>0 by decide,if_true]
   by_cases h:i<0
   ·simp only[h,if_true]<;>omega
   ·simp only[h,if_false]<;>omega
theorem x3a(its:List Value)(lo hi:Option Int):slicePick its.toArray lo hi none=((its.drop (HT.sIx its.length 0 lo)).take (HT.sIx its.length its.length hi-HT.sIx its.length 0 lo)).toArray:=by
 obtain⟨h1,h2,h3⟩:=x38 lo hi its.toArray.size;unfold slicePick;rw[h1,h2,h3];simp only[sliceRange_one,pick_run,w0e]<;>rfl
def rSlL(K:PySem.W.Frag):V->Option Int->Option Int->Hp->VK->Prop:=fun x lo hi H Q=>∃a xs,x=.ref a/\SqL K H a xs/\∀p,H p=none->Q (.ref p) (upd H p (.lst (cutV xs lo hi)))
theorem sl_list:SlR X (rSlL X.K):=by
 intro pins s σ H x v vl vu lo hi sl Q I rx hs pl pu h;obtain⟨a,xs,rfl,hx,q⟩:=h;cases rx;obtain⟨its,r,ht,hz⟩:=I.list hx;have hlen:=r.length;refine⟨"list", _,slot_list_getitem.lookup,ht.isList.typeIs,?_⟩;refine wpAny_getItem_list_slice ht.isList hs pl pu .none (by simp) ?_ (by rw[w0e]<;>omega);rw[x3a,<- hlen];refine⟨.ref s.heap.objs.size,_,I.laid (t':=s.toks) (o:=.lst (cutV xs lo hi)) (fun b ob q=>Heap.get?_push_of_some _ q) (w0g _) ?_,rfl,q _ (I.hok.fresh (w0g _))⟩
 exact⟨w0z (q9g xs lo hi) hz,_,0,(r.drop (HT.sIx xs.length 0 lo)).take (HT.sIx xs.length xs.length hi-HT.sIx xs.length 0 lo),Heap.get?_push_size _ rfl⟩
noncomputable def flatV:V->Bool
 |.non=>true
 |.bl _=>true
 |.int _=>true
 |.str _=>true
 |_=>false
noncomputable def eqV:V->V->Bool
 |.non,.non=>true
 |.bl a,.bl b=>a==b
 |.bl a,.int b=>(if a then 1 else 0)==b
 |.int a,.bl b=>a==(if b then 1 else 0)
 |.int a,.int b=>a==b
 |.str a,.str b=>a==b
 |_,_=>false
theorem y8o{y:V}{u:Value}(ry:RelV y u)(rx:RelV x v)(fy:flatV y=true)(fx:flatV x=true):SeqAt.EqAt A s u v (eqV y x):=by
 cases y with
 |non=>
  cases ry;cases x with
  |non=>cases rx;exact SeqAt.EqAt.same _
  |bl b=>cases rx;exact SeqAt.EqAt.none_bool b
  |int b=>obtain⟨t,rfl⟩:=rx;exact SeqAt.EqAt.none_int b t
  |str b=>obtain⟨t,rfl⟩:=rx;exact SeqAt.EqAt.none_str b t
  |_=>exact absurd (show false=true from fx) w0s
 |bl a=>
  cases ry;cases x with
  |non=>cases rx;exact SeqAt.EqAt.bool_none a
  |bl b=>cases rx;exact SeqAt.EqAt.bool_bool a b
  |int b=>obtain⟨t,rfl⟩:=rx;exact SeqAt.EqAt.bool_int a b t
  |str b=>obtain⟨t,rfl⟩:=rx;exact SeqAt.EqAt.bool_str a b t
  |_=>exact absurd (show false=true from fx) w0s
 |int a=>
  obtain⟨t',rfl⟩:=ry;cases x with
  |non=>cases rx;exact SeqAt.EqAt.int_none a t'
  |bl b=>cases rx;exact SeqAt.EqAt.int_bool a t' b
  |int b=>obtain⟨t,rfl⟩:=rx;exact SeqAt.EqAt.int_int a t' b t
  |str b=>obtain⟨t,rfl⟩:=rx;exact SeqAt.EqAt.int_str a t' b t
  |_=>exact absurd (show false=true from fx) w0s
 |str a=>
  obtain⟨t',rfl⟩:=ry;cases x with
  |non=>cases rx;exact SeqAt.EqAt.str_none a t'
  |bl b=>cases rx;exact SeqAt.EqAt.str_bool a t' b
  |int b=>obtain⟨t,rfl⟩:=rx;exact SeqAt.EqAt.str_int a t' b t
  |str b=>obtain⟨t,rfl⟩:=rx;exact SeqAt.EqAt.str_str a t' b t
  |_=>exact absurd (show false=true from fx) w0s
 |_=>exact absurd (show false=true from fy) w0s
noncomputable def eqU(x:V)(u:Value):Bool:=match u with
 |.none=>eqV .non x
 |.bool b=>eqV (.bl b) x
 |.int i _=>eqV (.int i) x
 |.str z _=>eqV (.str z) x
 |_=>false
theorem x85{y:V}{u:Value}(r:RelV y u)(f:flatV y=true):eqU x u=eqV y x:=by
 cases y with
 |non=>cases r;rfl
 |bl b=>cases r;rfl
 |int i=>obtain⟨t,rfl⟩:=r;rfl
 |str z=>obtain⟨t,rfl⟩:=r;rfl
 |_=>exact absurd (show false=true from f) w0s
theorem x1v:∀{xs:List V}{us:List Value},Vals xs us->xs.all flatV=true->us.any (eqU x)=xs.any fun y=>eqV y x
 |_,_,.nil,_=>rfl
 |y::xs,u::us,.cons r t,f=>by
  rw[w2m,w0t]at f;rw[w2f,w2f,x85 r f.1,x1v t f.2]
theorem q9z(rx:RelV x v)(fx:flatV x=true):∀{xs:List V}{us:List Value},Vals xs us->xs.all flatV=true->∀u∈us,SeqAt.EqAt A s u v (eqU x u)
 |_,_,.nil,_=>fun u hu=>by cases hu
 |y::xs,u::us,.cons r t,f=>fun u' hu=>by
  rw[w2m,w0t]at f;rcases w0i.mp hu with rfl|hu
  ·rw[x85 r f.1];exact y8o r rx f.1 fx
  ·exact q9z rx fx t f.2 u' hu
noncomputable def inV(x:V)(xs:List V):Bool:=xs.any fun y=>eqV y x
def rIn(K:PySem.W.Frag)(neg:Bool):R2:=fun x y H Q=>∃p xs,y=.ref p/\(SqL K H p xs\/SqT K H p xs)/\flatV x=true/\xs.all flatV=true/\Q (.bl (if neg then !inV x xs else inV x xs)) H
theorem x39:OpR X (compareOp .NotIn) (rIn X.K true):=by
 intro pins s σ H x y v u Q I rx ry h;obtain⟨p,xs,rfl,hq,fx,fs,q⟩:=h;cases ry;rcases hq with hq|hq
 ·obtain⟨its,r,pl,hz⟩:=I.list hq;refine SeqAt.notIn_listAt (eqU x) pl.isList (fun w hw=>q9z rx fx r fs w (by simpa using hw)) ⟨.bl _,H,I,rfl,?_⟩
  rw[show its.toArray.any (eqU x)=its.any (eqU x) by simp,x1v r fs];exact q
 ·obtain⟨its,r,pl,hz⟩:=I.tuple hq;refine SeqAt.notIn_tupleAt (eqU x) pl (fun w hw=>q9z rx fx r fs w (by simpa using hw)) ⟨.bl _,H,I,rfl,?_⟩
  rw[show its.toArray.any (eqU x)=its.any (eqU x) by simp,x1v r fs];exact q
theorem x4a:CallR X (.type "list") (fun xs H Q=>∃p ys,xs=[.ref p]/\(SqL X.K H p ys\/SqT X.K H p ys)/\∀l,H l=none->Q (.ref l) (upd H l (.lst ys))):=by
 intro pins s σ H xs us Q I r h;obtain⟨p,ys,rfl,hq,q⟩:=h;obtain⟨u,rfl,rx⟩:=vals1 r;cases rx
 have fin:∀(its:List Value),Vals ys its->ys.length<=sizeLine->∀(h':Heap)(c':Nat),(∀b o',s.heap.get? b=some o'->h'.get? b=some o') ->
   h'.get? s.heap.objs.size=some {cls:=.type "list", dict:=none,data:=.seq its.toArray c',slots:=#[]}->EP X pins σ Q (.ref s.heap.objs.size) {s with heap:=h'}:=fun its r' hz h' c' kp e=>
  ⟨.ref s.heap.objs.size,_,I.laid (t':=s.toks) kp (w0g _) (show ObjOk X.prog X.w _ h' _ (.lst ys)from⟨hz,its,c',r',e⟩),rfl,q _ (I.hok.fresh (w0g _))⟩
 rcases hq with hq|hq
 ·obtain⟨its,r',pl,hz⟩:=I.list hq;have hlen:=r'.length;obtain⟨o,ho,hc,n,hd⟩:=pl.isList;exact call_list_seq p (.inl rfl) ho hc hd (fun h' c' kp e=>fin its r' hz h' c' kp e) (by simp only[w0e]<;>omega)
 ·obtain⟨its,r',pl,hz⟩:=I.tuple hq;have hlen:=r'.length;obtain⟨o,ho,hc,n,hd⟩:=pl;exact call_list_seq p (.inr rfl) ho hc hd (fun h' c' kp e=>fin its r' hz h' c' kp e) (by simp only[w0e]<;>omega)
theorem x3b:CallR X (.type "tuple") (fun xs H Q=>∃p ys,xs=[.ref p]/\((SqL X.K H p ys/\∀l,H l=none->Q (.ref l) (upd H l (.tup ys)))\/(SqT X.K H p ys/\Q (.ref p) H))):=by
 intro pins s σ H xs us Q I r h;obtain⟨p,ys,rfl,h⟩:=h;obtain⟨u,rfl,rx⟩:=vals1 r;cases rx;rcases h with⟨hq,q⟩|⟨hq,q⟩
 ·obtain⟨its,r',pl,hz⟩:=I.list hq;have hlen:=r'.length;refine call_tuple_list pl.isList (fun h' kp=>?_) (by simp only[w0e]<;>omega)
  have I1:Inv X pins σ H {s with heap:=h'}:=I.kept (t':=s.toks) kp
  have I2:Inv X pins σ (upd H h'.objs.size (.tup ys)) {s with heap:=h'.push {cls:=.type "tuple", data:=.seq its.toArray}}:=
   I1.laid (t':=s.toks) (fun b o e=>Heap.get?_push_of_some _ e) (w0g _) (show ObjOk X.prog X.w _ _ _ (.tup ys)from⟨hz,its,r',IsTup.new _ _,_,Heap.get?_push_size _ rfl,rfl⟩)
  exact⟨.ref h'.objs.size,_,I2,rfl,q _ (I1.hok.fresh (w0g _))⟩
 ·obtain⟨its,r',pl,hz⟩:=I.tuple hq;exact call_tuple_same pl ⟨.ref p,H,I,rfl,q⟩
def tyV(K:PySem.W.Frag)(T:String)(x:V)(H:Hp):Prop:=match x with
 |.str _=>T="str"
 |.int _=>T="int"
 |.ref p=>(T="list" /\ ∃xs,SqL K H p xs)\/(T="tuple" /\ ∃o,K.lookup p=some o/\o.cls=.type "tuple" /\ o.dict=none) \/
   (T="dict" /\ ((∃kvs,H p=some (.dK kvs))\/∃sh kvs kas,H p=some (.dT sh kvs kas)))\/(T="set" /\ ∃S n,H p=some (.set S n))
 |_=>False
theorem x86{pins:List (Addr×Obj)}{σ:St}{H:Hp}{T:String}(I:Inv X pins σ H s)(r:RelV x v)(ty:tyV X.K T x H):
  s.TypeIs v T/\∀a,v=.ref a->∃ob,s.heap.get? a=some ob/\ob.dict=none:=by
 cases x with
 |str z=>
  obtain⟨t,rfl⟩:=r;cases(show T="str" from ty);exact⟨typeIs_str s z t,fun _ e=>nomatch e⟩
 |int i=>
  obtain⟨t,rfl⟩:=r;cases(show T="int" from ty);exact⟨typeIs_int s i t,fun _ e=>nomatch e⟩
 |ref p=>
  cases r;rcases ty with⟨rfl,xs,hq⟩|⟨rfl,o,hk,hc,hd⟩|⟨rfl,hk⟩|⟨rfl,S,n,hk⟩
  ·obtain⟨its,_,pl,_⟩:=I.list hq;refine⟨pl.isList.typeIs,fun a e=>?_⟩
   cases e;obtain⟨o,n,e,c,hd,_⟩:=pl;exact⟨o,e,hd⟩
  ·refine⟨⟨o,I.kIn p o hk,hc⟩,fun a e=>?_⟩
   cases e;exact⟨o,I.kIn _ o hk,hd⟩
  ·have z:∃o,s.heap.get? p=some o/\o.ExactDict:=by
    rcases hk with⟨kvs,hk⟩|⟨sh,kvs,kas,hk⟩
    ·obtain⟨_,_,_,_,o,_,_,e,ex,_⟩:=I.hok p _ hk;exact⟨o,e,ex⟩
    ·obtain⟨_,_,_,_,_,o,_,_,e,ex,_⟩:=I.hok p _ hk;exact⟨o,e,ex⟩
   obtain⟨o,e,ex⟩:=z;refine⟨⟨o,e,ex.1⟩,fun a e2=>?_⟩
   cases e2;exact⟨o,e,ex.2.1⟩
  ·obtain⟨o,_,_,_,e,ex,_⟩:=I.hok p _ hk;refine⟨⟨o,e,ex.1⟩,fun a e2=>?_⟩
   cases e2;exact⟨o,e,ex.2.1⟩
 |_=>exact False.elim ty
def tBM0(K:PySem.W.Frag)(T:String)(r:V->List V->Hp->VK->Prop)(to:TE):TE:=fun σ H Q=>to σ H fun x H1=>tyV K T x H1/\r x [] H1 Q
def tBM(K:PySem.W.Frag)(T:String)(r:V->List V->Hp->VK->Prop)(to:TE)(t:TA):TE:=fun σ H Q=>to σ H fun x H1=>tyV K T x H1/\t σ H1 fun xs H2=>r x xs H2 Q
variable{o e:Expr}{es:List Expr}{to:TE}{t:TA}{name:Str}{apos cpos:Pos}{T id:String}{r:V->List V->Hp->VK->Prop}
theorem y8p(pa:PlainAttrs T)(slot:Slot T name id)(hty:typeOf (.builtin id)=pure (.type "method_descriptor"))(hm:MtR X id r)(ho:PE X o to)
  (hbase:attributeBase o name X.env (eval o X.env)=eval o X.env:=by rfl)(hline:(apos.endLine==cpos.line)=true:=by rfl):PE X (.Call (.Attribute o name apos) [] [] cpos) (tBM0 X.K T r to):=by
 intro pins s σ H Q I h;refine wpAny_Call_method0_late hbase hline (thn (ho pins s σ H _ I h) fun v s1 ⟨x,H1,I1,r1,ty,q1⟩=>?_)
 obtain⟨h1,h2⟩:=x86 I1 r1 ty;exact⟨T,id,pa,slot,hty,h1,h2,Calls.callWith_builtin rfl (PySem.evalArgs_none (hm pins s1 σ H1 x [] v [] Q I1 r1 .nil q1))⟩
theorem z1k(pa:PlainAttrs T)(slot:Slot T name id)(hty:typeOf (.builtin id)=pure (.type "method_descriptor"))(hm:MtR X id r)(ho:PE X o to)(ha:PA X (e::es) t)
  (hbase:attributeBase o name X.env (eval o X.env)=eval o X.env:=by rfl)
  (hfew:((backTo cpos (starEach (e::es) X.env)).all (fun x=>!x.1)&&(backToKw cpos (keywordEach [] X.env)).all (fun x=>x.1.isSome)
   && decide ((e::es).length+([]:List Keyword).length+(if([]:List Keyword).isEmpty then 0 else 1)<30))=true:=by rfl)
  (hline:(apos.endLine==cpos.line)=true:=by rfl)(hs:starEach (e::es) X.env=(false,eval e X.env)::starEach es X.env:=by rfl)(hplain:(backTo cpos (starEach es X.env)).any (·.1)=false:=by rfl):
  PE X (.Call (.Attribute o name apos) (e::es) [] cpos) (tBM X.K T r to t):=by
 intro pins s σ H Q I h;refine wpAny_Call_method_late hbase hfew hline rfl (thn (ho pins s σ H _ I h) fun v s1 ⟨x,H1,I1,r1,ty,q1⟩=>?_)
 obtain⟨h1,h2⟩:=x86 I1 r1 ty;refine⟨T,id,pa,slot,hty,h1,h2,?_⟩;have hA:=ha cpos pins s1 σ H1 _ I1 q1;rw[hs]at hA |-
 refine Calls.callWith_builtin (by show(false||(backTo cpos (starEach es X.env)).any (·.1))=false;rw[hplain]<;>rfl) (Calls.evalArgs_plain ?_);exact thn hA fun us s2 ⟨vs,H2,I2,r2,q2⟩=>hm pins s2 σ H2 x vs v us Q I2 r1 r2 q2
/- xs.append(e),list.index on a module's tuple .. are MtR facts of 06m -/
end
def MtM(X:Cx)(id:String)(r:V->List V->Hp->VK->Prop):Prop:=
 ∀(pins:List (Addr×Obj))(s:Shared)(σ:St)(H:Hp)(x:V)(xs:List V)(v:Value)(us:List Value)(Q:VK),Inv X pins σ H s->RelV x v->Vals xs us->r x xs H Q ->
  wpAny (model X.prog X.w) X.A (call (.builtin id) (v::us)) (EP X pins σ Q) X.xe s
theorem Vals.one(h:Vals [x] us):∃u,us=[u]/\RelV x u:=vals1 h
theorem Vals.zero:∀{us:List Value},Vals [] us->us=[]
 |_,.nil=>rfl
theorem Vals.dropLast(h:Vals xs us):Vals xs.dropLast us.dropLast:=by
 induction h with
 |nil=>exact .nil
 |cons r t ih=>
  cases t with
  |nil=>exact .nil
  |cons q t'=>exact .cons r ih
theorem x7r(l:List α):l.eraseIdx (l.length-1)=l.dropLast:=by
 induction l with
 |nil=>rfl
 |cons a r ih=>
  cases r with
  |nil=>rfl
  |cons b r=>
   have e:(a::b::r).length-1=((b::r).length-1)+1:=by
    have h1:(a::b::r).length=r.length+2:=rfl;have h2:(b::r).length=r.length+1:=rfl;omega
   rw[e,List.eraseIdx_cons_succ,ih]
   all_goals rfl
section
variable{pins:List (Addr×Obj)}{σ:St}{H:Hp}{l b:Addr}{ys zs:List V}
theorem Inv.lset{its its':List Value}{n:Nat}{f:Array Value->Array Value}{t':Nat}(I:Inv X pins σ H s)(hH:H l=some (.lst xs))
  (e:s.heap.get? l=some {cls:=.type "list", data:=.seq its.toArray n})(hf:f its.toArray=its'.toArray)(hv:Vals ys its')(hz:ys.length<=sizeLine):
  Inv X pins σ (upd H l (.lst ys)) {s with heap:=s.heap.update l (Obj.mapSeq f),toks:=t'}:=by
 have q:=PySem.IsL.update e f;rw[hf]at q;refine I.write (x:=l) (e:=l) (by rw[hH];exact trivial) (.inl rfl) (fun b' u hb hu=>(Heap.get?_update_other s.heap (Obj.mapSeq f) (Ne.symm hb)).trans hu) ⟨_,q⟩ ?_
 exact⟨hz,its',_,hv,q⟩
theorem Inv.lnew{its:List Value}{t':Nat}(I:Inv X pins σ H s)(hv:Vals ys its)(hz:ys.length<=sizeLine):
  Inv X pins σ (upd H s.heap.objs.size (.lst ys)) {s with heap:=s.heap.push {cls:=.type "list", data:=.seq its.toArray},toks:=t'}:=
 I.laid (fun _ _ q=>Heap.get?_push_of_some _ q) (w0g _) ⟨hz,its,0,hv,Heap.get?_push_size _ rfl⟩
theorem Inv.fresh(I:Inv X pins σ H s):H s.heap.objs.size=none:=I.hok.fresh (w0g _)
theorem Inv.lstM(I:Inv X pins σ H s)(hH:H l=some (.lst xs)):xs.length<=sizeLine/\∃(its:List Value)(n:Nat),Vals xs its/\xs.length=its.length/\s.heap.get? l=some {cls:=.type "list", data:=.seq its.toArray n}:=by
 obtain⟨z,its,n,r,e⟩:=I.hok l _ hH;exact⟨z,its,n,r,r.length,e⟩
end
def rAppend:V->List V->Hp->VK->Prop:=fun x vs H Q=>∃l xs y,x=.ref l/\vs=[y]/\H l=some (.lst xs)/\xs.length<sizeLine/\Q .non (upd H l (.lst (xs++[y])))
theorem q78:MtM X "list.append" rAppend:=by
 intro pins s σ H x vs v us Q I rx rv h;obtain⟨l,xs,y,rfl,rfl,hH,hz,q⟩:=h;cases rx;obtain⟨u,rfl,ru⟩:=rv.one;obtain⟨z,its,n,r,hl,e⟩:=I.lstM hH;refine call_meets F.slot_list_append ⟨_,e,rfl⟩ F.entry_list_append (F.args_list_append_2 _ _) (PySem.list_append l its.toArray n u (by rw[w0e];omega)) ⟨e,?_⟩;refine⟨.non,_,I.lset (its':=its++[u]) hH e (by simp) (r.append (.cons ru .nil)) ?_,rfl,q⟩;rw[w0h,w2e];omega
def rPop:V->List V->Hp->VK->Prop:=fun x vs H Q=>∃l xs y,x=.ref l/\vs=[]/\H l=some (.lst xs)/\xs[xs.length-1]?=some y/\Q y (upd H l (.lst xs.dropLast))
theorem y8q:MtM X "list.pop" rPop:=by
 intro pins s σ H x vs v us Q I rx rv h;obtain⟨l,xs,y,rfl,rfl,hH,hy,q⟩:=h;cases rx;have hus:=rv.zero;subst hus;obtain⟨z,its,n,r,hl,e⟩:=I.lstM hH;obtain⟨u,hu,ru⟩:=r.get hy
 have hy':its.toArray[its.toArray.size-1]?=some u:=by
  show its.toArray[its.length-1]?=some u;rw[<- Array.getElem?_toList,<- hl];exact hu
 refine call_meets F.slot_list_pop ⟨_,e,rfl⟩ F.entry_list_pop (F.args_list_pop_1 _) (MeetsSeq.list_pop_last l its.toArray n u hy' (by rw[w0e];omega)) ⟨e,?_⟩;refine⟨y,_,I.lset (its':=its.dropLast) hH e ?_ r.dropLast ?_,ru,q⟩
 ·show its.toArray.eraseIdxIfInBounds (its.toArray.size-1)=its.dropLast.toArray;rw[w0e,List.eraseIdxIfInBounds_toArray,x7r]
 ·rw[List.length_dropLast];omega
end L2
namespace Att
open PySem PySem.W PySem.Calls PyProof.Rows
theorem x0u{P:Params}{h:Heap}:∀(ns:List Int)(vs:List Value),WellAll P h vs (ns.map WData.int)->IntsAre vs ns:=by
 intro ns
 induction ns with
 |nil=>
  intro vs w;rw[w2c]at w;cases w;exact .nil
 |cons n ns ih=>
  intro vs w;rw[w0v]at w;cases w with
  |cons a b=>
   cases a;exact .cons _ _ (ih _ b)
theorem x87{l:OpenLaw}{n:Nat}(hn:l.most=some n){P:Params}{h:Heap}{args:List WData}{vals:List Value}
  (hpre:l.row.toRowW.claim.pre args=true)(hwl:WellAll P h vals args):
  ∃a vs ns,vals=[Value.ref a]/\args=[WData.list (ns.map WData.int)]/\h.get? a=some {cls:=.type "list", data:=.seq vs.toArray}/\IntsAre vs ns/\ns.length<=n:=by
 have hsh:WShape.hasAll [] args [.list .int]=true:=(pre_splitW hpre).1;have hc:l.pre.holds [] {args:=args}=true:=(pre_splitW hpre).2;obtain⟨d,r,rfl,h1,h2⟩:=hasAllW_cons hsh;obtain rfl:=hasAllW_nil h2;obtain⟨xs,rfl,h3⟩:=hasW_list h1;obtain⟨ns,rfl⟩:=items_int h3
 have hlen:ns.length<=n:=by
  unfold OpenLaw.pre at hc
  have h4:(WTm.not (.lt (.lit (.int (n:Int))) (.len (.arg 0)))).holds [] {args:=[.list (ns.map .int)]}=true:=by
   have h4:=(holds_andW hc).1;rw[hn]at h4;exact h4
  have h5:=condW_of h4 (w_not (w_lt w_lit (w_len_list (w_arg rfl))));rw[w0d]at h5;refine Nat.le_of_not_lt fun q=>?_
  have q':(n:Int)<((ns.length:Nat):Int):=by omega
  first
   |(rw[decide_eq_true q']at h5;exact absurd h5 (by decide))
   |(simp at h5;omega)
 cases hwl with
 |cons w1 w2=>
  cases w2;cases w1 with
  |list ho hall=>exact⟨_,_,ns,rfl,rfl,ho,x0u ns _ hall,hlen⟩
theorem x88(l:OpenLaw)(args:List WData):l.row.toRowW.claim.post args (.bool true) args=true:=
 postW_of (r:=l.row.toRowW) (X:=(true==true))
  (show WShape.has [] (.bool true) .bool=true by first|rfl|decide|simp[WShape.has,WShape.arms,WShape.armsAll])
  (show(WTm.eq .res (.lit (.bool true))).value [] {args:=args,res:=some (.bool true),after:=args}=some (.bool (true==true))from w_eq_bool (w_res rfl) w_lit) rfl
theorem attach_call{l:OpenLaw}{n:Nat}{q:Program}{loose:List Str}{XP:(Str->Option Value)->Heap->Prop}{YP:World->Heap->Prop}{d:DefRec}
  (hn:l.most=some n)(hdf:d.params.defaults=[])
  (call:∀(w:World)(s₀ s₁:Shared)(mg mb:Str->Option Value)(fa:Addr)(o:Obj)(pm cd doc:Value)(a:Addr)(vs:List Value)(ns:List Int),
   Ground q loose [] XP w s₀ mg mb s₁.heap->YP w s₁.heap ->
   s₁.heap.get? fa=some o->o.data=.func (docDef d.name d.params d.body d.scope pm cd doc)->s₁.heap.CodeRec cd d.name->mg d.name=some (.ref fa) ->
   s₁.heap.get? a=some {cls:=.type "list", data:=.seq vs.toArray}->IntsAre vs ns->ns.length<=n->s₁.gens=#[] ->
   codeAny (model l.prog w) callerA (.call (.ref fa) ⟨[.ref a],[]⟩) (fun r s'=>r=.ok (.ret (.bool true))/\OldK s₁.heap s'.heap/\s'.os=s₁.os/\AllBare s'.gens) s₁):
  WalkO q loose XP YP l.row.toRowW d [] (fun f vs=>PySem.call f vs):=by
 intro w s₀ s₁ mg mb G Y fa o pm cd doc dV kV ho hd hcd hD hmg hg args vals as hpre hlay hrd hwl hlo;obtain rfl:dV=.none:=Dflts.none hD hdf;obtain rfl:kV=.none:=Dflts.noKw hD;obtain⟨a,vs,ns,rfl,rfl,hobj,hints,hlen⟩:=x87 hn hpre hwl;refine enter_call (codeAny_mono (call w s₀ s₁ mg mb fa o pm cd doc a vs ns G Y ho (fd_plain hd) hcd hmg hobj hints hlen hg) fun r s' hq=>?_)
 obtain⟨rfl,h2,h3,h4⟩:=hq;exact⟨.inl ⟨.bool true,.bool true,[],rfl,fun _=>rfl,.bool true,x88 l _,fun _=>⟨List.Pairwise.nil,fun _ hm=>(nomatch hm)⟩⟩,h2,h3,h4⟩
section
variable{prog:Program}{w:World}{A:Around}{E:Value->Shared->Prop}{s:Shared}{K:Frag}
noncomputable def ledger(h:Heap)(L d:Addr):List (Addr×Obj):=(List.range h.objs.size).filterMap fun a=>if a=L\/a=d then none else(h.get? a).map fun o=>(a,o)
end
end Att
namespace L2
open PySem PySem.Spec PyProof.Rows
theorem q79:∀{vs:List Value}{ns:List Int},IntsAre vs ns->Vals (ns.map V.int) vs
 |_,_,.nil=>.nil
 |_,_,.cons n t h=>.cons ⟨t,rfl⟩ (q79 h)
def Only(H:Hp):Prop:=∀b,H b=none\/∃o xs,H b=some (.frz o (.lst xs))
theorem y1j{P:Program}{w:World}{K:PySem.W.Frag}{mg mb:Str->Option Value}{CX:CXT}{k:Nat}{fa a:Addr}{fd:FuncData}{x:Str}{sp:Sp}{s₁:Shared}{vs:List Value}{ns:List Int}
  (KX:K.In s₁.heap)(hns:s₁.heap.Ns mainGlobals mg)(hb:s₁.heap.Ns builtinsNs mb)(hbb:∀x:Str,x≠"__name__"->mb x=bootBuiltins x)(hlim:s₁.heap.NoLimit)(hg:s₁.gens=#[])
  (ha:s₁.heap.get? a=some {cls:=.type "list", data:=.seq vs.toArray})(hi:IntsAre vs ns)(hl:ns.length<=sizeLine)(hr:Room k callerA)
  (F:∀base:Heap,K.In base->base.Ns mainGlobals mg->FnOk P w K mg base CX k fa fd [x] sp)(hbind:∀(s:Shared)(u:Value),BindsTo s fd ⟨[u],[]⟩ [(x,u)])
  (hsp:∀H:Hp,Only H->SqL K H a (ns.map V.int)->sp [.ref a] H (fun v _=>v=.bl true) fun _ _ _=>False)
  (hCX:∀H e s',CX [] H s₁ (fun _ _ _=>False) e s'->False)(hNM:noMark K=true):
  codeAny (model P w) callerA (.call (.ref fa) ⟨[.ref a],[]⟩) (fun r s'=>r=.ok (.ret (.bool true))/\OldK s₁.heap s'.heap/\s'.os=s₁.os/\AllBare s'.gens) s₁:=by
 have rv:=q79 hi;have lenV:=hi.length
 have core:∀H:Hp,Only H->SqL K H a (ns.map V.int)->HOk P w H s₁.heap->(∀b,H b≠none->b=a)->(H a≠none->K.lookup a=none) ->
   codeAny (model P w) callerA (.call (.ref fa) ⟨[.ref a],[]⟩) (fun r s'=>r=.ok (.ret (.bool true))/\OldK s₁.heap s'.heap/\s'.os=s₁.os/\AllBare s'.gens) s₁:=by
  intro H hO hS hok hA hK;have base_of:∀{b:Addr}{o:Obj},s₁.heap.get? b=some o->H b=none->(hidT s₁.heap H).get? b=some o:=fun e n=>x3y e n
  have noA:∀{b:Addr}{o:Obj}{es:Array DictEntry}{ep:Nat},s₁.heap.get? b=some o->o.data=.dict es ep->H b=none:=fun {b o es ep} e d=>by
   cases q:H b with
   |none=>rfl
   |some u=>
    have e':b=a:=hA b (by rw[q];simp);subst e';rw[ha]at e;cases e;have d':Data.seq vs.toArray _=Data.dict es ep:=d;cases d'
  have nsK:∀{b:Addr}{m:Str->Option Value},s₁.heap.Ns b m->(hidT s₁.heap H).Ns b m:=fun {b m} ⟨o,es,ep,e,d,r⟩=>⟨o,es,ep,base_of e (noA e d),d,r⟩
  have hKb:K.In (hidT s₁.heap H):=fun b o e=>base_of (KX b o e) (by
   cases q:H b with
   |none=>rfl
   |some u=>
    have e':b=a:=hA b (by rw[q];simp);subst e';rw[hK (by rw[q];simp)]at e;cases e)
  have hM:Mod K mg (hidT s₁.heap H):=⟨hKb,nsK hns,⟨mb,nsK hb,hbb⟩,let ⟨mc,h1,h2⟩:=hlim;⟨mc,nsK h1,h2⟩⟩;have e0:Env0 P w K mg (hidT s₁.heap H) callerA [] s₁ H:=⟨rfl,hM,fun b o e=>x6p e,Nat.le_of_eq (x2m _ _),trivial,fun b hb=>absurd (show b∈([]:List Addr)from hb) (by simp),hok,.of_eq hg,.vac hNM⟩
  refine codeAny_mono ((F _ hKb (nsK hns)).run callerA [] s₁ H ⟨[.ref a],[]⟩ [.ref a] [.ref a] _ _ hr e0 (hbind s₁ (.ref a)) (.cons rfl .nil) (hsp H hO hS)) fun r s' h=>?_
  cases r with
  |error e=>exact(hCX H e s' h).elim
  |ok fl=>
   cases fl with
   |next=>exact False.elim h
   |brk=>exact False.elim h
   |cont=>exact False.elim h
   |ret u=>
    obtain⟨v,H',os,bare,un,hok',r',q⟩:=h;have q':v=.bl true:=q;subst q';obtain rfl:u=Value.bool true:=r';refine⟨rfl,OldK.of_keep fun b o e=>?_,os,bare⟩
    cases q:H b with
    |none=>exact un.keep b o e q (by intro z;exact absurd (show b∈([]:List Addr)from z) (by simp)) (by simp)
    |some u=>
     rcases hO b with z|⟨ob,xs,z⟩
     ·rw[q]at z;cases z
     ·have z2:=un.frzs b ob _ z;obtain⟨e1,_⟩:=hok b _ z;obtain⟨e2,_⟩:=hok' b _ z2;rw[e]at e1;cases e1;exact e2
 cases hk:K.lookup a with
 |some o=>
  have e:=KX a o hk;rw[ha]at e;cases e;refine core (fun _=>none) (fun _=>.inl rfl) (.inr ⟨_,vs.toArray,_,hk,rfl,rfl,rfl,by rw[w0e,lenV];exact hl,by simpa using rv⟩) (fun b u z=>by have z':(none:Option HO)=some u:=z;cases z') (fun b z=>absurd rfl z) fun z=>absurd rfl z
 |none=>
  refine core (fun b=>if b=a then some (.frz {cls:=.type "list", data:=.seq vs.toArray} (.lst (ns.map V.int)))else none) (fun b=>?_) (.inl (.inr ⟨{cls:=.type "list", data:=.seq vs.toArray},if_pos rfl⟩)) (fun b u z=>?_) (fun b z=>?_) fun _=>hk
  ·by_cases hb:b=a
   ·exact .inr ⟨_,_,if_pos hb⟩
   ·exact .inl (if_neg hb)
  ·by_cases hb:b=a
   ·have z':=(if_pos hb).symm.trans z;cases z';subst hb;exact⟨ha,by rw[w0d];exact hl,vs,_,rv,ha⟩
   ·have z':=(if_neg hb).symm.trans z;cases z'
  ·by_cases hb:b=a
   ·exact hb
   ·exact absurd (if_neg hb) z
noncomputable abbrev KOf{K:PySem.W.Frag}{h:Heap}(_:K.In h):PySem.W.Frag:=K
theorem y4s{l:PySem.W.OpenLaw}{n k:Nat}{q:Program}{loose:List Str}{XP:(Str->Option Value)->Heap->Prop}{YP:World->Heap->Prop}{d:DefRec}{K:Params->PySem.W.Frag}{CX:World->CXT}{sp:World->Sp}{x:Str}
  (hn:l.most=some n)(hn2:n<=sizeLine)(hdf:d.params.defaults=[])(hr:Room k callerA)
  (hY:∀(w:World)(h:Heap),YP w h->(K w.params).In h)
  (F:∀(w:World)(mg:Str->Option Value)(fa:Addr)(h:Heap),(K w.params).In h->h.Ns mainGlobals mg->mg d.name=some (.ref fa) ->
   ∃fd:FuncData,(∀(s:Shared)(u:Value),BindsTo s fd ⟨[u],[]⟩ [(x,u)]) /\
    ∀base:Heap,(K w.params).In base->base.Ns mainGlobals mg->FnOk l.prog w (K w.params) mg base (CX w) k fa fd [x] (sp w))
  (hsp:∀(w:World)(H:Hp)(a:Addr)(ns:List Int),ns.length<=n->Only H->SqL (K w.params) H a (ns.map V.int)->sp w [.ref a] H (fun v _=>v=.bl true) fun _ _ _=>False)
  (hCX:∀(w:World)(H:Hp)(s:Shared)(e:Value)(s':Shared),CX w [] H s (fun _ _ _=>False) e s'->False)(hNM:∀w:World,noMark (K w.params)=true):
  PySem.W.WalkO q loose XP YP l.row.toRowW d [] (fun f vs=>PySem.call f vs):=by
 refine Att.attach_call hn hdf fun w s₀ s₁ mg mb fa o pm cd doc a vs ns G Y ho hd hcd hmg hobj hints hlen hg=>?_
 have KX:=hY w _ Y;obtain⟨fd,hb,hF⟩:=F w mg fa _ KX G.T.g hmg;exact y1j KX G.T.g G.T.b G.T.builtins G.T.nolimit hg hobj hints (w0z hlen hn2) hr hF hb (fun H hO hS=>hsp w H a ns hlen hO hS) (fun H e s'=>hCX w H s₁ e s') (hNM w)
end L2
/- THE LAST THEOREM (shape; LID, My.* are yours):
   My.Adr: a structure of the addresses that your layer names (classes, functions); My.Txt K t: a structure (Prop) of the equations over K;
   My.txt_mk : {K} {implicit addresses ..} (e1 : nsIn K mainGlobals "law" = some (some (.ref f))) (e2 : K.lookup f = some ⟨oc, od, .func (fnOf "law" "law" params body scope dV kV doc pm an cdv ct), sl⟩) (e3 : codeIn K cdv "law" = true) .. : ∃ t, My.Txt K t
set_option maxRecDepth 100000 in
set_option maxHeartbeats 0 in
theorem PySem.Challenge.cw_LID_holds : PySem.Challenge.rw_LID.Holds := by
 w_on; o_law; k_head; (case hw => w_witness2)
 k_fill
 refine L2.y4s (l := PySem.Challenge.rw_LID) (n := 63) (k := 40) (x := "script") (CX := fun w => ..) (sp := fun _ => My.sp_law) rfl (by decide) rfl ⟨rfl, by decide, by decide⟩ (fun w h Y => PySem.W.kIn_of Y) ?F ?S ?C
 case F =>
  intro w mg fa h KX G hmg
  have T : ∃ t, My.Txt (L2.KOf KX) t := by
   dsimp only [L2.KOf]                          -- K must stand as «<heap const> w.params» for k_is;refine' My.txt_mk ?e1 ?e2 ?e3 ..
   (case e1 => PySem.W.k_is)                    -- in the order: a name -> its address -> its object -> its parts
   (case e2 => PySem.W.k_is)
   ..
  obtain ⟨t, T⟩ := T;have e0 := hmg.symm.trans (mg_of KX G T.law);cases e0                                       -- fa is the law's own address;exact ⟨_, fun s u => .of_eq rfl, fun base kb nb => My.law_fn T kb nb⟩     -- if «.of_eq rfl» comes too early: refine' ⟨_, ?b, fun base kb nb => My.law_fn T kb nb⟩; exact fun s u => .of_eq rfl
 case S => exact fun w H a ns hl hO hS => ..
 case C => exact ..
(the tactic k_is has no namespace: write k_is) -/
namespace L2
open PySem PySem.Spec PyProof.Rows
variable{f:Addr}{X:Cx}{env:Env}{e:Expr}{fd:FuncData}{H H':Hp}{pins:List (Addr×Obj)}{es ifs:List Expr}{js:List Nat}{N ps:List Str}{pos:Pos}{P:Program}{K:PySem.W.Frag}{s:Shared}{sp:Sp}{σ:St}{qual x:Str}{mg:Str->Option Value}{te:TE}{v:V}{w:World}
noncomputable def defArgs(s:Stmt):Arguments:=match s with
 |.FunctionDef _ a _ _ _ _ _ _ _ _=>a
 |_=>{posonlyargs:=[],args:=[],vararg:=none,kwonlyargs:=[],kw_defaults:=[],kwarg:=none,defaults:=[]}
noncomputable def defBody(s:Stmt):List Stmt:=match s with
 |.FunctionDef _ _ b _ _ _ _ _ _ _=>b
 |_=>[]
noncomputable def defScope(s:Stmt):Scope:=match s with
 |.FunctionDef _ _ _ _ _ _ sc _ _ _=>sc
 |_=>{kind:=.function,names:=[],isGenerator:=false,isCoroutine:=false}
noncomputable abbrev CX0:CXT:=fun _ _ _ _ _ _=>False
noncomputable abbrev E0:XK:=fun _ _ _=>False
structure Fun(K:PySem.W.Frag)(x qual:Str)(st:Stmt)(f:Addr)(fd:FuncData):Prop where
 ex:∃(oc:Value)(od:Option Addr)(kV doc pm:Value)(an:Option Addr)(cdv ct:Value)(osl:Array (Option Value)),
  fd=PySem.W.fnOf x qual (defArgs st) (defBody st) (defScope st) .none kV doc pm an cdv ct/\K.lookup f=some ⟨oc,od,.func fd,osl⟩/\PySem.W.codeIn K cdv qual=true
 kp:keepIn K (.ref f)=true
section
variable{base:Heap}
theorem Fun.binds{st:Stmt}{ps:List Str}(F:Fun K x qual st f fd)
  (h:∀(kV doc pm:Value)(an:Option Addr)(cdv ct:Value)(us:List Value),us.length=ps.length->bindArgs (PySem.W.fnOf x qual (defArgs st) (defBody st) (defScope st) .none kV doc pm an cdv ct) ⟨us,[]⟩=pure (ps.zip us)):Binds K fd ps []:=by
 obtain⟨oc,od,kV,doc,pm,an,cdv,ct,osl,rfl,lk,hcd⟩:=F.ex;exact .all (h kV doc pm an cdv ct)
theorem q0i{st:Stmt}{oc:Value}{od an:Option Addr}{osl:Array (Option Value)}{kV doc pm cdv ct:Value}(l:K.lookup f=some ⟨oc,od,.func (PySem.W.fnOf x qual (defArgs st) (defBody st) (defScope st) .none kV doc pm an cdv ct),osl⟩)
  (c:PySem.W.codeIn K cdv qual=true)(k:keepIn K (.ref f)=true):Fun K x qual st f (PySem.W.fnOf x qual (defArgs st) (defBody st) (defScope st) .none kV doc pm an cdv ct):=⟨⟨oc,od,kV,doc,pm,an,cdv,ct,osl,rfl,l,c⟩,k⟩
end
theorem pv(i:Nat)(hN:X.N[i]?=some x:=by rfl)(hv:Vis X.env.scope x:=by walk_at "1")(hd:(x==("__debug__":Str))=false:=by decide)
  (hcd:(x==("__classdict__":Str))=false:=by decide):PE X (.Name x pos) (tVar i):=y77 hN hv hd hcd
def Same(H H':Hp):Prop:=∀b o,H b=some o->H' b=some o
theorem Same.refl(H:Hp):Same H H:=fun _ _ h=>h
theorem Same.trans{H1 H2:Hp}(a:Same H H1)(b:Same H1 H2):Same H H2:=fun c o h=>b c o (a c o h)
theorem Same.free(e:Same H H'){l:Addr}(h:H' l=Option.none):H l=Option.none:=by
 cases q:H l with
 |none=>rfl
 |some o=>
  rw[e l o q]at h;cases h
theorem Same.seq{a:Addr}{xs:List V}(e:Same H H')(h:SqL K H a xs):SqL K H' a xs:=by
 rcases h with(h|⟨o,h⟩)|h
 ·exact .inl (.inl (e _ _ h))
 ·exact .inl (.inr ⟨o,e _ _ h⟩)
 ·exact .inr h
set_option maxHeartbeats 4000000
theorem ObjOk.get{h:Heap}{a:Addr}{o:HO}(x:ObjOk P w H h a o):∃ob,h.get? a=some ob:=by
 cases o with
 |lst xs=>obtain⟨_,_,_,_,e⟩:=x;exact⟨_,e⟩
 |tup xs=>obtain⟨_,_,_,p,_⟩:=x;obtain⟨o,e,_⟩:=p;exact⟨o,e⟩
 |dK kvs=>obtain⟨_,_,_,_,o,_,_,e,_⟩:=x;exact⟨_,e⟩
 |dT sh kvs kas=>obtain⟨_,_,_,_,_,o,_,_,e,_⟩:=x;exact⟨_,e⟩
 |set S n=>obtain⟨o,_,_,_,e,_⟩:=x;exact⟨_,e⟩
 |ins C dx fs=>obtain⟨_,_,_,e,_⟩:=x;exact⟨_,e⟩
 |own y=>obtain⟨_,e⟩:=x;exact⟨_,e⟩
 |xd fs=>obtain⟨_,⟨_,_,_,e,_⟩,_⟩:=x;exact⟨_,e⟩
 |rng lo hi=>obtain⟨_,_,_,e⟩:=x;exact⟨_,e⟩
 |frz ob u=>obtain⟨e,_⟩:=x;exact⟨_,e⟩
 |tbl ps=>rcases x with⟨_,_,_,_,e,_⟩|⟨_,_,_,_,_,_,_,_,_,_,_,_,e⟩<;>exact⟨_,e⟩
 |met f y=>exact⟨_,(show h.get? a=some _ from x)⟩
 |ext φ=>obtain⟨_,⟨_,e⟩,_⟩:=x;exact⟨_,e⟩
structure Fly(outer:List Env)(H H':Hp)(h h':Heap)(e:Addr)(cls:Value)(B:Heap):Prop where
 fl:∃a0,Heap.FlyingW B outer e cls a0 h'
 old:∀b o,h.get? b=some o->H b=none->b∉frs outer->B.get? b=some o
 trk:∀b u o,H' b=some u->h'.get? b=some o->B.get? b=some o
 all:∀b o,h.get? b=some o->b∈frs outer\/∃o',B.get? b=some o'
 new:h.get? e=none
noncomputable def CX1(P:Program)(w:World):CXT:=fun outer H s E ev s'=>∃(e:Addr)(cls:Value)(H':Hp)(B:Heap),
 ev=.ref e/\s'.os=s.os/\AllBare s'.gens/\Un (frs outer) [] H H' s.heap s'.heap/\HOk P w H' s'.heap/\Fly outer H H' s.heap s'.heap e cls B/\E cls none H'
def PassX(CX:CXT)(X:Cx)(EE:L2.St->XK):Prop:=∀(pins:List (Addr×Obj))(σ:St)(H:Hp)(s:Shared)(e:Value)(s':Shared),Inv X pins σ H s->CX X.stack H s (EE σ) e s'->X.xe e s'
section
variable{CX:CXT}{base:Heap}{scope:Scope}{cd:Value}{A:Around}{outer:List Env}{s₀:Shared}{H₀:Hp}{E:XK}
theorem y4t{s':Shared}{e:Addr}{cls:Value}{B h'':Heap}{a0:Value}
  (I:Inv (cxOf CX P w K mg base N qual scope f cd A outer s₀ H₀ E) pins σ H s)(J:Inv (cxOf CX P w K mg base N qual scope f cd A outer s₀ H₀ E) pins σ H' s')
  (old:∀b o,s.heap.get? b=some o->H b=none->b∉frs (envOfC qual scope s₀.heap.objs.size f cd::outer)->B.get? b=some o)
  (trk:∀b u o,H' b=some u->s'.heap.get? b=some o->B.get? b=some o)
  (all:∀b o,s.heap.get? b=some o->b∈frs (envOfC qual scope s₀.heap.objs.size f cd::outer)\/∃o',B.get? b=some o')
  (new:s.heap.get? e=none)
  (fl:Heap.FlyingW B outer e cls a0 h'')(up:s'.heap.UpToSlots h'')(hE:E cls none H'):
  CX1 P w outer H₀ s₀ E (.ref e) {s' with heap:=h''}:=by
 have neL:∀b o,s₀.heap.get? b=some o->b∉frs outer->b∉frs (envOfC qual scope s₀.heap.objs.size f cd::outer):=fun b o q nb hb=>by
  rcases w0i.mp (show b∈s₀.heap.objs.size::frs outer from hb)with z|z
  ·exact absurd (Heap.lt_size q) (by rw[z];exact w1j _)
  ·exact nb z
 have ex0:∀b:Addr,b∉([]:List Addr):=fun b z=>nomatch z
 have slot:∀b o,s₀.heap.get? b=some o->b∈frs outer->∃sl,h''.get? b=some {o with slots:=sl}:=fun b o q hb=>by
  obtain⟨sl,e1⟩:=J.base.slot b o q (J.ok.frf b hb) hb (ex0 b);obtain⟨_,o2,e2,nd⟩:=J.funs.mem hb
  rw[e1]at e2;cases e2;obtain⟨sl',e3⟩:=up b _ e1 nd;exact⟨sl',e3⟩
 refine⟨e,cls,H',B,rfl,J.os,J.bare,⟨fun b o q n hb hx=>?_,fun b o q n hb hx=>slot b o q hb,fun b o q n hx=>J.base.free b o q n hx,fun b o q hx=>?_,J.base.tups,J.base.frzs,J.base.tbls⟩,fun a o q=>?_,⟨⟨a0,fl⟩,fun b o q n hb=>?_,fun b u o q z=>?_,fun b o q=>?_,?_⟩,hE⟩
 ·exact fl.1 b o (old b o (I.base.keep b o q n hb hx) (I.base.free b o q n hx) (neL b o q hb))
 ·by_cases hb:b∈frs outer
  ·obtain⟨sl,z⟩:=slot b o q hb;exact⟨_,z⟩
  ·obtain⟨o1,e1⟩:=I.base.there b o q hx;rcases all b o1 e1 with z|⟨o',z⟩
   ·exact absurd z (neL b o q hb)
   ·exact⟨o',fl.1 b o' z⟩
 ·refine(J.hok a o q).stay (fun b u hb z=>?_) (fun _ z=>z) fun _ _ _ z=>z
  rcases hb with rfl|hb
  ·exact fl.1 _ _ (trk b o u q z)
  ·exact fl.1 _ _ (trk b _ u hb z)
 ·exact old b o (I.base.keep b o q n hb (ex0 b)) (I.base.free b o q n (ex0 b)) (neL b o q hb)
 ·obtain⟨o1,e1⟩:=(J.hok b u q).get;have e2:=trk b u o1 q e1;have e3:=fl.1 b o1 e2;rw[e3]at z;cases z;exact e2
 ·obtain⟨o1,e1⟩:=I.base.there b o q (ex0 b);rcases all b o1 e1 with z|z
  ·by_cases hb:b∈frs outer
   ·exact .inl hb
   ·exact absurd z (neL b o q hb)
  ·exact .inr z
 ·cases q:s₀.heap.get? e with
  |none=>rfl
  |some o=>
   obtain⟨o1,e1⟩:=I.base.there e o q (ex0 e);rw[new]at e1;cases e1
theorem pass1:PassX (CX1 P w) (cxOf (CX1 P w) P w K mg base N qual scope f cd A outer s₀ H₀ E) (fun _=>E):=by
 intro pins σ H s ev s' I hx;obtain⟨e,cls,H',B,rfl,hos,hg,un,hok,fly,hE⟩:=hx;have J:=I.call' (ch:=[]) hos un hok hg (fun b hb=>nomatch hb)
 obtain⟨a0,fl⟩:=fly.fl;refine wpAny_leaves_onW (base:=B) I.ok.frames rfl fl fun h'' fl2 up=>?_
 exact y4t I J fly.old fly.trk fly.all fly.new fl2 up hE
end
theorem passE:PassX (CX1 P w) X (fun _=>E0):=fun _ _ _ _ _ _ _ h=>by
 obtain⟨_,_,_,_,_,_,_,_,_,_,z⟩:=h;exact False.elim z
def tCallX(sp:Sp)(dvs:List V)(EE:L2.St->XK)(t:TA):TE:=fun σ H Q=>t σ H fun vs H1=>sp (vs++dvs) H1 Q (EE σ)
section
variable{CX:CXT}{k:Nat}{C:Addr}{dvs:List V}{ds:List Value}{EE:L2.St->XK}{m:Str}{p apos:Pos}{o:Expr}{ta:TE}{t:TA}
theorem y4u{Q:VK}{us:List Value}{vs:List V}(F:FnOk X.prog X.w X.K X.mg X.base CX k f fd ps sp)(hr:Room k X.A)(hb:Binds X.K fd ps ds)(hd:Vals dvs ds)(hx:PassX CX X EE)
  (I:Inv X pins σ H s)(r:Vals vs us)(h:sp (vs++dvs) H Q (EE σ)):wpAny (model X.prog X.w) X.A (call (.ref f) us) (EP X pins σ Q) X.xe s:=by
 have r2:Vals (vs++dvs) (us++ds):=r.append hd;have hl:(us++ds).length=ps.length:=by rw[<- r2.length];exact F.len _ _ _ _ h
 refine wpAny_call (codeAny_mono (F.run X.A X.stack s H ⟨us,[]⟩ (us++ds) (vs++dvs) Q (EE σ) hr I.env0 (hb s us I.kIn hl) r2 h) fun r s' hq=>?_)
 cases r with
 |error e=>exact hx pins σ H s e s' I hq
 |ok fl=>
  cases fl with
  |ret u=>exact I.after hq
  |next=>exact False.elim hq
  |brk=>exact False.elim hq
  |cont=>exact False.elim hq
theorem y1k(F:FnOk X.prog X.w X.K X.mg X.base CX k f fd ps sp)(hr:Room k X.A)(hg:Gl X x)(hm:X.mg x=some (.ref f))(hk:keepIn X.K (.ref f)=true)(hb:Binds X.K fd ps ds)(hd:Vals dvs ds)(hx:PassX CX X EE)
  (ha:PA X (e::es) t)(hdb:(x==("__debug__":Str))=false:=by decide)(he:starEach (e::es) X.env=(false,eval e X.env)::starEach es X.env:=by rfl)(hpl:(backTo pos (starEach es X.env)).any (·.1)=false:=by rfl):
  PE X (.Call (.Name x p) (e::es) [] pos) (tCallX sp dvs EE t):=by
 intro pins s σ H Q I h;refine wpAny_Call_Name_kw (x6q I hg hm ?_ hdb);refine PySem.W.callWith_K (h₀:=X.base) I.ok.mod.kin hk (thn (ha pos pins s σ H _ I h) fun us s1 ⟨vs,H1,I1,r,q⟩=>⟨I1.kIn,?_⟩) he hpl
 exact y4u F hr hb hd hx I1 r q
end
section
variable{base:Heap}
theorem Fun.okX{st:Stmt}{k:Nat}(F:Fun K x qual st f fd)(S:FnScope N ps (defScope st))(len:∀vs H Q E,sp vs H Q E->vs.length=ps.length)
  (hbody:∀(cdv:Value)(A:Around)(outer:List Env)(s:Shared)(H:Hp)(vs:List V)(Q:VK)(E:XK),Room k (A.deeper (envOfC qual (defScope st) s.heap.objs.size f cdv))->sp vs H Q E ->
   ∃t,PSs (cxOf (CX1 P w) P w K mg base N qual (defScope st) f cdv A outer s H E) (defBody st) t/\t {nx:=fun _ H'=>Q .non H',rt:=Q} (start N vs) H):FnOk P w K mg base (CX1 P w) (k+1) f fd ps sp:=by
 obtain⟨oc,od,kV,doc,pm,an,cdv,ct,osl,rfl,lk,hcd⟩:=F.ex;exact y32 lk hcd S len fun A outer s H vs Q E hr hsp=>hbody cdv A outer s H vs Q E hr hsp
end
noncomputable def excO(e:Addr)(cls:Value):HO:=.ext fun h=>∃o vs,h.get? e=some o/\o.cls=cls/\o.data=.fields vs
noncomputable abbrev Cx.hn(X:Cx)(e:Addr):Cx:={X with A:=X.A.mark (some (.ref e)),calm:=false,xe:=fun _ _=>False}
structure RoomH(k:Nat)(A:Around):Prop where
 dp:A.depth+3*k+5<recursionLimit
 un:A.units+16*k+200<cLine
 gd:A.guards=some []
structure FnOkH(P:Program)(w:World)(K:PySem.W.Frag)(mg:Str->Option Value)(base:Heap)(k:Nat)(f:Addr)(fd:FuncData)(ps:List Str)(sp:Sp):Prop where
 len:∀vs H Q E,sp vs H Q E->vs.length=ps.length
 run:∀(A:Around)(outer:List Env)(s:Shared)(H:Hp)(args:Args)(us:List Value)(vs:List V)(Q:VK),RoomH k A->Env0 P w K mg base A outer s H->BindsTo s fd args (ps.zip us)->Vals vs us->sp vs H Q E0 ->
  codeAny (model P w) A (.call (.ref f) args) (CR CX0 outer P w H s Q E0) s
noncomputable abbrev Cx.cp(X:Cx)(Nc:List Str)(scope:Scope)(cl:List (Str×Addr))(C:Addr)(s₀:Shared)(H₀:Hp)(ex:List Addr):Cx:=
 {X with N:=Nc,s₀:=s₀,H₀:=H₀,env:=compEnvC scope cl C X.env,outer:=X.stack,ex:=ex,fn:=fun _=>false,pn:=[],xe:=fun _ _=>False}
theorem q56:∀(names:List (Str×NameKind))(acc:List (Str×Addr)),(∀x∈names,x.2=.free->∃c,env.cells.lookup x.1=some c) ->
  ∃cl,(forIn names acc fun(x:Str×NameKind) (r:List (Str×Addr))=>(if(x.2==NameKind.free)=true then(cellOf env x.1 >>= fun a=>pure (ForInStep.yield ((x.1,a)::r)))else pure (ForInStep.yield r):Sem (ForInStep (List (Str×Addr)))))=pure cl /\
   (∀x c,cl.lookup x=some c->acc.lookup x=some c\/env.cells.lookup x=some c)/\(∀x,((x,NameKind.free)∈names\/(acc.lookup x).isSome=true)->(cl.lookup x).isSome=true)
 |[],acc,_=>⟨acc,rfl,fun x c h=>.inl h,fun x h=>h.elim (fun z=>nomatch z) id⟩
 |(n,k)::r,acc,h=>by
  by_cases hk:k=.free
  ·subst hk;obtain⟨c,hc⟩:=h (n,.free) w1e rfl;obtain⟨cl,e1,e2,e3⟩:=q56 r ((n,c)::acc) fun x hx=>h x (w0x _ hx)
   refine⟨cl,?_,fun x d hd=>?_,fun x hx=>?_⟩
   ·rw[w3h];have:cellOf env n=pure c:=by unfold cellOf;rw[hc]
    simp only[beq_self_eq_true,if_true,this,pure_bind];exact e1
   ·rcases e2 x d hd with z|z
    ·rw[w0w]at z
     by_cases hx:(x==n)=true
     ·rw[hx]at z;have:x=n:=by simpa using hx
      subst this;cases z;exact .inr hc
     ·rw[w1o.mpr hx]at z;exact .inl z
    ·exact .inr z
   ·refine e3 x ?_;rcases hx with z|z
    ·rcases w0i.mp z with y|y
     ·cases y;exact .inr (by rw[w0w];simp)
     ·exact .inl y
    ·refine .inr ?_;rw[w0w]
     by_cases hx:(x==n)=true
     ·rw[hx];rfl
     ·rw[w1o.mpr hx];exact z
  ·obtain⟨cl,e1,e2,e3⟩:=q56 r acc fun x hx=>h x (w0x _ hx)
   refine⟨cl,?_,e2,fun x hx=>e3 x ?_⟩
   ·rw[w3h];have:(k==NameKind.free)=false:=by simpa using hk
    simp only[this,w1d,if_false,pure_bind];exact e1
   ·rcases hx with z|z
    ·rcases w0i.mp z with y|y
     ·cases y;exact absurd rfl hk
     ·exact .inl y
    ·exact .inr z
theorem q5z{scope:Scope}(h:∀x∈scope.names,x.2=.free->∃c,env.cells.lookup x.1=some c):
  ∃cl,closureFor scope env=pure cl/\(∀x c,cl.lookup x=some c->env.cells.lookup x=some c)/\∀x,(x,NameKind.free)∈scope.names->∃c,cl.lookup x=some c:=by
 obtain⟨cl,e1,e2,e3⟩:=q56 scope.names [] h;refine⟨cl,?_,fun x c hc=>(e2 x c hc).resolve_left (fun z=>nomatch z),fun x hx=>w3a.mp (e3 x (.inl hx))⟩
 unfold closureFor
 first
  |exact e1
  |(rw[e1];rfl)
  |(simp only[e1];rfl)
theorem q8a{env : Env} : ∀ {names : List (Str × NameKind)} {x : Str}, (∀ y ∈ names, y.2 ≠ .cell) ->
    ((names.map fun (n, k) => if (k == NameKind.free && env.scope.kind == .function && env.kindOf n == some .cell) then (n, NameKind.cell) else (n, k)).lookup x = some .cell \/
     (names.map fun (n, k) => if (k == NameKind.free && env.scope.kind == .function && env.kindOf n == some .cell) then (n, NameKind.cell) else (n, k)).lookup x = some .free) -> (x, NameKind.free) ∈ names
  | [], x, _, h => by rcases h with h | h <;> cases h
  | (n, k) :: r, x, hc, h => by
    have ih := @q8a env r x fun y hy => hc y (w0x _ hy)
    rw [w0v] at h;dsimp only at h
    by_cases hx : (x == n) = true
    . have e : x = n := by simpa using hx
      subst e
      by_cases hk : k = .free
      . subst hk; exact w1e
      . exfalso
        have hb : (k == NameKind.free) = false := by simpa using hk
        simp only [hb, Bool.false_and, w1d, if_false, w0w, hx] at h;rcases h with h | h
        . exact hc (x, k) w1e (Option.some.inj h)
        . exact hk (Option.some.inj h)
    . refine w0x _ (ih ?_)
      have hb : (x == n) = false := w1o.mpr hx
      by_cases hq : (k == NameKind.free && env.scope.kind == .function && env.kindOf n == some .cell) = true
      . rw [if_pos hq] at h
        simpa only [w0w, hb] using h
      . rw [if_neg hq] at h
        simpa only [w0w, hb] using h
theorem x2t{prog:Program}{A:Around}{R:Result->Shared->Prop}{elt target iter:Expr}{scope:Scope}{it acc:Value}(I:Nat->Shared->Prop)
  (turn:∀n s,I n s->wpAny (model prog w) A (pyNext it) (fun r s1=>match r with
   |none=>R (.ok .next) s1
   |some v=>wpAny (model prog w) A (letOwnedTupleGo target it v) (fun _ s2=>wpAny (model prog w) A (assign target env v) (fun _ s3=>
     wpAny (model prog w) A (forIn ifs true fun c r=>if r=true then do let ok <- isTrue c env (eval c env);pure (ForInStep.yield ok)else pure (ForInStep.yield r)) (fun ok s4=>
      if ok=true then wpAny (model prog w) A (eval elt env) (fun x s5=>wpAny (model prog w) A (call (.builtin "list.append") [acc,x]) (fun _ s6=>∃m,m<n/\I m s6) (fun _ _=>False) s5) (fun _ _=>False) s4
      else ∃m,m<n/\I m s4) (fun _ _=>False) s3) (fun _ _=>False) s2) (fun _ _=>False) s1) (fun _ _=>False) s)
  (n:Nat)(h:I n s):codeAny (model prog w) A (.compLoop (.ListComp elt [⟨target,iter,ifs,0⟩] scope pos) 0 it acc env) R s:=by
 refine codeAny_loop rfl I (fun n s hI=>?_) n h
 show wpAny _ A ((compTurn (.ListComp elt [⟨target,iter,ifs,0⟩] scope pos) 0 it acc env).onRaise (fun x=>do noteFrame x env;theTreesLotGoes x)) _ _ s
 refine wpAny_noted ?_;rw[compTurn_list];refine wpAny_bind (wpAny_standAt (wpAny_bind (wpAny_mono (turn n s hI) (fun r s1 h1=>?_) fun _ _ z=>z.elim)))
 cases r with
 |none=>exact wpAny_pure h1
 |some v=>
  refine wpAny_bind (wpAny_mono h1 (fun _ s2 h2=>?_) fun _ _ z=>z.elim)
  refine wpAny_bind (wpAny_mono h2 (fun _ s3 h3=>?_) fun _ _ z=>z.elim)
  refine wpAny_bind (wpAny_mono h3 (fun ok s4 h4=>?_) fun _ _ z=>z.elim)
  cases ok with
  |false=>exact wpAny_pure ⟨rfl,h4⟩
  |true=>exact wpAny_bind (wpAny_bind (wpAny_mono h4 (fun x s5 h5=>wpAny_bind (wpAny_mono h5 (fun _ s6 h6=>wpAny_pure (wpAny_pure ⟨rfl,h6⟩)) fun _ _ z=>z.elim)) fun _ _ z=>z.elim))
noncomputable def pj(js:List Nat)(σ:St):St:=js.map fun j=>(σ[j]?).getD none
theorem y8r{i:Nat}(h:(pj js σ)[i]?=some (some v)):∃j,js[i]?=some j/\σ[j]?=some (some v):=by
 unfold pj at h;rw[w0f]at h;cases e:js[i]? with
 |none=>rw[e]at h;cases h
 |some j=>
  rw[e]at h;have h:(σ[j]?).getD none=some v:=Option.some.inj h;refine⟨j,rfl,?_⟩;cases e2:σ[j]? with
  |none=>rw[e2]at h;cases h
  |some z=>rw[e2]at h;rw[show z=some v from h]
def PTs(X:Cx)(ifs:List Expr)(t:TT):Prop:=
 ∀(pins:List (Addr×Obj))(s:Shared)(σ:St)(H:Hp)(Q:Bool->Hp->Prop),Inv X pins σ H s->t σ H Q ->
  wpAny (model X.prog X.w) X.A (forIn ifs true fun c r=>if r=true then do let ok <- isTrue c X.env (eval c X.env);pure (ForInStep.yield ok)else pure (ForInStep.yield r)) (TP X pins σ Q) X.xe s
def tYes:TT:=fun _ H Q=>Q true H
theorem y4v:PTs X [] tYes:=fun pins s σ H Q I h=>wpAny_tests_nil ⟨H,I,h⟩
theorem y4w{c:Expr}{t:TT}(h:PT X c t):PTs X [c] t:=fun pins s σ H Q I hq=>wpAny_tests_one (h pins s σ H Q I hq)
def Kp(σ σ':St):Prop:=∀(i:Nat) v,σ[i]?=some (some v)->σ'[i]?=some (some v)
theorem Kp.one:Kp (List.replicate 1 none++σ) (some v::σ):=fun i u h=>by
 cases i with
 |zero=>cases h
 |succ i=>exact h
theorem Kp.two{u:V}:Kp (List.replicate 2 none++σ) (some v::some u::σ):=fun i w h=>by
 match i,h with
 |0,h=>cases h
 |1,h=>cases h
 |i+2,h=>exact h
def tComp(wi:TI)(nl:Nat)(js:List Nat)(g:TG)(tc:TT)(te:TE):TE:=fun σ H Q=>wi σ H fun J H1=>∀D,H1 D=none->∃W:Nat->Nat->Hp->Prop,(∃m,W 0 m (upd H1 D (.lst [])))/\∀i m H2,W i m H2 ->
 (J.stop i H2/\Q (.ref D) H2)\/(J.go i H2/\∀x H3,J.yld i H2 x H3->g x (List.replicate nl none++pj js σ) H3 fun σ4 H4=>Kp (List.replicate nl none++pj js σ) σ4/\tc σ4 H4 fun b H5=>
  if b=true then te σ4 H5 fun y H6=>∃ys,H6 D=some (.lst ys)/\ys.length<sizeLine/\∃m',m'<m/\W (i+1) m' (upd H6 D (.lst (ys++[y])))else ∃m',m'<m/\W (i+1) m' H5)
section
variable{elt target iter:Expr}{scope:Scope}{wi:TI}{g:TG}{tc:TT}
theorem x4b{Nl Nf:List Str}{fp:List Addr}{cl:List (Str×Addr)}{h1:Heap}{tk:Nat}{mC:Str->Option Value}
  (I:Inv X pins σ H s)(hfp:∀b∈fp,FpOk X pins H b)(hob:∀b∈fp,∃o,s.heap.get? b=some o/\∀v,o.data≠.cell v)
  (hk:scope.kind=.function)(hcell:∀y∈scope.names,y.2≠.cell)(hcl:∀x c,cl.lookup x=some c->X.env.cells.lookup x=some c)(hcf:∀x,(x,NameKind.free)∈scope.names->∃c,cl.lookup x=some c)
  (hj:∀(i j:Nat) y,Nf[i]?=some y->js[i]?=some j->X.N[j]?=some y)(hlen:js.length=Nf.length)
  (hNf:∀y∈Nf,(y,NameKind.free)∈scope.names/\Vis X.env.scope y/\X.env.kindOf y≠some .local)
  (hvis:∀y∈Nf,(relabel scope X.env).names.lookup y=some .cell\/(relabel scope X.env).names.lookup y=some .free)
  (hn:h1.Ns (s.heap.objs.size+1) mC)(hs:Heap.SameBut (s.heap.objs.size+1) ((s.heap.push {cls:=.type "list", dict:=none,data:=.seq ([]:List Value).toArray}).push {cls:=.type "dict", data:=.dict #[]}) h1):
  Inv (X.cp (Nl++Nf) scope cl (s.heap.objs.size+1) {s with heap:=s.heap.push {cls:=.type "list", dict:=none,data:=.seq ([]:List Value).toArray}} (upd H s.heap.objs.size (.lst [])) fp) [] (List.replicate Nl.length none++pj js σ) (upd H s.heap.objs.size (.lst [])) {s with heap:=h1,toks:=tk}:=by
 have fD:H s.heap.objs.size=none:=I.hok.fresh (w0g _);have up1:∀b u,s.heap.get? b=some u->(s.heap.push {cls:=.type "list", dict:=none,data:=.seq ([]:List Value).toArray}).get? b=some u:=fun b u q=>Heap.get?_push_of_some _ q
 have szp:(s.heap.push {cls:=.type "list", dict:=none,data:=.seq ([]:List Value).toArray}).objs.size=s.heap.objs.size+1:=Heap.size_push ..
 have up2:∀b u,(s.heap.push {cls:=.type "list", dict:=none,data:=.seq ([]:List Value).toArray}).get? b=some u->h1.get? b=some u:=fun b u q=>by
  have hlt:=Heap.lt_size q;rw[szp]at hlt;exact(hs.2 b (w0r hlt)).trans (Heap.get?_push_of_some _ q)
 have up:∀b u,s.heap.get? b=some u->h1.get? b=some u:=fun b u q=>up2 b u (up1 b u q)
 have ltOf:∀b o,s.heap.get? b=some o->b≠s.heap.objs.size:=fun b o q=>w0r (Heap.lt_size q)
 have fr0:∀b o,s.heap.get? b=some o->H b=none->upd H s.heap.objs.size (.lst []) b=none:=fun b o q n=>by rw[q0d (ltOf b o q)];exact n
 have hasC:∀x,((relabel scope X.env).names.lookup x=some .cell\/(relabel scope X.env).names.lookup x=some .free)->∃c,cl.lookup x=some c:=fun x hx=>hcf x (q8a hcell hx)
 have hokD:HOk X.prog X.w (upd H s.heap.objs.size (.lst [])) (s.heap.push {cls:=.type "list", dict:=none,data:=.seq ([]:List Value).toArray}):=
  I.hok.laid up1 (w0g _) ⟨w1f _,[],_,.nil,Heap.get?_push_size _ rfl⟩
 have cellK:∀x c,cl.lookup x=some c->∃v,s.heap.IsCell c v:=fun x c e=>I.cell x c (hcl x c e)
 have cellUp:∀c v,s.heap.IsCell c v->h1.IsCell c v:=fun c v ⟨o,q,r⟩=>⟨o,up _ _ q,r⟩
 refine⟨⟨I.ok.mod,hk,I.ok.glob,I.ok.blt,(by show(s.heap.push _).objs.size<=_;rw[szp];exact w0g _),fun x y c e1 e2=>I.ok.inj x y c (hcl x c e1) (hcl y c e2),fun x hx=>hasC x hx,(fun x c z=>nomatch z),I.ok.hd,I.ok.frames,.inl rfl,fun b hb=>⟨?_,fun x c e=>?_⟩,fun b o q=>?_,?_,fun b o q hb=>?_,fun b hb hb2=>?_,?_,fun b hb=>?_,(I.ok.tab.un I.base).laid fD⟩,
  rfl,I.bare,Un.kept up2,⟨mC,hn,fun i y v e1 e2 e3=>?_⟩,fun x c e=>?_,?_,fun x c e=>?_,fun p hp=>(by cases hp),hokD.kept up2,?_⟩
 ·obtain⟨o,q,_⟩:=hob b hb;exact w0r (w1s (Heap.lt_size q))
 ·exact(hfp b hb).2.2.2.2.1 x c (hcl x c e)
 ·obtain⟨q1,q2⟩:=I.bs b o q;exact⟨up1 _ _ q1,fr0 b o q1 q2⟩
 ·show X.base.objs.size<=(s.heap.push _).objs.size;rw[szp];exact Nat.le_succ_of_le (w0z I.ok.bsz I.sz)
 ·rcases(hfp b hb).2.2.2.1 with z|z
  ·exact I.ok.noex b o q z
  ·obtain⟨q1,_⟩:=I.ok.bs b o q;exact absurd (Heap.lt_size q1) (w3y.mpr z)
 ·rcases w0i.mp (I.stkSub b hb2)with z|z
  ·exact(hfp b hb).2.1 z
  ·exact(hfp b hb).2.2.1 z
 ·exact I.stack.of_keeps fun b o q _=>⟨o,up1 _ _ q,rfl⟩
 ·obtain⟨_,o,q,_⟩:=I.stack.mem hb;exact fr0 b o q (I.stkFree b hb)
 ·-- the names
  have e2':(List.replicate Nl.length none++pj js σ)[i]?=some (some v):=e2;have e1':(Nl++Nf)[i]?=some y:=e1
  by_cases hi:i<Nl.length
  ·rw[w0u (by simpa using hi),w2l]at e2';split at e2'<;>cases e2'
  ·have hi':Nl.length<=i:=w3y.mp hi;rw[w0y (by simpa using hi')]at e2';rw[w0y hi']at e1';rw[w2p]at e2';obtain⟨j,ej,eσ⟩:=y8r e2';have hNy:=hj _ _ _ e1' ej;obtain⟨hfr,hv,hnl⟩:=hNf y (w1a e1');obtain⟨m,hm,hl⟩:=I.loc;obtain⟨u,r,l⟩:=hl j y v hNy eσ hv;refine⟨u,r,?_⟩;rcases l with⟨k,_⟩|⟨k,c,ec,z⟩
   ·exact absurd k hnl
   ·obtain⟨c',ec'⟩:=hcf y hfr;have:=hcl y c' ec';rw[ec]at this;cases this;exact .inr ⟨hvis y (w1a e1'),c,ec',cellUp _ _ z⟩
 ·obtain⟨v,z⟩:=cellK x c e;exact⟨v,cellUp _ _ z⟩
 ·show upd H s.heap.objs.size (.lst []) (s.heap.objs.size+1)=none;rw[q0d (Nat.succ_ne_self _)];exact I.hok.fresh (w3r _)
 ·obtain⟨v,o,q,_⟩:=cellK x c e;exact fr0 c o q (I.freeC x c (hcl x c e))
 ·show(List.replicate Nl.length none++pj js σ).length=(Nl++Nf).length;rw[w0h,w0h,w2p];unfold pj;rw[w0d,hlen]
theorem x89{σ':St}{s':Shared}{Nc:List Str}{fp:List Addr}{cl:List (Str×Addr)}{h':Heap}
  (I:Inv X pins σ H s)(hfp:∀b∈fp,FpOk X pins H b)
  (J:Inv (X.cp Nc scope cl (s.heap.objs.size+1) {s with heap:=s.heap.push {cls:=.type "list", dict:=none,data:=.seq ([]:List Value).toArray}} (upd H s.heap.objs.size (.lst [])) fp) [] σ' H' s')
  (hs:Heap.SameBut (s.heap.objs.size+1) s'.heap h'):Inv X pins σ H' {s' with heap:=h'}:=by
 have fD:H s.heap.objs.size=none:=I.hok.fresh (w0g _);have up1:∀b u,s.heap.get? b=some u->(s.heap.push {cls:=.type "list", dict:=none,data:=.seq ([]:List Value).toArray}).get? b=some u:=fun b u q=>Heap.get?_push_of_some _ q
 have neC:∀b o,s.heap.get? b=some o->b≠s.heap.objs.size+1:=fun b o q=>w0r (w1s (Heap.lt_size q))
 have fr0:∀b o,s.heap.get? b=some o->H b=none->upd H s.heap.objs.size (.lst []) b=none:=fun b o q n=>by rw[q0d (w0r (Heap.lt_size q))];exact n
 have old:∀b u,H b=some u->upd H s.heap.objs.size (.lst []) b=some u:=fun b u q=>by rw[q0d (q0q q fD)];exact q
 have B:Un (frs X.stack) fp (upd H s.heap.objs.size (.lst [])) H' (s.heap.push {cls:=.type "list", dict:=none,data:=.seq ([]:List Value).toArray}) s'.heap:=J.base;have hC:H' (s.heap.objs.size+1)=none:=J.free;refine I.call' (s':={s' with heap:=h'}) (ch:=fp) (J.os.trans rfl) ⟨fun b o q n hb hx=>?_,fun b o q n hb hx=>?_,fun b o q n hx=>B.free b o (up1 _ _ q) (fr0 b o q n) hx,fun b o q hx=>?_,fun b xs q=>B.tups b xs (old _ _ q),fun b o u q=>B.frzs b o u (old _ _ q),fun b ps q=>B.tbls b ps (old _ _ q)⟩ (fun a o q=>?_) J.bare fun b hb=>?_
 ·exact(hs.2 b (neC b o q)).trans (B.keep b o (up1 _ _ q) (fr0 b o q n) hb hx)
 ·obtain⟨sl,z⟩:=B.slot b o (up1 _ _ q) (fr0 b o q n) hb hx;exact⟨sl,(hs.2 b (neC b o q)).trans z⟩
 ·obtain⟨o',z⟩:=B.there b o (up1 _ _ q) hx;exact⟨o',(hs.2 b (neC b o q)).trans z⟩
 ·refine(J.hok a o q).stay (fun c v hc z=>(hs.2 c ?_).trans z) (fun _ z=>z) fun _ _ _ z=>z
  rintro rfl;rcases hc with rfl|hc
  ·rw[hC]at q;cases q
  ·rw[hC]at hc;cases hc
 ·obtain⟨_,f1,f2,f3,f4,f5⟩:=hfp b hb;exact⟨f3,f1,f4,f5⟩
theorem y4x{Nl Nf:List Str}(hc:X.calm=true)(hi:PI X target iter wi)
  (hk:scope.kind=.function)(hcell:∀y∈scope.names,y.2≠.cell)(hnames:∀x∈scope.names,x.2=.local->scope.names.lookup x.1=some .local)
  (hfree:∀x∈scope.names,x.2=.free->X.env.kindOf x.1=some .cell\/X.env.kindOf x.1=some .free)
  (hj:∀(i j:Nat) y,Nf[i]?=some y->js[i]?=some j->X.N[j]?=some y)(hlen:js.length=Nf.length)
  (hNf:∀y∈Nf,(y,NameKind.free)∈scope.names/\Vis X.env.scope y/\X.env.kindOf y≠some .local)
  (hvis:∀y∈Nf,(relabel scope X.env).names.lookup y=some .cell\/(relabel scope X.env).names.lookup y=some .free)
  (hg:∀cl C s₀ H₀ ex,PG (X.cp (Nl++Nf) scope cl C s₀ H₀ ex) target g)(ht:∀cl C s₀ H₀ ex,PTs (X.cp (Nl++Nf) scope cl C s₀ H₀ ex) ifs tc)(he:∀cl C s₀ H₀ ex,PE (X.cp (Nl++Nf) scope cl C s₀ H₀ ex) elt te)
  (hs:∀x,foldedSetIterable iter X.env x=pure x:=by intro _;rfl):
  PE X (.ListComp elt [⟨target,iter,ifs,0⟩] scope pos) (tComp wi Nl.length js g tc te):=by
 intro pins s σ H Q I h;obtain⟨cl,hclos,hcl,hcf⟩:=q5z (scope:=scope) (env:=X.env) fun x hx hf=>I.ok.has x.1 (hfree x hx hf)
 rw[eval_ListComp];refine wpAny_comprehension_free (use:=none) rfl hs hclos hk hnames (thn (hi pins s σ H _ I h) fun v s1 h1=>thn h1 fun itv s2 h2=>?_)
 obtain⟨it,fp,tn,J,H2,e,I2,T,st2,f2,rd⟩:=h2;subst e;refine wpAny_newObj_type (wpAny_newFunctionEnv hcell (by intro y hy;simp at hy) (fun h₁ hns₁ hsb₁=>?_) hk)
 dsimp only at hns₁ hsb₁ |-
 have szp:(s2.heap.push {cls:=.type "list", dict:=none,data:=.seq ([]:List Value).toArray}).objs.size=s2.heap.objs.size+1:=Heap.size_push ..;rw[szp]at hns₁ hsb₁ |-
 have fD:H2 s2.heap.objs.size=none:=I2.hok.fresh (w0g _);obtain⟨W,⟨m0,w0⟩,turn⟩:=rd s2.heap.objs.size fD;have obj2:=T.obj 0 s2.heap st2;have IS:=x4b (Nl:=Nl) (Nf:=Nf) (js:=js) (cl:=cl) (tk:=s2.toks+([]:List (Str×Value)).length) I2 f2 obj2 hk hcell hcl hcf hj hlen hNf hvis hns₁ hsb₁
 have upS:∀b u,s2.heap.get? b=some u->h₁.get? b=some u:=fun b u q=>by
  have hlt:=Heap.lt_size q;exact(hsb₁.2 b (w0r (w1s hlt))).trans (Heap.get?_push_of_some _ (Heap.get?_push_of_some _ q))
 have stS:tn 0 h₁:=T.keep 0 s2.heap h₁ st2 fun b hb o q=>upS b o q
 have noD:∀b∈fp,upd H2 s2.heap.objs.size (.lst []) b=none:=fun b hb=>by
  obtain⟨o,q,_⟩:=obj2 b hb;rw[q0d (w0r (Heap.lt_size q))];exact(f2 b hb).1
 have stat:∀{H':Hp},(∀b∈fp,H' b=none)->∀b∈fp,FpOk (X.cp (Nl++Nf) scope cl (s2.heap.objs.size+1) {s2 with heap:=s2.heap.push {cls:=.type "list", dict:=none,data:=.seq ([]:List Value).toArray}} (upd H2 s2.heap.objs.size (.lst [])) fp) [] H' b:=fun hn b hb=>by
  refine⟨hn b hb,(IS.ok.exf b hb).1,IS.ok.exfs b hb,.inl hb,(IS.ok.exf b hb).2,fun p hp=>(by cases hp)⟩
 have loop:∀s4:Shared,s4={s2 with heap:=h₁,toks:=s2.toks+([]:List (Str×Value)).length} ->
   codeAny (model X.prog X.w) X.A (.compLoop (.ListComp elt [⟨target,iter,ifs,0⟩] scope pos) 0 (.ref it) (.ref s2.heap.objs.size) (compEnvC scope cl (s2.heap.objs.size+1) X.env))
    (compPost (model X.prog X.w) X.A X.xe none (EP X pins σ Q) (.ref s2.heap.objs.size) (s2.heap.objs.size+1)) s4:=by
  rintro s4 rfl;refine x2t (fun n s'=>∃i H',Inv (X.cp (Nl++Nf) scope cl (s2.heap.objs.size+1) {s2 with heap:=s2.heap.push {cls:=.type "list", dict:=none,data:=.seq ([]:List Value).toArray}} (upd H2 s2.heap.objs.size (.lst [])) fp) [] (List.replicate Nl.length none++pj js σ) H' s'/\tn i s'.heap/\(∀b∈fp,H' b=none)/\W i n H') ?_ m0 ⟨0,_,IS,stS,noD,w0⟩
  rintro n s3 ⟨i,H3,I3,st3,fr3,w3⟩;rcases turn i n H3 w3 with⟨stop,qn⟩|⟨go,step⟩
  ·refine thn (T.done (X.cp (Nl++Nf) scope cl (s2.heap.objs.size+1) {s2 with heap:=s2.heap.push {cls:=.type "list", dict:=none,data:=.seq ([]:List Value).toArray}} (upd H2 s2.heap.objs.size (.lst [])) fp) rfl rfl rfl hc i [] s3 _ H3 _ I3 (stat fr3) st3 stop) fun r s5 ⟨hr,I5⟩=>?_
   subst hr;obtain⟨m5,hn5,_⟩:=I5.loc;refine⟨m5,hn5,fun h' hs'=>⟨.ref s2.heap.objs.size,H3,x89 I2 f2 I5 hs',rfl,qn⟩⟩
  ·refine thn (T.item (X.cp (Nl++Nf) scope cl (s2.heap.objs.size+1) {s2 with heap:=s2.heap.push {cls:=.type "list", dict:=none,data:=.seq ([]:List Value).toArray}} (upd H2 s2.heap.objs.size (.lst [])) fp) rfl rfl rfl hc i [] s3 _ H3 _ I3 (stat fr3) st3 go) fun r s5 ⟨u,hr,h5⟩=>?_
   subst hr;refine thn h5 fun _ s6 ⟨x,H6,I6,r6,y6,st6,fr6⟩=>?_
   have I6':=I6.pinned (stat fr6) (T.obj _ _ st6);refine thn (hg _ _ _ _ _ _ s6 _ H6 x u _ I6' r6 (step x H6 y6)) fun _ s7 ⟨σ7,H7,I7,kp,q7⟩=>?_
   refine thn (ht _ _ _ _ _ _ s7 σ7 H7 _ I7 q7) fun ok s8 ⟨H8,I8,q8⟩=>?_
   have again:∀{σ9:St}{H9:Hp}{s9:Shared},Inv (X.cp (Nl++Nf) scope cl (s2.heap.objs.size+1) {s2 with heap:=s2.heap.push {cls:=.type "list", dict:=none,data:=.seq ([]:List Value).toArray}} (upd H2 s2.heap.objs.size (.lst [])) fp) ([]++pinsAt fp s6.heap) σ9 H9 s9 ->
     Kp (List.replicate Nl.length none++pj js σ) σ9->(∃m',m'<n/\W (i+1) m' H9)->∃m,m<n/\∃i H',Inv (X.cp (Nl++Nf) scope cl (s2.heap.objs.size+1) {s2 with heap:=s2.heap.push {cls:=.type "list", dict:=none,data:=.seq ([]:List Value).toArray}} (upd H2 s2.heap.objs.size (.lst [])) fp) [] (List.replicate Nl.length none++pj js σ) H' s9/\tn i s9.heap/\(∀b∈fp,H' b=none)/\W i m H':=fun {σ9 H9 s9} I9 hw ⟨m',hm,w9⟩=>by
    refine⟨m',hm,i+1,H9,I9.unpinned.weak (by rw[I9.len,<- IS.len]) hw,T.keep _ _ _ st6 fun b hb o q=>(I9.pin (b,o) (w0k _ (w0k _ (q3t hb q)))).1,fun b hb=>?_,w9⟩
    obtain⟨o,q,d⟩:=T.obj _ _ st6 b hb;exact(I9.pin (b,o) (w0k _ (w0k _ (q3t hb q)))).2.1
   cases ok with
   |false=>exact again I8 kp (by simpa using q8)
   |true=>
    have q8':=by simpa only[if_true]using q8
    refine thn (he _ _ _ _ _ _ s8 σ7 H8 _ I8 q8') fun y s9 ⟨yv,H9,I9,r9,ys,hD,hz,q9⟩=>?_
    refine thn (q78 _ s9 σ7 H9 (.ref s2.heap.objs.size) [yv] (.ref s2.heap.objs.size) [y] (fun v H'=>v=.non/\H'=upd H9 s2.heap.objs.size (.lst (ys++[yv]))) I9 rfl (.cons r9 .nil) ⟨_,ys,yv,rfl,rfl,hD,hz,rfl,rfl⟩) fun _ s10 ⟨_,H10,I10,_,_,e10⟩=>?_
    subst e10;exact again I10 kp q9
 exact codeAny_compStart_list (loop _ rfl) (T.self X.A 0 _ _ _ stS (loop _ rfl))
end
theorem q57{env:Env}:∀{names:List (Str×NameKind)}{x:Str},names.lookup x=some .free ->
  (names.map fun(n,k)=>if(k==NameKind.free&&env.scope.kind==.function&&env.kindOf n==some .cell)then(n,NameKind.cell)else(n,k)).lookup x=some .cell \/
  (names.map fun(n,k)=>if(k==NameKind.free&&env.scope.kind==.function&&env.kindOf n==some .cell)then(n,NameKind.cell)else(n,k)).lookup x=some .free
 |[],x,h=>by cases h
 |(n,k)::r,x,h=>by
  have ih:=@q57 env r x;rw[w0v];dsimp only
  by_cases hx:(x==n)=true
  ·simp only[w0w,hx]at h;cases h
   by_cases hq:(NameKind.free==NameKind.free&&env.scope.kind==.function&&env.kindOf n==some .cell)=true
   ·rw[if_pos hq];left;simp[w0w,hx]
   ·rw[if_neg hq];right;simp[w0w,hx]
  ·have hb:(x==n)=false:=w1o.mpr hx;simp only[w0w,hb]at h;have z:=ih h
   by_cases hq:(k==NameKind.free&&env.scope.kind==.function&&env.kindOf n==some .cell)=true
   ·rw[if_pos hq];simpa only[w0w,hb]using z
   ·rw[if_neg hq];simpa only[w0w,hb]using z
noncomputable def compOk(sc scope:Scope)(N Nf:List Str)(js:List Nat):Bool:=
 scope.kind==.function&&scope.names.all (fun y=>y.2 != .cell)&&scope.names.all (fun y=>y.2 != .local||scope.names.lookup y.1==some .local) &&
 scope.names.all (fun y=>y.2 != .free||sc.names.lookup y.1==some .cell||sc.names.lookup y.1==some .free)&&js.length==Nf.length &&
 (List.range js.length).all (fun i=>match js[i]?,Nf[i]? with|some j,some y=>N[j]?==some y|_,_=>true) &&
 Nf.all (fun y=>scope.names.lookup y==some .free&&(sc.names.lookup y==some .cell||sc.names.lookup y==some .free))
theorem q90{elt target iter:Expr}{scope sc:Scope}{wi:TI}{g:TG}{tc:TT}{Nl Nf:List Str}(hc:X.calm=true)(hi:PI X target iter wi)
  (ok:compOk sc scope N Nf js=true)
  (hg:∀cl C s₀ H₀ ex,PG (X.cp (Nl++Nf) scope cl C s₀ H₀ ex) target g)(ht:∀cl C s₀ H₀ ex,PTs (X.cp (Nl++Nf) scope cl C s₀ H₀ ex) ifs tc)(he:∀cl C s₀ H₀ ex,PE (X.cp (Nl++Nf) scope cl C s₀ H₀ ex) elt te)
  (hsc:X.env.scope=sc:=by rfl)(hN:X.N=N:=by rfl)(hs:∀x,foldedSetIterable iter X.env x=pure x:=by intro _;rfl):
  PE X (.ListComp elt [⟨target,iter,ifs,0⟩] scope pos) (tComp wi Nl.length js g tc te):=by
 unfold compOk at ok;simp only[w0t,w1c,beq_iff_eq,bne_iff_ne,w3k,w1i]at ok;obtain⟨⟨⟨⟨⟨⟨k1,k2⟩,k3⟩,k4⟩,k5⟩,k6⟩,k7⟩:=ok;have kind:∀x,X.env.kindOf x=sc.names.lookup x:=fun x=>by rw[<- hsc];rfl
 refine y4x hc hi k1 k2 (fun x hx hl=>(k3 x hx).resolve_left fun z=>z hl) (fun x hx hf=>?_) (fun i j y e1 e2=>?_) k5 (fun y hy=>?_) (fun y hy=>?_) hg ht he hs
 ·rw[kind];rcases k4 x hx with(z|z)|z
  ·exact absurd hf z
  ·exact .inl z
  ·exact .inr z
 ·have hlt:i<js.length:=(w0a.mp e2).1;have z:=k6 i hlt;rw[e1,e2]at z;rw[hN]
  simpa using z
 ·obtain⟨z1,z2⟩:=k7 y hy;refine⟨PySem.mem_of_lookup z1,?_,?_⟩
  ·rw[hsc];rcases z2 with z|z
   ·exact .inr (.inl z)
   ·exact .inr (.inr z)
  ·rw[kind];rcases z2 with z|z<;>(rw[z];decide)
 ·exact q57 (k7 y hy).1
abbrev TF:=Str->St->Hp->(Str->Hp->Prop)->Prop
def PF(X:Cx)(es:List Expr)(t:TF):Prop:=∀(acc:Str)(pins:List (Addr×Obj))(s:Shared)(σ:St)(H:Hp)(Q:Str->Hp->Prop),Inv X pins σ H s->t acc σ H Q ->
 Joins (model X.prog X.w) X.A X.xe (evalEach es X.env) acc (fun out s'=>out.length<=sizeLine/\∃H',Inv X pins σ H' s'/\Q out H') s
theorem y1l(hc:X.calm=true):CallR X (.builtin "all") (fun xs H Q=>∃p ys,xs=[.ref p]/\SqL X.K H p ys/\(∀y∈ys,∃b,y=.bl b)/\Q (.bl (ys.all fun y=>decide (y=.bl true))) H):=by
 intro pins s σ H xs us Q I r h;obtain⟨p,ys,rfl,hq,hb,q⟩:=h;obtain⟨u,rfl,rx⟩:=vals1 r;cases rx;obtain⟨its,r',pl,hz⟩:=I.list hq;have hl:=pl.isList;have hlt:p<s.heap.objs.size:=by obtain⟨_,e,_⟩:=hl;exact Heap.lt_size e
 have hh:X.A.in1.handled=none:=I.ok.hd hc;refine call_all_walk (wpAny_pyIter_list hl ⟨s.heap.objs.size,[s.heap.objs.size,p],[s.heap.objs.size],_,_,_,fun i=>decide (ys[i]?=some (.bl true)),rfl,Walks.list hh s.heap.objs.size p (w0r hlt) its.toArray,⟨⟨_,Heap.get?_push_size _ rfl,rfl,rfl⟩,hl.push _⟩,?_,fun h' tk kp=>?_⟩)
 ·intro i v s1 Q1 E1 hv hQ;have hv':its[i]?=some v:=by simpa using hv
  have hi:i<ys.length:=by rw[r'.length];exact(w0a.mp hv').1
  obtain⟨u,hu,ru⟩:=r'.get (w0b hi);rw[hv']at hu;cases hu;obtain⟨b,eb⟩:=hb ys[i] (w1r hi);rw[eb]at ru;cases ru;refine wpAny_truthy_bool ?_
  have e:decide (ys[i]?=some (V.bl true))=b:=by
   rw[w0b hi,eb];cases b<;>simp
  rw[<- e];exact hQ
 ·have e:(List.range its.toArray.size).all (fun i=>decide (ys[i]?=some (V.bl true)))=ys.all fun y=>decide (y=.bl true):=by
   rw[w1b,w1c,w1c];constructor
   ·intro hA y hy;obtain⟨i,hi,rfl⟩:=List.getElem_of_mem hy;have z:=hA i (by rw[w1i,w0e,<- r'.length];exact hi);rw[w0b hi]at z
    simpa using z
   ·intro hA i hi;rw[w1i,w0e,<- r'.length]at hi;have z:=hA ys[i] (w1r hi);rw[w0b hi]
    simpa using z
  refine⟨.bl _,H,I.kept (t':=tk) fun b o hbo=>kp b o (fun z=>?_) (Heap.get?_push_of_some _ hbo),rfl,e ▸ q⟩
  rw[w0m]at z;exact absurd (Heap.lt_size hbo) (by rw[z];exact w1j _)
namespace RevT
open AutoSeq1 (wpAny_loadPart')
end RevT
open PySem PySem.Spec PyProof.Rows
variable{c f:Addr}{A:Around}{X:Cx}{e:Expr}{h:Heap}{H H':Hp}{EE:L2.St->XK}{es:List Expr}{ps:List Str}{p pos:Pos}{P:Program}{K:PySem.W.Frag}{s:Shared}{x:Str}{w:World}
structure ExcCls(K:PySem.W.Frag)(D:Addr):Prop where
 ga:findIn K (.ref D) "__getattribute__"=some (some (.builtin "BaseException.__getattribute__"))
 gt:findIn K (.ref D) "__getattr__"=some none
 cl:findIn K (.ref D) "__class__"=some (some (.builtin "object.__class__"))
 gs:specialIn K (.builtin "object.__class__") "__get__"=some (some (.builtin "getset_descriptor.__get__"))
 tk:takesIn K (.builtin "object.__class__")=some true
 mo:PySem.W.mroIn K D (.type "object")=some true
 mb:PySem.W.mroIn K D (.type "BaseException")=some true
 cd:(PySem.W.clsIn K D).isSome=true
noncomputable def excClsIn(K:PySem.W.Frag)(D:Addr):Bool:=
 findIn K (.ref D) "__getattribute__"==some (some (.builtin "BaseException.__getattribute__"))&&findIn K (.ref D) "__getattr__"==some none &&
 findIn K (.ref D) "__class__"==some (some (.builtin "object.__class__"))&&specialIn K (.builtin "object.__class__") "__get__"==some (some (.builtin "getset_descriptor.__get__")) &&
 takesIn K (.builtin "object.__class__")==some true&&PySem.W.mroIn K D (.type "object")==some true&&PySem.W.mroIn K D (.type "BaseException")==some true&&(PySem.W.clsIn K D).isSome
theorem ExcCls.of{D:Addr}(h:excClsIn K D=true):ExcCls K D:=by
 unfold excClsIn at h;simp only[w0t,beq_iff_eq]at h;obtain⟨⟨⟨⟨⟨⟨⟨h1,h2⟩,h3⟩,h4⟩,h5⟩,h6⟩,h7⟩,h8⟩:=h;exact⟨h1,h2,h3,h4,h5,h6,h7,h8⟩
def ExcAt(e D:Addr)(h:Heap):Prop:=∃o vs,h.get? e=some o/\o.cls=.ref D/\o.data=.fields vs
section
variable{prog:Program}{E:Value->Shared->Prop}{e D:Addr}
open PySem.W Builtin Builtin.ObjectAttr Builtin.Getset_descriptor
theorem x0v{M:Model}(p:ExcAt e D h):Looks M h (typeOf (.ref e)) (.ref D):=by
 obtain⟨o,vs,h1,h2,h3⟩:=p;exact h2 ▸ (Looks.ld h1).andThen .now
theorem y1m{M:Model}(X:K.In h)(C:ExcCls K D):Looks M h (find (.ref e) (.ref D) "__class__") (.bind (.builtin "getset_descriptor.__get__") (.builtin "object.__class__")):=by
 have L1:=looks_findIn (M:=M) X C.cl;have L2:Looks M h (getOf (some (.builtin "object.__class__"))) (some (.builtin "getset_descriptor.__get__")):=looks_specialIn X C.gs;have L3:=looks_takesIn (M:=M) X C.tk;refine L1.andThen (L2.andThen ?_);exact(show Looks M h (dataDescriptor? (some (.builtin "object.__class__")) (some (.builtin "getset_descriptor.__get__"))) (some (.builtin "getset_descriptor.__get__", .builtin "object.__class__"))from L3.andThen .now).andThen (Looks.tag .now)
theorem y4y{tp:Value}{R:Result->Shared->Prop}(X:K.In s.heap)(p:ExcAt e D s.heap)(hm:mroIn K D (.type "object")=some true)
  (h:R (.ok (.ret (.ref D))) s):codeAny (model prog w) A (.call (.builtin "getset_descriptor.__get__") ⟨[.builtin "object.__class__", .ref e,tp],[]⟩) R s:=by
 obtain⟨hh,g,dr,t,os⟩:=s;have L0:=x0v (M:=model prog w) p;have L1:=looks_mroIn (M:=model prog w) X hm;refine codeAny_call_builtin KF.slot_gs.plain KF.entry_gs (KF.slot_gs.check _ _ _ _ _ _ _ _ KF.type_class (KF.args_gs _ _ _) ?_);unfold Builtin.«getset_descriptor.__get__» descrGet;rw[dga_obj];refine wpAny_bind (wpAny_pure ?_);unfold descrGetter descrCheckInstance descrNameAndClass isInstance;simp only[KF.owner_class]
 repeat lk
 refine⟨Code.quiet_builtin _ (by decide +kernel),codeAny_builtin KF.entry_class ?_⟩;unfold Builtin.«object.__class__» shownTypeOf
 repeat lk
 exact h
theorem x9a{M:Model}{nameV:Value}{Q:Unit->Shared->Prop}{g:Array GenState}{d:Drawn}{t:Nat}{os:OsState}(X:K.In h)(p:ExcAt e D h)(hm:mroIn K D (.type "BaseException")=some true)(hq:Q () ⟨h,g,d,t,os⟩):
  wpAny M A (checkBuiltinCall "BaseException.__getattribute__" ⟨[.ref e,nameV],[]⟩) Q E ⟨h,g,d,t,os⟩:=by
 have hk:builtinKind "BaseException.__getattribute__"=some .slot:=by decide +kernel
 have hsplit:splitId "BaseException.__getattribute__"=some ("BaseException", "__getattribute__"):=by decide +kernel
 have L0:=x0v (M:=M) p;have L1:=looks_mroIn (M:=M) X hm;have LI:Looks M h (isInstance (.ref e) (.type "BaseException")) true:=L0.andThen L1;have ha:=PySem.F.args_bexc_ga (.ref e) nameV;simp only[checkBuiltinCall,hk,hsplit];refine wpAny_bind (LI.at ?_);rw[if_neg (by decide)];unfold argsOk at ha;split
 ·rename_i sig hs;rw[hs]at ha;exact wpAny_of_eq ha hq
 ·exact wpAny_pure hq
theorem x9b{Q:Option Value->Shared->Prop}(X:K.In s.heap)(p:ExcAt e D s.heap)(C:ExcCls K D)(h:Q (some (.ref D)) {s with toks:=s.toks+1}):wpAny (model prog w) A (getAttr? (.ref e) "__class__") Q E s:=by
 obtain⟨hh,g,d,t,os⟩:=s;have L0:=x0v (M:=model prog w) p;have L1:=looks_findIn (M:=model prog w) X C.ga;have L2:=looks_findIn (M:=model prog w) X C.gt;have L3:=y1m (M:=model prog w) (e:=e) X C;unfold getAttr? getAttrBy? getAttrBy;refine wpAny_bind (wpAny_mkText (wpAny_bind (wpAny_attempt (wpAny_holding (wpAny_bind (L0.at (wpAny_bind (L1.at ?_))))))));have hx2:(Value.builtin "BaseException.__getattribute__"==Value.builtin "object.__getattribute__")=false:=by decide +kernel
 have hx1:(onTheHeap (Value.ref D)&&Value.builtin "BaseException.__getattribute__"==Value.builtin "object.__getattribute__")=false:=by rw[hx2];rfl
 dsimp only;rw[if_neg (by rw[hx1];decide)];unfold getAttrByItsOwn hookBefore;rw[if_pos (by rfl)];refine wpAny_bind (L2.at ?_);refine wpAny_bind (wpAny_attempt (wpAny_holding ?_));unfold callGetattribute;rw[if_neg (by decide)];unfold boundAndCalled;have f3:=PySem.F.excAttr_ValueError.ga.bind (.ref e);refine wpAny_bind (wpAny_of_eq f3 ?_);refine wpAny_call (codeAny_call_builtin PySem.F.excAttr_ValueError.ga.plain F.entry_bexc_ga (x9a (K:=K) (D:=D) X p C.mb ?_));unfold Builtin.«object.__getattribute__»;refine wpAny_bind (wpAny_of_eq (a:=(Value.ref e,[Value.str (Str.ofString "__class__") t])) (by rfl) ?_);dsimp only;refine wpAny_bind (wpAny_of_eq (a:=Str.ofString "__class__") (by rfl) ?_);refine wpAny_bind (L0.at (wpAny_bind (L3.at ?_)));dsimp only;unfold bindTo;refine wpAny_bind (wpAny_holding (wpAny_call (y4y (K:=K) (D:=D) X p C.mo ?_)));dsimp only;refine wpAny_pure ?_;dsimp only;refine wpAny_of_eq (a:=Value.ref D) (by rfl) ?_;exact wpAny_pure h
theorem y1n(C:ExcCls K D):KitX K (.ref e) (.ref D) (ExcAt e D) where
 ty:=fun _ _ _ p=>x0v p
 it:=fun M h X p=>by
  have hcD:=C.cd;unfold clsIn at hcD;split at hcD
  ·rename_i c' d' cd' sl' ho;intro A' Q' E' s' k q;unfold isType loadHead;exact wpAny_bind (wpAny_loadPart (k _ _ (X _ _ ho)) (wpAny_pure q))
  ·cases hcD
 ne:=fun h tp dd its n sl X htp=>by
  refine w1o.mpr fun q=>?_
  have e1:D=tp:=Value.ref.inj (beq_iff_eq.mp q);subst e1;have hcD:=C.cd;unfold clsIn at hcD;split at hcD
  ·rename_i c' d' cd' sl' ho;have z:=(X _ _ ho).symm.trans htp;cases z
  ·cases hcD
 ca:=fun X p k=>x9b X p C k
end
def ClsV:V->Value->Prop
 |.ty n,c=>c=.type n
 |.ref a,c=>c=.ref a
 |_,_=>False
structure Cal(P:Program)(w:World)(K:PySem.W.Frag)(mg:Str->Option Value)(base:Heap)(k:Nat)(x:Str)(ps:List Str)(sp:Sp):Prop where
 ex:∃f fd,FnOk P w K mg base (CX1 P w) k f fd ps sp/\mg x=some (.ref f)/\keepIn K (.ref f)=true/\Binds K fd ps []
structure CalH(P:Program)(w:World)(K:PySem.W.Frag)(mg:Str->Option Value)(base:Heap)(k:Nat)(x:Str)(ps:List Str)(sp:Sp):Prop where
 ex:∃f fd,FnOkH P w K mg base k f fd ps sp/\mg x=some (.ref f)/\keepIn K (.ref f)=true/\Binds K fd ps []
structure At(K:PySem.W.Frag)(mg:Str->Option Value)(x:Str)(st:Stmt)(ps:List Str):Prop where
 ex:∃f fd,Fun K x x st f fd/\mg x=some (.ref f)/\Binds K fd ps []
section
variable{mg:Str->Option Value}{base:Heap}
theorem At.cal{st:Stmt}{N:List Str}{k:Nat}{sp:Sp}(F:At K mg x st ps)(S:FnScope N ps (defScope st))(len:∀vs H Q E,sp vs H Q E->vs.length=ps.length)
  (hbody:∀(f:Addr)(cdv:Value)(A:Around)(outer:List Env)(s:Shared)(H:Hp)(vs:List V)(Q:VK)(E:XK),Room k (A.deeper (envOfC x (defScope st) s.heap.objs.size f cdv))->sp vs H Q E ->
   ∃t,PSs (cxOf (CX1 P w) P w K mg base N x (defScope st) f cdv A outer s H E) (defBody st) t/\t {nx:=fun _ H'=>Q .non H',rt:=Q} (start N vs) H):Cal P w K mg base (k+1) x ps sp:=by
 obtain⟨f,fd,F,m,b⟩:=F.ex;exact⟨f,fd,F.okX S len (hbody f),m,F.kp,b⟩
end
section
variable{k:Nat}{sp:Sp}{t:TA}
theorem q6x(C:Cal X.prog X.w X.K X.mg X.base k x ps sp)(hr:Room k X.A)(hx:PassX (CX1 X.prog X.w) X EE)(ha:PA X (e::es) t)(hg:Gl X x:=by rfl)
  (hdb:(x==("__debug__":Str))=false:=by decide)(he:starEach (e::es) X.env=(false,eval e X.env)::starEach es X.env:=by rfl)(hpl:(backTo pos (starEach es X.env)).any (·.1)=false:=by rfl):
  PE X (.Call (.Name x p) (e::es) [] pos) (tCallX sp [] EE t):=by
 obtain⟨f,fd,F,m,kp,b⟩:=C.ex;exact y1k F hr hg m kp b .nil hx ha hdb he hpl
end
section
variable{te:TE}{t:TA}{pos':Pos}
theorem q6n(i:Nat)(hN:X.N.Nodup)(he:PE X e te)(hi:X.N[i]?=some x:=by rfl)(hx:Loc X.env.scope x:=by walk_at "3")(hs:swapsWith e (some (.Name x pos')) pos.line X.env=pure false:=by rfl)(hf:X.fn x=true\/X.env.scope.names.lookup x=some .local:=by walk_at "2"):
  PS X (.Assign [.Name x pos'] e pos) (tAsg te (gName i)):=y8f hN hi hx he hs hf
theorem q4c(i:Nat)(hN:X.N.Nodup)(hi:X.N[i]?=some x:=by rfl)(hx:Loc X.env.scope x:=by walk_at "3")(hf:X.fn x=true\/X.env.scope.names.lookup x=some .local:=by walk_at "2"):PG X (.Name x pos) (gName i):=y4h hN hi hx hf
theorem q8b{o:Expr}{to:TE}{apos:Pos}(ho:PE X o to)(ha:PA X (e::es) t)(hbase:attributeBase o "append" X.env (eval o X.env)=eval o X.env:=by rfl)
  (hfew:((backTo pos (starEach (e::es) X.env)).all (fun x=>!x.1)&&(backToKw pos (keywordEach [] X.env)).all (fun x=>x.1.isSome)&&decide ((e::es).length+([]:List Keyword).length+(if([]:List Keyword).isEmpty then 0 else 1)<30))=true:=by rfl)
  (hline:(apos.endLine==pos.line)=true:=by rfl)(hs:starEach (e::es) X.env=(false,eval e X.env)::starEach es X.env:=by rfl)(hplain:(backTo pos (starEach es X.env)).any (·.1)=false:=by rfl):
  PE X (.Call (.Attribute o "append" apos) (e::es) [] pos) (tBM X.K "list" rAppend to t):=z1k PySem.F.plainAttrs_list PySem.F.slot_list_append PySem.F.type_list_append q78 ho ha hbase hfew hline hs hplain
theorem y8s{r:List V->Hp->VK->Prop}(hc:CallR X (.builtin "len") r)(hm:X.mg "len"=none)(ha:PA X (e::es) t)(hg:Gl X "len":=by rfl)(he:starEach (e::es) X.env=(false,eval e X.env)::starEach es X.env:=by rfl)(hpl:(backTo pos (starEach es X.env)).any (·.1)=false:=by rfl):
  PE X (.Call (.Name "len" p) (e::es) [] pos) (tCB r t):=q7m hc hg hm PySem.boot_len ha (by decide) (by decide) he hpl
end
theorem q2b{p:Addr}(h:H p=none)(o:HO):Same H (upd H p o):=fun b u q=>by rw[q0d (q0q q h)];exact q
theorem Same.tup{a:Addr}{xs:List V}(e:Same H H')(h:SqT K H a xs):SqT K H' a xs:=by
 rcases h with(h|⟨o,h⟩)|h
 ·exact .inl (.inl (e _ _ h))
 ·exact .inl (.inr ⟨o,e _ _ h⟩)
 ·exact .inr h
noncomputable abbrev rawO(o:Obj):HO:=.frz o (.own 0)
noncomputable abbrev fnO(o:Obj)(q:Str)(c:Addr):HO:=.frz o (.tbl #[.bool false,.str q 0,.ref c])
noncomputable abbrev celO(o:Obj):HO:=.frz o (.ext fun _=>True)
noncomputable abbrev Cs:=List (Addr×Obj)
variable{cs:Cs}
noncomputable def rmC(H:Hp)(cs:Cs):Hp:=fun b=>match cs.lookup b with
 |some _=>none
 |none=>H b
noncomputable def addC(H:Hp)(cs:Cs):Hp:=fun b=>match cs.lookup b with
 |some o=>some (celO o)
 |none=>H b
section
variable{b:Addr}{o:Obj}{u:HO}
theorem q8c(h:cs.lookup b=some o):rmC H cs b=none:=by unfold rmC;rw[h]
theorem q1x(h:cs.lookup b=none):rmC H cs b=H b:=by unfold rmC;rw[h]
theorem q29(h:cs.lookup b=some o):addC H cs b=some (celO o):=by unfold addC;rw[h]
theorem q0u(h:cs.lookup b=none):addC H cs b=H b:=by unfold addC;rw[h]
theorem q58(h:H b=none):rmC H cs b=none:=by unfold rmC;split<;>first|rfl|exact h
def CelsIn(H:Hp)(cs:Cs):Prop:=∀b o,cs.lookup b=some o->H b=some (celO o)
theorem CelsIn.out(c:CelsIn H cs)(h:H b=none):cs.lookup b=none:=by
 cases q:cs.lookup b with
 |none=>rfl
 |some o=>rw[c b o q]at h;cases h
theorem CelsIn.out'(c:CelsIn H cs)(h:H b=some u)(n:∀o,u≠celO o):cs.lookup b=none:=by
 cases q:cs.lookup b with
 |none=>rfl
 |some o=>rw[c b o q]at h;cases h;exact absurd rfl (n o)
theorem CelsIn.rm_some(c:CelsIn H cs)(h:H b=some u)(n:∀o,u≠celO o):rmC H cs b=some u:=by rw[q1x (c.out' h n)];exact h
theorem x7s(h:rmC H cs b=some u):H b=some u/\cs.lookup b=none:=by
 unfold rmC at h;split at h
 ·cases h
 ·rename_i q;exact⟨h,q⟩
theorem q9h(t:TupLike u):∀o,u≠celO o:=fun o z=>by subst z;exact t
end
section
variable{h':Heap}{fs ex:List Addr}
theorem HOk.rm(x:HOk P w H h)(c:CelsIn H cs):HOk P w (rmC H cs) h:=fun a u e=>by
 obtain⟨e1,_⟩:=x7s e;exact(x a u e1).stay (fun b v _ q=>q) (fun b q=>c.rm_some q fun o z=>nomatch z) fun b v t q=>c.rm_some q (q9h t)
theorem HOk.add(x:HOk P w H h)(hc:∀b o,cs.lookup b=some o->H b=none/\h.get? b=some o):HOk P w (addC H cs) h:=fun a u e=>by
 cases q:cs.lookup a with
 |some o=>
  rw[q29 q]at e;cases e;exact⟨(hc a o q).2,trivial,⟨o,(hc a o q).2⟩,fun _ _ _ _=>trivial⟩
 |none=>
  rw[q0u q]at e
  have out:∀b v,H b=some v->addC H cs b=some v:=fun b v z=>by
   cases q2:cs.lookup b with
   |some o=>rw[(hc b o q2).1]at z;cases z
   |none=>rw[q0u q2];exact z
  exact(x a u e).stay (fun b v _ q=>q) (fun b q=>out b _ q) fun b v t q=>out b v q
theorem y4z{o:Obj}{q:Str}(x:HOk P w H h)(e:H f=some (fnO o q c)):h.get? f=some o/\h.CodeRec (.ref c) q:=by
 obtain⟨h1,h2⟩:=(show h.get? f=some o/\ObjOk P w H h f (.tbl #[.bool false,.str q 0,.ref c])from x f _ e);refine⟨h1,?_⟩;rcases h2 with⟨_,_,p0,_⟩|⟨q',c',oc,ob,vs,t,_,p1,p2,h3,h4,h5,_⟩
 ·cases p0
 ·cases p1;cases p2;exact⟨c,oc,vs,t,rfl,(show h.get? c=some oc/\_ from x c _ h3).1,h4,h5⟩
theorem Un.cells(u:Un fs ex (rmC H cs) H' h h')(c:CelsIn H cs):Un fs ex H (addC H' cs) h h' where
 keep:=fun b o q n hb hx=>u.keep b o q (q58 n) hb hx
 slot:=fun b o q n hb hx=>u.slot b o q (q58 n) hb hx
 free:=fun b o q n hx=>by rw[q0u (c.out n)];exact u.free b o q (q58 n) hx
 there:=u.there
 tups:=fun b xs q=>by
  have z:=c.out' q fun o z=>nomatch z
  rw[q0u z];exact u.tups b xs (by rw[q1x z];exact q)
 frzs:=fun b o v q=>by
  cases z:cs.lookup b with
  |some o'=>
   rw[q29 z];rw[c b o' z]at q;exact q
  |none=>rw[q0u z];exact u.frzs b o v (by rw[q1x z];exact q)
 tbls:=fun b ps q=>by
  have z:=c.out' q fun o z=>nomatch z
  rw[q0u z];exact u.tbls b ps (by rw[q1x z];exact q)
theorem Un.nocells(u:Un fs ex (addC H cs) H' h h')(hok:HOk P w H' h')(hc:∀b o,cs.lookup b=some o->H b=none/\h.get? b=some o):Un fs ex H (rmC H' cs) h h':=by
 have inn:∀b o,cs.lookup b=some o->H' b=some (celO o)/\h'.get? b=some o:=fun b o z=>by
  have q:=u.frzs b o _ (q29 z);exact⟨q,(show h'.get? b=some o/\_ from hok b _ q).1⟩
 refine⟨fun b o q n hb hx=>?_,fun b o q n hb hx=>?_,fun b o q n hx=>?_,u.there,fun b xs q=>?_,fun b o v q=>?_,fun b ps q=>?_⟩
 ·cases z:cs.lookup b with
  |some o'=>
   have:=(hc b o' z).2;rw[q]at this;cases this;exact(inn b _ z).2
  |none=>exact u.keep b o q (by rw[q0u z];exact n) hb hx
 ·cases z:cs.lookup b with
  |some o'=>
   have:=(hc b o' z).2;rw[q]at this;cases this;exact⟨o.slots,(inn b _ z).2⟩
  |none=>exact u.slot b o q (by rw[q0u z];exact n) hb hx
 ·cases z:cs.lookup b with
  |some o'=>exact q8c z
  |none=>rw[q1x z];exact u.free b o q (by rw[q0u z];exact n) hx
 ·have z:cs.lookup b=none:=by
   cases z:cs.lookup b with
   |some o'=>rw[(hc b o' z).1]at q;cases q
   |none=>rfl
  rw[q1x z];exact u.tups b xs (by rw[q0u z];exact q)
 ·have z:cs.lookup b=none:=by
   cases z:cs.lookup b with
   |some o'=>rw[(hc b o' z).1]at q;cases q
   |none=>rfl
  rw[q1x z];exact u.frzs b o v (by rw[q0u z];exact q)
 ·have z:cs.lookup b=none:=by
   cases z:cs.lookup b with
   |some o'=>rw[(hc b o' z).1]at q;cases q
   |none=>rfl
  rw[q1x z];exact u.tbls b ps (by rw[q0u z];exact q)
end
noncomputable abbrev lamEnv(qual:Str)(scope:Scope)(f:Addr)(cd:Value)(cl:List (Str×Addr))(s:Shared):Env:=PySem.W.envX qual scope s.heap.objs.size f cd cl
noncomputable def cxLam(P:Program)(w:World)(K:PySem.W.Frag)(mg:Str->Option Value)(base:Heap)(N:List Str)(qual:Str)(scope:Scope)(f:Addr)(cd:Value)(cl:List (Str×Addr))(A:Around)(outer:List Env)(s:Shared)(H:Hp):Cx where
 prog:=P
 w:=w
 K:=K
 mg:=mg
 base:=base
 A:=A.deeper (lamEnv qual scope f cd cl s)
 N:=N
 s₀:=s
 H₀:=H
 env:=lamEnv qual scope f cd cl s
 outer:=outer
 stack:=lamEnv qual scope f cd cl s::outer
 ex:=[]
 calm:=true
 fn:=fun _=>false
 pn:=[]
 xe:=fun _ _=>False
structure LamScope(ps Nf:List Str)(sc:Scope):Prop where
 kind:sc.kind=.function
 co:sc.isCoroutine=false
 gen:sc.isGenerator=false
 nd:ps.Nodup
 nocell:∀y∈sc.names,y.2≠.cell
 par:∀x∈ps,sc.names.lookup x=some .local
 fr:∀y∈Nf,sc.names.lookup y=some .free
structure LamCells(cl:List (Str×Addr))(Nf:List Str)(sc:Scope)(zs:List V)(h:Heap)(cs:Cs):Prop where
 inj:∀x y c,cl.lookup x=some c->cl.lookup y=some c->x=y
 has:∀x,(x,NameKind.free)∈sc.names->∃c,cl.lookup x=some c
 all:∀x c,cl.lookup x=some c->∃o,cs.lookup c=some o
 cel:∀c o,cs.lookup c=some o->h.get? c=some o/\∃v,o.data=.cell v
 val:∀(i:Nat) y z,Nf[i]?=some y->zs[i]?=some z->∃c o u,cl.lookup y=some c/\cs.lookup c=some o/\o.data=.cell (some u)/\RelV z u
section
variable{mg:Str->Option Value}{base:Heap}{Nf:List Str}{qual:Str}{scope:Scope}{cd:Value}{cl:List (Str×Addr)}{outer:List Env}{us:List Value}{vs zs:List V}
theorem y1o{v:Value}:∀{ps:List Str}{us:List Value}{i:Nat},ps.Nodup->ps[i]?=some x->us[i]?=some v->(ps.zip us).reverse.lookup x=some v:=by
 intro ps us i nd h1 h2;have hm:(x,v)∈(ps.zip us).reverse:=List.mem_reverse.mpr (w1a (i:=i) (by rw[List.getElem?_zip_eq_some];exact⟨h1,h2⟩))
 have hn:((ps.zip us).reverse.map (·.1)).Nodup:=by
  rw[List.map_reverse];show List.Pairwise (·≠·) _;rw[List.pairwise_reverse];refine List.Pairwise.imp (fun h=>Ne.symm h) (show((ps.zip us).map (·.1)).Nodup from ?_)
  exact nd.sublist (by
   clear hm h1 h2
   induction ps generalizing us with
   |nil=>simp
   |cons p ps ih=>cases us with
    |nil=>simp
    |cons u us=>simpa using ih (us:=us) (w1z.mp nd).2)
 generalize (ps.zip us).reverse=l at hm hn
 induction l with
 |nil=>cases hm
 |cons p l ih=>
  obtain⟨y,z⟩:=p;rw[w0w];rcases w0i.mp hm with e|hm2
  ·cases e;simp
  ·have hne:(x==y)=false:=by
    rw[beq_eq_false_iff_ne];rintro rfl;exact(w1z.mp hn).1 (w1x.mpr ⟨(x,v),hm2,rfl⟩)
   rw[hne];exact ih hm2 (w1z.mp hn).2
theorem y40{h₁:Heap}{tk:Nat}(S:LamScope ps Nf scope)(C:LamCells cl Nf scope zs s.heap cs)(hd:A.handled=none)(e0:Env0 P w K mg base A outer s H)(hn:∀c o,cs.lookup c=some o->H c=none)
  (hl:vs.length=ps.length)(hz:zs.length=Nf.length)(r:Vals vs us)
  (ns:h₁.Ns s.heap.objs.size (fun x=>(ps.zip us).reverse.lookup x))(hs:Heap.SameBut s.heap.objs.size (s.heap.push {cls:=.type "frame", data:=.dict #[]}) h₁):
  Inv (cxLam P w K mg base (ps++Nf) qual scope f cd cl A outer s H) [] (vs.map some++zs.map some) H {s with heap:=h₁,toks:=tk}:=by
 have hk:∀b o,s.heap.get? b=some o->h₁.get? b=some o:=fun b o e=>hs.extBut b o (w0r (Heap.lt_size e)) (Heap.get?_push_of_some _ e)
 have noA:∀b:Addr,b∉([]:List Addr):=fun b z=>nomatch z
 have nofree:∀x c,cl.lookup x=some c->H c=none/\∃o,s.heap.get? c=some o/\∃v,o.data=.cell v:=fun x c e=>by
  obtain⟨o,q⟩:=C.all x c e;exact⟨hn c o q,o,C.cel c o q⟩
 refine⟨⟨e0.mod,S.kind,rfl,rfl,w0g _,C.inj,fun y hy=>?_,(fun x c z=>nomatch z),fun _=>hd,Around.frames_deeper e0.frames,.inr ⟨rfl,rfl⟩,fun b z=>absurd z (noA b),e0.bs,e0.bsz,fun b _ _=>noA b,fun b z=>absurd z (noA b),e0.funs,e0.frf,e0.tab⟩,
  rfl,e0.bare,Un.kept hk,⟨_,ns,fun i y v h1 h2 h3=>?_⟩,fun y c h=>?_,e0.hok.fresh (w0g _),fun y c h=>(nofree y c h).1,fun p hp=>absurd (show p∈([]:List (Addr×Obj))from hp) (by simp),e0.hok.kept hk,?_⟩
 ·have hy:scope.names.lookup y=some .cell\/scope.names.lookup y=some .free:=hy;rcases hy with hy|hy
  ·exact absurd rfl (S.nocell _ (PySem.mem_of_lookup hy))
  ·exact C.has y (PySem.mem_of_lookup hy)
 ·have h1:(ps++Nf)[i]?=some y:=h1
  by_cases hi:i<ps.length
  ·rw[w0u (by simpa [hl]using hi),w0f]at h2;rw[w0u hi]at h1
   have ha:vs[i]?=some v:=by
    cases e:vs[i]? with
    |none=>rw[e]at h2;cases h2
    |some a=>rw[e]at h2;cases h2;rfl
   obtain⟨u,hu,rv⟩:=r.get ha;exact⟨u,rv,.inl ⟨S.par y (w1a h1),y1o S.nd h1 hu⟩⟩
  ·have hi':ps.length<=i:=w3y.mp hi;rw[w0y (by simpa [hl]using hi'),w0f,w0d,hl]at h2;rw[w0y hi']at h1
   have ha:zs[i-ps.length]?=some v:=by
    cases e:zs[i-ps.length]? with
    |none=>rw[e]at h2;cases h2
    |some a=>rw[e]at h2;cases h2;rfl
   obtain⟨c,o,u,e1,e2,e3,e4⟩:=C.val _ _ _ h1 ha;exact⟨u,e4,.inr ⟨.inr (S.fr y (w1a h1)),c,e1,o,hk _ _ (C.cel c o e2).1,e3⟩⟩
 ·obtain⟨_,o,q,v,d⟩:=nofree y c h;exact⟨v,o,hk _ _ q,d⟩
 ·show _=(ps++Nf).length;simp[hl,hz]
theorem lam_run{CX:CXT}{k:Nat}{name:Str}{params:Arguments}{body:Expr}{pm ctv:Value}{c':Addr}{t:TE}{Q:VK}{E:XK}
  (hr:Room (k+1) A)(e0:Env0 P w K mg base A outer s H)(hf:H f=some (fnO (kla_obj name qual params body scope cl pm c' ctv) qual c'))
  (S:LamScope ps Nf scope)(CI:CelsIn H cs)(C:LamCells cl Nf scope zs s.heap cs)(hbind:bindArgs (PySem.W.kla_fn name qual params body scope cl pm (.ref c') ctv) ⟨us,[]⟩=pure (ps.zip us))
  (hl:vs.length=ps.length)(hz:zs.length=Nf.length)(r:Vals vs us)
  (hb:PE (cxLam P w K mg base (ps++Nf) qual scope f (.ref c') cl A outer s (rmC H cs)) body t)(hq:t (vs.map some++zs.map some) (rmC H cs) fun v H'=>(∀b o,cs.lookup b=some o->H' b=none)->Q v (addC H' cs)):
  codeAny (model P w) A (.call (.ref f) ⟨us,[]⟩) (CR CX outer P w H s Q E) s:=by
 have lim:s.heap.NoLimit:=e0.mod.nolimit.keeps fun b o e=>(e0.bs b o e).1
 obtain⟨hfo,hcd⟩:=y4z e0.hok hf
 have e1:Env0 P w K mg base A outer s (rmC H cs):=⟨e0.frames,e0.mod,fun b o q=>⟨(e0.bs b o q).1,q58 (e0.bs b o q).2⟩,e0.bsz,e0.funs,fun b hb=>q58 (e0.frf b hb),e0.hok.rm CI,e0.bare,fun a q P m=>by
  obtain⟨ps,e,p⟩:=e0.tab a q P m;exact⟨ps,CI.rm_some e (fun o z=>nomatch z),p⟩⟩
 refine PySem.W.kla_callFunE hr.depth hfo rfl S.co S.gen rfl hcd ?_;rw[hbind];refine wpAny_pure (wpAny_newFunctionEnv S.nocell (fun y hy=>S.par y.1 (w2w hy).1) (fun h₁ hns hsb=>⟨lim.fresh _ hsb,?_⟩) S.kind)
 show codeAny _ _ (.expr body (lamEnv qual scope f (.ref c') cl s)) _ _;have I:=y40 (tk:=s.toks+(ps.zip us).length) (qual:=qual) (f:=f) (cd:=.ref c') S C hr.hd e1 (fun c o q=>q8c q) hl hz r hns hsb
 refine PySem.W.kla_codeExpr (wpAny_mono (hb [] _ _ _ _ I hq) (fun u s' hs'=>?_) fun e s' z=>False.elim z)
 obtain⟨v,H',J,rv,q⟩:=hs';have un:Un (frs outer) [] (rmC H cs) H' s.heap s'.heap:=J.base;refine⟨v,addC H' cs,J.os,J.bare,un.cells CI,J.hok.add fun b o z=>?_,rv,q fun b o z=>un.free b o (C.cel b o z).1 (q8c z) (by simp)⟩
 have nf:b∉frs outer:=fun hb=>by
  have:=e0.frf b hb;rw[CI b o z]at this;cases this
 have g:=(C.cel b o z).1;exact⟨un.free b o g (q8c z) (by simp),un.keep b o g (q8c z) nf (by simp)⟩
end
def FnV(P:Program)(w:World)(K:PySem.W.Frag)(mg:Str->Option Value)(base:Heap)(CX:CXT)(k:Nat)(sp:V->List V->Hp->VK->XK->Prop):Prop:=∀(x:V)(vs:List V)(H:Hp)(Q:VK)(E:XK),sp x vs H Q E ->
 ∃f oc od fd sl u,x=.ref f/\H f=some (.frz ⟨oc,od,.func fd,sl⟩ u)/\∀(A:Around)(outer:List Env)(s:Shared)(us:List Value),Room k A->Env0 P w K mg base A outer s H->Vals vs us ->
  codeAny (model P w) A (.call (.ref f) ⟨us,[]⟩) (CR CX outer P w H s Q E) s
def IsFn(H:Hp)(x:V):Prop:=∃f oc od fd sl u,x=.ref f/\H f=some (.frz ⟨oc,od,.func fd,sl⟩ u)
def tCallV(sp:V->List V->Hp->VK->XK->Prop)(EE:L2.St->XK)(tv:TE)(t:TA):TE:=fun σ H Q=>tv σ H fun x H1=>IsFn H1 x/\t σ H1 fun vs H2=>sp x vs H2 Q (EE σ)
section
variable{CX:CXT}{k:Nat}{sp:V->List V->Hp->VK->XK->Prop}{tv:TE}{t:TA}
theorem y1p(F:FnV X.prog X.w X.K X.mg X.base CX k sp)(hr:Room k X.A)(hv:PE X (.Name x p) tv)(hx:PassX CX X EE)(ha:PA X (e::es) t)
  (he:starEach (e::es) X.env=(false,eval e X.env)::starEach es X.env:=by rfl)(hpl:(backTo pos (starEach es X.env)).any (·.1)=false:=by rfl):
  PE X (.Call (.Name x p) (e::es) [] pos) (tCallV sp EE tv t):=by
 intro pins s σ H Q I h;refine wpAny_Call_Name_kw (thn (hv pins s σ H _ I h) fun u s1 ⟨y,H1,I1,ry,⟨f,oc,od,fd,sl,uu,ey,ef⟩,q⟩=>?_)
 subst ey;obtain rfl:u=Value.ref f:=ry;refine PySem.W.callWith_F ⟨oc,od,fd,sl,(show s1.heap.get? f=some _/\_ from I1.hok f _ ef).1⟩ (thn (ha pos pins s1 σ H1 _ I1 q) fun us s2 ⟨vs,H2,I2,r,q2⟩=>?_) he hpl
 obtain⟨f',oc',od',fd',sl',u',ex',ef',run⟩:=F _ _ _ _ _ q2;cases ex';refine⟨⟨oc',od',fd',sl',(show s2.heap.get? f=some _/\_ from I2.hok f _ ef').1⟩,wpAny_call (codeAny_mono (run X.A X.stack s2 us hr I2.env0 r) fun r s' hq=>?_)⟩
 cases r with
 |error e=>exact hx pins σ H2 s2 e s' I2 hq
 |ok fl=>
  cases fl with
  |ret u=>exact I2.after hq
  |next=>exact False.elim hq
  |brk=>exact False.elim hq
  |cont=>exact False.elim hq
end
theorem x7t{pos':Pos}{a b:Int}{c cv:Value}(l:List Value)(h:TriplesOk l)(z:codeAmong pos' (l++[rawInt a,rawInt b,c])=some cv):codeAmong pos' l=some cv\/cv=c:=by
 fun_induction TriplesOk l with
 |case1=>
  simp only[List.nil_append,codeAmong,rawInt]at z;split at z
  ·cases z;exact .inr rfl
  ·cases z
 |case2 x t y u v rest ih=>
  simp only[List.cons_append,codeAmong]at z |-
  split at z
  ·rename_i hc;rw[if_pos hc];exact .inl z
  ·rename_i hc;rw[if_neg hc];exact ih h z
 |case3=>exact h.elim
def BMain(h:Heap)(mg:Str->Option Value):Prop:=∃bm ob,mg "__builtins__"=some (.ref bm)/\bm≠builtinsNs/\h.get? bm=some ob/\ob.cls=.type "module" /\ ob.dict=some builtinsNs/\ob.data=.plain
def LamAt(X:Cx)(params:Arguments)(body:Expr)(scope:Scope)(clos:List (Str×Addr))(f:Addr)(H H':Hp):Prop:=closureFor scope X.env=pure clos/\∃(H1:Hp)(pm ctv:Value)(c':Addr),(H1=H\/∃c oc,H c=none/\H1=upd H c (rawO oc))/\H1 f=none /\
 H'=upd H1 f (fnO (kla_obj "<lambda>" (X.env.qual++"<lambda>") params body scope clos pm c' ctv) (X.env.qual++"<lambda>") c')
def tLam(X:Cx)(params:Arguments)(body:Expr)(scope:Scope):TE:=fun _ H Q=>∀f clos H',LamAt X params body scope clos f H H'->Q (.ref f) H'
structure Maker(X:Cx):Prop where
 ex:∃c P a,X.env.code=.ref c/\codeHdIn X.K c P=true/\(a,markO P (X.env.qual++"<lambda>"))∈X.K
 bm:BMain X.base X.mg
section
variable{params:Arguments}{body:Expr}{scope:Scope}{lpos:Pos}
theorem y8t(M:Maker X)(hdef:defaultsOf params X.env=([],[]))(hfree:∀x∈scope.names,x.2=.free->X.env.kindOf x.1=some .cell\/X.env.kindOf x.1=some .free):
  PE X (.Lambda params body scope lpos) (tLam X params body scope):=by
 intro pins s σ H Q I h;obtain⟨clos,hclos,_,_⟩:=q5z (scope:=scope) (env:=X.env) fun x hx hf=>I.ok.has x.1 (hfree x hx hf)
 obtain⟨c,P,a,hcode,hch,hmk⟩:=M.ex;have hhd:=PySem.W.codeHd_of_K I.mod.kin hch;obtain⟨ps,hP,p0,p1⟩:=I.ok.tab a _ P hmk;obtain⟨more,eP⟩:=I.base.tbls P ps hP
 have q0:(ps++more)[0]?=some (.bool true):=by
  rw[w1n (by obtain⟨z,_⟩:=w1t.mp p0;exact z)];exact p0
 have q1:(ps++more)[1]?=some (.str (X.env.qual++"<lambda>") 0):=by
  rw[w1n (by obtain⟨z,_⟩:=w1t.mp p1;exact z)];exact p1
 have oP:ObjOk X.prog X.w H s.heap P (.tbl (ps++more)):=I.hok P _ eP;rcases oP with⟨q,qs,r0,r1,g1,tr,cd⟩|⟨_,_,_,_,_,_,r0,_⟩
 case inr=>rw[q0]at r0;cases r0
 rw[q1]at r1;cases r1;have nP:∀b,H b=none->b≠P:=fun b n z=>by rw[z,eP]at n;cases n
 have hgP:mainGlobals≠P:=by
  obtain⟨o,es,ep,e,_⟩:=I.mod.glob;exact nP _ (I.bs _ o e).2
 have hB:s.heap.BuiltinsAt X.mg P:=by
  obtain⟨bm,ob,b1,b2,b3,b4,b5,b6⟩:=M.bm;refine⟨bm,ob,b1,b2,fun z=>?_,nP _ (I.bs bm ob b3).2,(I.bs bm ob b3).1,b4,b5,b6⟩
  obtain⟨o,es,ep,e,d,_⟩:=I.mod.glob;rw[z,e]at b3;cases b3;rw[d]at b6;cases b6
 have hns:=I.mod.glob.keeps I.bk;refine PySem.W.kla_eval hdef ?_;cases hc:codeAmong lpos qs.toList with
 |some cv=>
  obtain⟨c',oc,vs,t,rfl,k1,k2,k3⟩:=cd lpos cv hc;refine PySem.W.kla_makeFunctionHit (mg:=X.mg) hclos I.ok.glob hns hcode (hhd.keeps I.bk) g1 tr hc hB fun ctv h' tk hk hsz=>?_
  have fr:H h'.objs.size=none:=I.hok.fresh hsz;refine⟨.ref h'.objs.size,_,I.laid (t':=tk) (fun b u e=>Heap.get?_push_of_some _ (hk b u e)) hsz ?_,rfl,h _ clos _ ⟨hclos,H,(X.mg "__name__").getD .none,ctv,c',.inl rfl,fr,rfl⟩⟩
  exact⟨Heap.get?_push_size _ rfl,.inr ⟨_,c',oc,_,vs,t,rfl,rfl,rfl,by rw[q0d (q0q k1 fr)];exact k1,k2,k3,Heap.get?_push_size _ rfl⟩⟩
 |none=>
  refine PySem.W.kla_makeFunction (mg:=X.mg) hclos I.ok.glob hns hcode (hhd.keeps I.bk) g1 tr hc hgP hB fun c' ctv h' tk hx hge hlt hrec htb=>?_
  obtain⟨c2,oc,vs,t,ec,hoc,hd,hv⟩:=hrec;cases ec;have fc:H c'=none:=I.hok.fresh hge;have hne:∀b u,H b=some u->b≠c':=fun b u z=>q0q z fc
  have kp:∀b o,H b=none->s.heap.get? b=some o->h'.get? b=some o:=fun b o n e=>hx b o (nP b n) e
  have hok1:HOk X.prog X.w (upd H c' (rawO oc)) h':=fun a u e=>by
   by_cases ha:a=c'
   ·subst ha;rw[q0g]at e;cases e;exact⟨hoc,oc,hoc⟩
   ·rw[q0d ha]at e
    by_cases haP:a=P
    ·subst haP;rw[eP]at e;cases e;refine .inl ⟨_,_,q0,q1,htb,?_,fun pos cv z=>?_⟩
     ·rw[w3s];exact TriplesOk_snoc _ _ _ _ tr
     ·rw[w3s]at z;rcases x7t _ tr z with z|z
      ·obtain⟨d,od,vd,td,k0,k1,k2,k3⟩:=cd pos cv z;exact⟨d,od,vd,td,k0,by rw[q0d (hne d _ k1)];exact k1,k2,k3⟩
      ·exact⟨c',oc,vs,t,z,q0g,hd,hv⟩
    ·refine(I.hok a u e).stay (fun b v hb q=>hx b v ?_ q) (fun b q=>by rw[q0d (hne b _ q)];exact q) fun b v _ q=>by rw[q0d (hne b _ q)];exact q
     rcases hb with rfl|hb
     ·exact haP
     ·rintro rfl;rw[eP]at hb;cases hb
  have un:Un X.fs [] H (upd H c' (rawO oc)) s.heap h':=by
   refine⟨fun b o q n _ _=>kp b o n q,fun b o q n _ _=>⟨o.slots,kp b o n q⟩,fun b o q n _=>?_,fun b o q _=>?_,fun b xs q=>by rw[q0d (hne b _ q)];exact q,fun b o u q=>by rw[q0d (hne b _ q)];exact q,fun b qs q=>⟨#[],by rw[q0d (hne b _ q),q];simp⟩⟩
   ·rw[q0d (w0r (w0o (Heap.lt_size q) hge))];exact n
   ·by_cases hb:b=P
    ·subst hb;exact⟨_,htb⟩
    ·exact⟨o,hx b o hb q⟩
  have I1:Inv X pins σ (upd H c' (rawO oc)) {s with heap:=h',toks:=tk}:=I.un un hok1;have f1:upd H c' (rawO oc) h'.objs.size=none:=I1.hok.fresh (w0g _);refine⟨.ref h'.objs.size,_,I1.laid (t':=tk) (fun b u e=>Heap.get?_push_of_some _ e) (w0g _) ?_,rfl,h _ clos _ ⟨hclos,_,(X.mg "__name__").getD .none,ctv,c',.inr ⟨c',oc,fc,rfl⟩,f1,rfl⟩⟩
  exact⟨Heap.get?_push_size _ rfl,.inr ⟨_,c',oc,_,vs,t,rfl,rfl,rfl,by rw[q0d (q0q q0g f1)];exact q0g,hd,hv,Heap.get?_push_size _ rfl⟩⟩
end
theorem q9i{α:Type}{k:Addr}{v:α}:∀{l:List (Addr×α)},(k,v)∈l->∃v',l.lookup k=some v'
 |[],h=>nomatch h
 |(a,b)::l,h=>by
  rw[w0w]
  by_cases e:(k==a)=true
  ·rw[e];exact⟨b,rfl⟩
  ·rw[w1o.mpr e];rcases w0i.mp h with z|z
   ·cases z;simp at e
   ·exact q9i z
noncomputable def celsAt(clos:List (Str×Addr))(h:Heap):Cs:=(clos.map (·.1)).filterMap fun x=>(clos.lookup x).bind fun c=>(h.get? c).map fun o=>(c,o)
theorem q9j{clos:List (Str×Addr)}{o:Obj}(e:(celsAt clos h).lookup c=some o):∃x,clos.lookup x=some c/\h.get? c=some o:=by
 obtain⟨x,_,hx⟩:=w2k.mp (PySem.W.mem_of_lookupK e);obtain⟨c',e1,e2⟩:=w3c.mp hx;obtain⟨o',e3,e4⟩:=w0c.mp e2;cases e4;exact⟨x,e1,e3⟩
theorem x0w{clos:List (Str×Addr)}{o:Obj}(e:clos.lookup x=some c)(g:h.get? c=some o):(celsAt clos h).lookup c=some o:=by
 have hm:(c,o)∈celsAt clos h:=w2k.mpr ⟨x,w1x.mpr ⟨(x,c),PySem.mem_of_lookup e,rfl⟩,by rw[e];show(h.get? c).map _=_;rw[g];rfl⟩;obtain⟨o',e'⟩:=q9i hm;obtain⟨_,_,g'⟩:=q9j e';rw[g]at g';cases g';exact e'
structure CellsOf(clos:List (Str×Addr))(Nf:List Str)(scope:Scope)(js:List Nat)(σ:St)(H:Hp)(cs:Cs):Prop where
 inj:∀x y c,clos.lookup x=some c->clos.lookup y=some c->x=y
 has:∀x,(x,NameKind.free)∈scope.names->∃c,clos.lookup x=some c
 all:∀x c,clos.lookup x=some c->∃o,cs.lookup c=some o
 cel:∀c o,cs.lookup c=some o->H c=none/\∃v,o.data=.cell v
 val:∀(i:Nat) y j z,Nf[i]?=some y->js[i]?=some j->σ[j]?=some (some z)->∃c o u,clos.lookup y=some c/\cs.lookup c=some o/\o.data=.cell (some u)/\RelV z u
theorem x57{outer:List Env}{s':Shared}{E:XK}{e:Value}(hc:∀b o,cs.lookup b=some o->H b=none/\s.heap.get? b=some o)
  (x:CX1 P w outer (addC H cs) s (fun c o H'=>E c o (rmC H' cs)) e s'):CX1 P w outer H s E e s':=by
 obtain⟨e,cls,H',B,rfl,hos,hg,un,hok,fly,hE⟩:=x;have CI:CelsIn H' cs:=fun b o z=>un.frzs b o _ (q29 z)
 refine⟨e,cls,rmC H' cs,B,rfl,hos,hg,un.nocells hok hc,hok.rm CI,⟨fly.fl,fun b o q n nb=>?_,fun b u o q z=>fly.trk b u o (x7s q).1 z,fly.all,fly.new⟩,hE⟩
 cases z:cs.lookup b with
 |some o'=>
  have:=(hc b o' z).2;rw[q]at this;cases this;exact fly.trk b _ o (CI b o z) ((show s'.heap.get? b=some o/\_ from hok b _ (CI b o z)).1)
 |none=>exact fly.old b o q (by rw[q0u z];exact n) nb
theorem pure_inj{α:Type}{a b:α}(h:(pure a:Sem α)=pure b):a=b:=by
 first
  |exact PySem.Sem.pure_inj h
  |(injection h)
  |(cases h;rfl)
section
variable{k:Nat}{fd:FuncData}{sp:Sp}
theorem y41{pins:List (Addr×Obj)}{σ:St}{Q:VK}{us:List Value}{vs:List V}{cs:Cs}(F:FnOk X.prog X.w X.K X.mg X.base (CX1 X.prog X.w) k f fd ps sp)(hr:Room k X.A)(hb:Binds X.K fd ps [])(hx:PassX (CX1 X.prog X.w) X EE)
  (I:Inv X pins σ H s)(hc:∀b o,cs.lookup b=some o->H b=none/\s.heap.get? b=some o)(hv:∀b o,cs.lookup b=some o->b∉frs X.stack)(hn:∀b o,cs.lookup b=some o->X.base.get? b=none)(r:Vals vs us)
  (h:sp vs (addC H cs) (fun v H'=>Q v (rmC H' cs)) fun c o H'=>EE σ c o (rmC H' cs)):wpAny (model X.prog X.w) X.A (call (.ref f) us) (EP X pins σ Q) X.xe s:=by
 have hl:us.length=ps.length:=by rw[<- r.length];exact F.len _ _ _ _ h
 have e0:=I.env0
 have out:∀b,H b=none->(∀o,cs.lookup b≠some o)->addC H cs b=none:=fun b n z=>by
  cases q:cs.lookup b with
  |some o=>exact absurd q (z o)
  |none=>rw[q0u q];exact n
 have e1:Env0 X.prog X.w X.K X.mg X.base X.A X.stack s (addC H cs):=by
  refine⟨e0.frames,e0.mod,fun b o q=>⟨(e0.bs b o q).1,out b (e0.bs b o q).2 fun o' z=>?_⟩,e0.bsz,e0.funs,fun b hb=>out b (e0.frf b hb) fun o z=>?_,e0.hok.add hc,e0.bare,fun a q P m=>?_⟩
  ·rw[hn b o' z]at q;cases q
  ·exact hv b o z hb
  ·obtain⟨ps,e,p⟩:=e0.tab a q P m;refine⟨ps,?_,p⟩;cases z:cs.lookup P with
   |some o=>rw[(hc P o z).1]at e;cases e
   |none=>rw[q0u z];exact e
 have hbb:=hb s us I.kIn (by rw[w1p];exact hl);rw[w1p]at hbb;refine wpAny_call (codeAny_mono (F.run X.A X.stack s (addC H cs) ⟨us,[]⟩ us vs _ _ hr e1 hbb r h) fun r s' hq=>?_)
 cases r with
 |error e=>exact hx pins σ H s e s' I (x57 hc hq)
 |ok fl=>
  cases fl with
  |ret u=>
   obtain⟨v,H',os,bare,un,hok,rv,q⟩:=hq;have CI:CelsIn H' cs:=fun b o z=>un.frzs b o _ (q29 z)
   exact I.after ⟨v,rmC H' cs,os,bare,un.nocells hok hc,hok.rm CI,rv,q⟩
  |next=>exact False.elim hq
  |brk=>exact False.elim hq
  |cont=>exact False.elim hq
def LamQ(sp:Sp)(X:Cx)(scope:Scope)(Nf:List Str)(js:List Nat)(E:XK)(σ:St)(Q:VK)(vs:List V)(H2:Hp):Prop:=∃clos,closureFor scope X.env=pure clos/\∀cs,CellsOf clos Nf scope js σ H2 cs ->
 sp vs (addC H2 cs) (fun v H'=>Q v (rmC H' cs)) fun c o H'=>E c o (rmC H' cs)
def tLamCall(sp:Sp)(X:Cx)(params:Arguments)(body:Expr)(scope:Scope)(Nf:List Str)(js:List Nat)(EE:L2.St->XK)(te:TE):TE:=fun σ H Q=>te σ H fun v1 H1=>∀f clos H2,LamAt X params body scope clos f H1 H2->LamQ sp X scope Nf js (EE σ) σ Q [v1,.ref f] H2
theorem x7u{params:Arguments}{body:Expr}{scope:Scope}{lpos:Pos}{Nf:List Str}{js:List Nat}{te:TE}(F:FnOk X.prog X.w X.K X.mg X.base (CX1 X.prog X.w) k f fd ps sp)(hr:Room k X.A)(hg:Gl X x)(hm:X.mg x=some (.ref f))(hk:keepIn X.K (.ref f)=true)
  (hb:Binds X.K fd ps [])(hx:PassX (CX1 X.prog X.w) X EE)(M:Maker X)(hfn:∀y,X.fn y=true)(he:PE X e te)(hdef:defaultsOf params X.env=([],[]))
  (hfree:∀x∈scope.names,x.2=.free->X.env.kindOf x.1=some .cell\/X.env.kindOf x.1=some .free)
  (hNf:∀(i j:Nat) y,Nf[i]?=some y->js[i]?=some j->X.N[j]?=some y/\(y,NameKind.free)∈scope.names/\Vis X.env.scope y/\X.env.kindOf y≠some .local)
  (hdb:(x==("__debug__":Str))=false:=by decide)(hst:starEach [e,.Lambda params body scope lpos] X.env=(false,eval e X.env)::starEach [.Lambda params body scope lpos] X.env:=by rfl)
  (hst2:starEach [.Lambda params body scope lpos] X.env=(false,eval (.Lambda params body scope lpos) X.env)::starEach [] X.env:=by rfl)(hpl:(backTo pos (starEach [.Lambda params body scope lpos] X.env)).any (·.1)=false:=by rfl):
  PE X (.Call (.Name x p) [e,.Lambda params body scope lpos] [] pos) (tLamCall sp X params body scope Nf js EE te):=by
 intro pins s σ H Q I h;have ha:PA X [e,.Lambda params body scope lpos] (tCons te (tCons (tLam X params body scope) tNil)):=q0o he (q0o (y8t M hdef hfree) q1n hst2) hst;refine wpAny_Call_Name_kw (x6q I hg hm ?_ hdb);refine PySem.W.callWith_K (h₀:=X.base) I.ok.mod.kin hk (thn (ha pos pins s σ H (LamQ sp X scope Nf js (EE σ) σ Q) I h) fun us s1 ⟨vs,H2,I2,r,clos,hclos,q⟩=>⟨I2.kIn,?_⟩) hst hpl
 obtain⟨clos',hclos',hcl,hcf⟩:=q5z (scope:=scope) (env:=X.env) fun x hx hf=>I.ok.has x.1 (hfree x hx hf)
 obtain rfl:clos'=clos:=pure_inj (hclos'.symm.trans hclos)
 have look:∀b o,(celsAt clos' s1.heap).lookup b=some o->∃x,X.env.cells.lookup x=some b/\s1.heap.get? b=some o:=fun b o z=>by
  obtain⟨x,h1,h2⟩:=q9j z;exact⟨x,hcl x b h1,h2⟩
 have hnone:∀b o,(celsAt clos' s1.heap).lookup b=some o->H2 b=none/\s1.heap.get? b=some o:=fun b o z=>by
  obtain⟨x,h1,h2⟩:=look b o z;exact⟨I2.freeC x b h1,h2⟩
 have hab:∀b o,(celsAt clos' s1.heap).lookup b=some o->X.s₀.heap.objs.size<=b:=fun b o z=>by
  obtain⟨x,h1,h2⟩:=look b o z;exact I2.ok.cab x b (hfn x) h1
 refine y41 (cs:=celsAt clos' s1.heap) F hr hb hx I2 hnone (fun b o z hb=>?_) (fun b o z=>Heap.get?_none_of_le (w0z I2.ok.bsz (hab b o z))) r (q _ ⟨fun x y c e1 e2=>I2.ok.inj x y c (hcl x c e1) (hcl y c e2),hcf,fun x c e=>?_,fun c o e=>⟨(hnone c o e).1,?_⟩,fun i y j z e1 e2 e3=>?_⟩)
 ·rcases w0i.mp (I2.stkSub b hb)with e|hb2
  ·obtain⟨x,h1,_⟩:=look b o z;exact I2.cne x b h1 e
  ·obtain⟨_,o',q',_⟩:=I2.ok.funs.mem hb2
   exact absurd (Heap.lt_size q') (w3y.mpr (hab b o z))
 ·obtain⟨v,o,g,_⟩:=I2.cell x c (hcl x c e);exact⟨o,x0w e g⟩
 ·obtain⟨x,h1,h2⟩:=look c o e;obtain⟨v,o',g,d⟩:=I2.cell x c h1;rw[h2]at g;cases g;exact⟨v,d⟩
 ·obtain⟨n1,n2,n3,n4⟩:=hNf i j y e1 e2;obtain⟨m,hm,hl⟩:=I2.loc;obtain⟨u,ru,l⟩:=hl j y z n1 e3 n3;rcases l with⟨k1,_⟩|⟨k1,c,ec,o,g,d⟩
  ·exact absurd k1 n4
  ·obtain⟨c',ec'⟩:=hcf y n2;have e4:=hcl y c' ec';rw[ec]at e4;cases e4;exact⟨c,o,u,ec',x0w ec' g,d,ru⟩
end
end L2
set_option maxHeartbeats 1000000
namespace D
open PySem L2
variable{a:Addr}{X:Cx}{G G' G1 H H' H1:Hp}{EE:L2.St->XK}{es:List Expr}{vs xs:List V}{r:List V->Hp->VK->Prop}{i:Nat}{b:Option Nat}{p pos pos':Pos}{K:PySem.W.Frag}{σ:St}{st:Stmt}{x:Str}{α:Type}{v:V}
noncomputable abbrev Sv:=Int ⊕ Bool
inductive Dd where
 |k (kvs:List (Key×Sv))
structure Lm where
 qual:Str
 params:Arguments
 body:Expr
 scope:Scope
 nf:List Str
set_option genInjectivity true in
inductive W where
 |non|bl (b:Bool)|int (i:Int)|str (x:Str)|tup (xs:List W)|lst (xs:List W)|exc (c:Value)|dic (kvs:Dd)|dw (fz:Bool) (sh:Sh) (ks:List Kx) (ws:List W)|fn (i:Nat) (l:Lm) (ws:List W)
variable{ws:List W}{w:W}{f:W->W->Option W}
inductive SK where
 |old (w:W)|new (w:W)|acc (ws:List W)|thro (us ws vs:List W)|tn (us:List W) (wss:List (List W))|pt (us ws:List W) (w:W)
inductive S where
 |no|fr (w:W)|own (io:Option Nat) (ws:List W)|dic (kvs:Dd)|thr (us ws vs:List W)|nest (wss:List (List W))|dw (sh:Sh) (ks:List Kx) (ws:List W)|x (k:SK)
variable{e e1:List S}{E:Value->List S->Prop}
noncomputable def SK.plain:SK->Option W
 |.old w=>some w
 |.new w=>some w
 |_=>none
noncomputable def SK.look:SK->Option W
 |.old w=>some w
 |.new w=>some w
 |.acc ws=>some (.lst ws)
 |_=>none
noncomputable def sV:Sv->V
 |.inl i=>.int i
 |.inr b=>.bl b
noncomputable def kvV{κ:Type}(kvs:List (κ×Sv)):List (κ×V):=kvs.map fun p=>(p.1,sV p.2)
noncomputable def dO:Dd->HO
 |.k kvs=>.dK (kvV kvs)
noncomputable def isDic:HO->Bool
 |.dK _=>true
 |_=>false
theorem q5k{d:Dd}{u:HO}(h:isDic u=false):dO d≠u:=fun z=>by
 subst z;cases d<;>cases h
def KeysG(G:Hp):List Kx->List Addr->Prop
 |[],[]=>True
 |k::ks,b::bs=>KRep G k (.ref b)/\KeysG G ks bs
 |[],_::_=>False
 |_::_,[]=>False
theorem KeysG.mono(e:Same G G'):∀{ks:List Kx}{bs:List Addr},KeysG G ks bs->KeysG G' ks bs
 |[],[],_=>trivial
 |k::ks,b::bs,h=>⟨KRep.keeps (fun _ _ _ z=>e _ _ z) k h.1,KeysG.mono e h.2⟩
 |[],_::_,h=>h.elim
 |_::_,[],h=>h.elim
def DAt(fz:Bool)(G:Hp)(a:Addr)(sh:Sh)(kvs:List (Kx×V))(kas:List Addr):Prop:=if fz=true then ∃o,G a=some (.frz o (.dT sh kvs kas))else G a=some (.dT sh kvs kas)
theorem DAt.mono{fz:Bool}{sh:Sh}{kvs:List (Kx×V)}{kas:List Addr}(e:Same G G')(h:DAt fz G a sh kvs kas):DAt fz G' a sh kvs kas:=by
 cases fz with
 |true=>obtain⟨o,h⟩:=h;exact⟨o,e _ _ h⟩
 |false=>exact e _ _ h
structure FnCells(G:Hp)(cl:List (Str×Addr))(l:Lm)(zs:List V)(cs:Cs):Prop where
 inj:∀x y c,cl.lookup x=some c->cl.lookup y=some c->x=y
 has:∀x,(x,NameKind.free)∈l.scope.names->∃c,cl.lookup x=some c
 all:∀x c,cl.lookup x=some c->∃o,cs.lookup c=some o
 cel:∀c o,cs.lookup c=some o->G c=some (celO o)/\∃v,o.data=.cell v
 val:∀(i:Nat) y z,l.nf[i]?=some y->zs[i]?=some z->∃c o u,cl.lookup y=some c/\cs.lookup c=some o/\o.data=.cell (some u)/\RelV z u
 len:zs.length=l.nf.length
theorem FnCells.mono{cl:List (Str×Addr)}{l:Lm}{zs:List V}{cs:Cs}(e:Same G G')(h:FnCells G cl l zs cs):FnCells G' cl l zs cs:=⟨h.inj,h.has,h.all,fun c o q=>⟨e _ _ (h.cel c o q).1,(h.cel c o q).2⟩,h.val,h.len⟩
def FnAtG(G:Hp)(l:Lm)(cl:List (Str×Addr))(f:Addr):Prop:=∃pm c' ctv,G f=some (fnO (kla_obj "<lambda>" l.qual l.params l.body l.scope cl pm c' ctv) l.qual c')
inductive RefTo(v:V)(P Q:Addr->List V->Prop):Prop where
 |mk (a:Addr) (xs:List V) (h:v=.ref a) (p:P a xs) (q:Q a xs):RefTo v P Q
inductive ConsOf(xs:List V)(P:V->Prop)(Q:List V->Prop):Prop where
 |mk (x:V) (r:List V) (h:xs=x::r) (p:P x) (q:Q r):ConsOf xs P Q
mutual
def Rep(K:PySem.W.Frag)(G:Hp):W->V->Prop
 |.non,v=>v=.non
 |.bl b,v=>v=.bl b
 |.int i,v=>v=.int i
 |.str x,v=>v=.str x
 |.tup ws,v=>RefTo v (SqT K G) fun _ xs=>Reps K G ws xs
 |.lst ws,v=>RefTo v (SqL K G) fun _ xs=>Reps K G ws xs
 |.exc c,v=>∃e,v=.ref e/\G e=some (excO e c)
 |.dic kvs,v=>∃e,v=.ref e/\G e=some (dO kvs)
 |.dw fz sh ks ws,v=>∃a kvs kas,v=.ref a/\DAt fz G a sh kvs kas/\kvs.map (·.1)=ks/\KeysG G ks kas/\Reps K G ws (kvs.map (·.2))
 |.fn _ l ws,v=>∃f cl zs cs,v=.ref f/\FnAtG G l cl f/\FnCells G cl l zs cs/\Reps K G ws zs
def Reps(K:PySem.W.Frag)(G:Hp):List W->List V->Prop
 |[],xs=>xs=[]
 |w::ws,xs=>ConsOf xs (Rep K G w) (Reps K G ws)
end
mutual
theorem Rep.mono{K:PySem.W.Frag}{G G':Hp}(e:Same G G'):∀(w:W){v:V},Rep K G w v->Rep K G' w v
 |.non,v,h=>h
 |.bl b,v,h=>h
 |.int i,v,h=>h
 |.str x,v,h=>h
 |.tup ws,v,h=>by
  obtain⟨a,xs,rfl,q,r⟩:=h;exact⟨a,xs,rfl,e.tup q,Reps.mono e ws r⟩
 |.lst ws,v,h=>by
  obtain⟨a,xs,rfl,q,r⟩:=h;exact⟨a,xs,rfl,e.seq q,Reps.mono e ws r⟩
 |.exc c,v,h=>by
  obtain⟨a,rfl,q⟩:=h;exact⟨a,rfl,e _ _ q⟩
 |.dic kvs,v,h=>by
  obtain⟨a,rfl,q⟩:=h;exact⟨a,rfl,e _ _ q⟩
 |.dw fz sh ks ws,v,h=>by
  obtain⟨a,kvs,kas,rfl,h1,h2,h3,h4⟩:=h;exact⟨a,kvs,kas,rfl,h1.mono e,h2,h3.mono e,Reps.mono e ws h4⟩
 |.fn i l ws,v,h=>by
  obtain⟨f,cl,zs,cs,rfl,⟨pm,c',ctv,h1⟩,h2,h3⟩:=h;exact⟨f,cl,zs,cs,rfl,⟨pm,c',ctv,e _ _ h1⟩,h2.mono e,Reps.mono e ws h3⟩
theorem Reps.mono{K:PySem.W.Frag}{G G':Hp}(e:Same G G'):∀(ws:List W){xs:List V},Reps K G ws xs->Reps K G' ws xs
 |[],xs,h=>h
 |w::ws,xs,h=>by
  obtain⟨x,r,rfl,h1,h2⟩:=h;exact⟨x,r,rfl,Rep.mono e w h1,Reps.mono e ws h2⟩
end
theorem Reps.length:∀{ws:List W}{xs:List V},Reps K G ws xs->xs.length=ws.length
 |[],xs,h=>by cases h;rfl
 |w::ws,xs,h=>by
  obtain⟨x,r,rfl,_,h2⟩:=h;simp[Reps.length h2]
theorem Reps.get:∀{ws:List W}{xs:List V}{i:Nat}{w:W},Reps K G ws xs->ws[i]?=some w->∃x,xs[i]?=some x/\Rep K G w x
 |[],xs,i,w,h,e=>by simp at e
 |w'::ws,xs,0,w,h,e=>by
  obtain⟨x,r,rfl,h1,h2⟩:=h;simp at e;subst e;exact⟨x,rfl,h1⟩
 |w'::ws,xs,i+1,w,h,e=>by
  obtain⟨x,r,rfl,h1,h2⟩:=h;obtain⟨y,e1,e2⟩:=Reps.get (i:=i) h2 (by simpa using e);exact⟨y,by simpa using e1,e2⟩
theorem Reps.getV:∀{ws:List W}{xs:List V}{i:Nat}{x:V},Reps K G ws xs->xs[i]?=some x->∃w,ws[i]?=some w/\Rep K G w x:=fun {ws xs i x} h e=>by
 have hl:=h.length;have hi:i<xs.length:=(w0a.mp e).1;have e2:ws[i]?=some ws[i]:=w0b (by omega);obtain⟨y,e3,r⟩:=h.get e2;rw[e]at e3;cases e3;exact⟨_,e2,r⟩
theorem Reps.append:∀{ws ws':List W}{xs xs':List V},Reps K G ws xs->Reps K G ws' xs'->Reps K G (ws++ws') (xs++xs')
 |[],ws',xs,xs',h,h'=>by cases h;exact h'
 |w::ws,ws',xs,xs',h,h'=>by
  obtain⟨x,r,rfl,h1,h2⟩:=h;exact⟨x,r++xs',rfl,h1,Reps.append h2 h'⟩
theorem Reps.one{x:V}(h:Rep K G w x):Reps K G [w] [x]:=⟨x,[],rfl,h,rfl⟩
theorem Reps.take:∀(n:Nat){ws:List W}{xs:List V},Reps K G ws xs->Reps K G (ws.take n) (xs.take n)
 |0,_,_,_=>rfl
 |n+1,[],_,h=>by cases h;rfl
 |n+1,w::ws,_,h=>by
  obtain⟨x,r,rfl,h1,h2⟩:=h;exact⟨x,r.take n,rfl,h1,Reps.take n h2⟩
theorem Reps.drop:∀(n:Nat){ws:List W}{xs:List V},Reps K G ws xs->Reps K G (ws.drop n) (xs.drop n)
 |0,_,_,h=>h
 |n+1,[],_,h=>by cases h;rfl
 |n+1,w::ws,_,h=>by
  obtain⟨x,r,rfl,h1,h2⟩:=h;exact Reps.drop n h2
theorem Reps.dropLast(h:Reps K G ws xs):Reps K G ws.dropLast xs.dropLast:=by
 rw[w3l,w3l,h.length];exact h.take _
structure Zt where
 H:Hp
 G:Hp
 io:List Addr
variable{Z Z':Zt}
def FzAt(Z:Zt)(G H:Hp)(l:Addr)(o:Obj)(ys:List V):Prop:=H l=some (.frz o (.lst ys))/\G l=none/\Z.H l=none
def NestIn(K:PySem.W.Frag)(Z:Zt)(G H:Hp):List Addr->List (List W)->Prop
 |[],[]=>True
 |l::ls,ws::wss=>(∃o ys,FzAt Z G H l o ys/\Reps K G ws ys)/\NestIn K Z G H ls wss
 |[],_::_=>False
 |_::_,[]=>False
inductive NestOk(K:PySem.W.Frag)(Z:Zt)(G H:Hp)(wss:List (List W))(v:Option V):Prop where
 |mk (a:Addr) (ls:List Addr) (h1:v=some (.ref a)) (h2:G a=some (.lst (ls.map V.ref))) (h3:ls.Nodup) (h4:NestIn K Z G H ls wss):NestOk K Z G H wss v
theorem NestIn.move(sg:Same G G')(hf:∀l o ys,H l=some (.frz o (.lst ys))->G l=none->Z.H l=none->H' l=some (.frz o (.lst ys))/\G' l=none/\Z'.H l=none):∀{ls:List Addr}{wss:List (List W)},NestIn K Z G H ls wss->NestIn K Z' G' H' ls wss
 |[],[],_=>trivial
 |l::ls,ws::wss,⟨⟨o,ys,⟨h1,h2,h3⟩,h4⟩,h⟩=>⟨⟨o,ys,hf l o ys h1 h2 h3,Reps.mono sg ws h4⟩,h.move sg hf⟩
 |[],_::_,h=>h.elim
 |_::_,[],h=>h.elim
theorem NestOk.move{wss:List (List W)}{v:Option V}(q:NestOk K Z G H wss v)(sg:Same G G')(hf:∀l o ys,H l=some (.frz o (.lst ys))->G l=none->Z.H l=none->H' l=some (.frz o (.lst ys))/\G' l=none/\Z'.H l=none):NestOk K Z' G' H' wss v:=by
 obtain⟨a,ls,h1,h2,h3,h4⟩:=q;exact⟨a,ls,h1,sg _ _ h2,h3,h4.move sg hf⟩
inductive DwOk(K:PySem.W.Frag)(Z:Zt)(G H:Hp)(sh:Sh)(ks:List Kx)(ws:List W)(v:Option V):Prop where
 |mk (a:Addr) (kvs:List (Kx×V)) (kas:List Addr) (h1:v=some (.ref a)) (h2:H a=some (.dT sh kvs kas)) (h3:G a=none) (h4:Z.H a=none) (h5:kvs.map (·.1)=ks) (h6:KeysG G ks kas) (h7:Reps K G ws (kvs.map (·.2))):DwOk K Z G H sh ks ws v
theorem DwOk.move{sh:Sh}{ks:List Kx}{v:Option V}(q:DwOk K Z G H sh ks ws v)(sg:Same G G')(hf:∀a kvs kas,H a=some (.dT sh kvs kas)->G a=none->Z.H a=none->H' a=some (.dT sh kvs kas)/\G' a=none/\Z'.H a=none):DwOk K Z' G' H' sh ks ws v:=by
 obtain⟨a,kvs,kas,h1,h2,h3,h4,h5,h6,h7⟩:=q;obtain⟨k1,k2,k3⟩:=hf a kvs kas h2 h3 h4;exact⟨a,kvs,kas,h1,k1,k2,k3,h5,h6.mono sg,Reps.mono sg ws h7⟩
mutual
def RepN(K:PySem.W.Frag)(Z:Zt)(G:Hp):W->V->Prop
 |.non,v=>v=.non
 |.bl b,v=>v=.bl b
 |.int i,v=>v=.int i
 |.str x,v=>v=.str x
 |.tup ws,v=>RefTo v (SqT K G) fun _ xs=>RepNs K Z G ws xs
 |.lst ws,v=>RefTo v (fun a xs=>G a=some (.lst xs)) fun a xs=>Z.H a=none/\RepNs K Z G ws xs
 |.exc _,_=>False
 |.dic _,_=>False
 |.dw _ _ _ _,_=>False
 |.fn _ _ _,_=>False
def RepNs(K:PySem.W.Frag)(Z:Zt)(G:Hp):List W->List V->Prop
 |[],xs=>xs=[]
 |w::ws,xs=>ConsOf xs (RepN K Z G w) (RepNs K Z G ws)
end
mutual
theorem RepN.rep{K:PySem.W.Frag}{Z:Zt}{G:Hp}:∀(w:W){v:V},RepN K Z G w v->Rep K G w v
 |.non,_,h=>h
 |.bl _,_,h=>h
 |.int _,_,h=>h
 |.str _,_,h=>h
 |.tup ws,_,⟨a,xs,e,q,r⟩=>⟨a,xs,e,q,RepNs.reps ws r⟩
 |.lst ws,_,⟨a,xs,e,q,_,r⟩=>⟨a,xs,e,.inl (.inl q),RepNs.reps ws r⟩
 |.exc _,_,h=>h.elim
 |.dic _,_,h=>h.elim
 |.dw _ _ _ _,_,h=>h.elim
 |.fn _ _ _,_,h=>h.elim
theorem RepNs.reps{K:PySem.W.Frag}{Z:Zt}{G:Hp}:∀(ws:List W){vs:List V},RepNs K Z G ws vs->Reps K G ws vs
 |[],_,h=>h
 |w::ws,_,⟨x,r,e,p,q⟩=>⟨x,r,e,RepN.rep w p,RepNs.reps ws q⟩
end
mutual
theorem RepN.move{K:PySem.W.Frag}{Z Z':Zt}{G G':Hp}(sg:Same G G')(hz:∀a xs,G a=some (.lst xs)->Z.H a=none->Z'.H a=none):∀(w:W){v:V},RepN K Z G w v->RepN K Z' G' w v
 |.non,_,h=>h
 |.bl _,_,h=>h
 |.int _,_,h=>h
 |.str _,_,h=>h
 |.tup ws,_,⟨a,xs,e,q,r⟩=>⟨a,xs,e,sg.tup q,RepNs.move sg hz ws r⟩
 |.lst ws,_,⟨a,xs,e,q,n,r⟩=>⟨a,xs,e,sg _ _ q,hz _ _ q n,RepNs.move sg hz ws r⟩
 |.exc _,_,h=>h.elim
 |.dic _,_,h=>h.elim
 |.dw _ _ _ _,_,h=>h.elim
 |.fn _ _ _,_,h=>h.elim
theorem RepNs.move{K:PySem.W.Frag}{Z Z':Zt}{G G':Hp}(sg:Same G G')(hz:∀a xs,G a=some (.lst xs)->Z.H a=none->Z'.H a=none):∀(ws:List W){vs:List V},RepNs K Z G ws vs->RepNs K Z' G' ws vs
 |[],_,h=>h
 |w::ws,_,⟨x,r,e,p,q⟩=>⟨x,r,e,RepN.move sg hz w p,RepNs.move sg hz ws q⟩
end
inductive AccOk(K:PySem.W.Frag)(Z:Zt)(G H:Hp)(ws:List W)(v:Option V):Prop where
 |mk (a:Addr) (o:Obj) (xs:List V) (h1:v=some (.ref a)) (h2:FzAt Z G H a o xs) (h3:RepNs K Z G ws xs):AccOk K Z G H ws v
inductive ThroOk(K:PySem.W.Frag)(Z:Zt)(G H:Hp)(us ws vs:List W)(v:Option V):Prop where
 |mk (t l:Addr) (o:Obj) (xs ys zs:List V) (h1:v=some (.ref t)) (h2:Z.G t=some (.tup (xs++.ref l::zs))) (h3:G t=some (.tup (xs++.ref l::zs))) (h4:FzAt Z G H l o ys) (h5:Reps K Z.G us xs/\Reps K Z.G ws ys/\Reps K Z.G vs zs) (h6:Reps K G us xs/\Reps K G ws ys/\Reps K G vs zs):ThroOk K Z G H us ws vs v
inductive TnOk(K:PySem.W.Frag)(Z:Zt)(G H:Hp)(us:List W)(wss:List (List W))(v:Option V):Prop where
 |mk (t l:Addr) (o:Obj) (ls:List Addr) (xs:List V) (h1:v=some (.ref t)) (h2:G t=some (.tup (xs++[.ref l]))) (h3:FzAt Z G H l o (ls.map V.ref)) (h4:ls.Nodup/\l∉ls) (h5:Reps K G us xs) (h6:NestIn K Z G H ls wss):TnOk K Z G H us wss v
inductive PtOk(K:PySem.W.Frag)(Z:Zt)(G H:Hp)(us ws:List W)(w:W)(v:Option V):Prop where
 |mk (p t l:Addr) (o:Obj) (xs ys:List V) (x:V) (h1:v=some (.ref p)) (h2:G p=some (.tup [.ref t,x])) (h3:G t=some (.tup (xs++[.ref l]))) (h4:FzAt Z G H l o ys) (h5:Reps K G us xs) (h6:Reps K G ws ys) (h7:Rep K G w x):PtOk K Z G H us ws w v
def XOk(K:PySem.W.Frag)(Z:Zt)(G H:Hp):SK->Option V->Prop
 |.old w,v=>∃u,v=some u/\Rep K Z.G w u/\Rep K G w u
 |.new w,v=>∃u,v=some u/\RepN K Z G w u
 |.acc ws,v=>AccOk K Z G H ws v
 |.thro us ws vs,v=>ThroOk K Z G H us ws vs v
 |.tn us wss,v=>TnOk K Z G H us wss v
 |.pt us ws w,v=>PtOk K Z G H us ws w v
theorem XOk.move{k:SK}{v:Option V}(q:XOk K Z G H k v)(sg:Same G G')(hf:∀l o ys,H l=some (.frz o (.lst ys))->G l=none->Z.H l=none->H' l=some (.frz o (.lst ys))/\G' l=none/\Z.H l=none):XOk K Z G' H' k v:=by
 cases k with
 |old w=>obtain⟨u,h1,h2,h3⟩:=q;exact⟨u,h1,h2,Rep.mono sg w h3⟩
 |new w=>obtain⟨u,h1,h2⟩:=q;exact⟨u,h1,RepN.move sg (fun _ _ _ z=>z) w h2⟩
 |acc ws=>obtain⟨a,o,xs,h1,⟨h2,h3,h4⟩,h5⟩:=q;exact⟨a,o,xs,h1,hf _ _ _ h2 h3 h4,RepNs.move sg (fun _ _ _ z=>z) ws h5⟩
 |tn us wss=>obtain⟨t,l,o,ls,xs,h1,h2,⟨h3,h4,h5⟩,h6,h7,h8⟩:=q;exact⟨t,l,o,ls,xs,h1,sg _ _ h2,hf _ _ _ h3 h4 h5,h6,Reps.mono sg us h7,h8.move sg hf⟩
 |pt us ws w=>obtain⟨p,t,l,o,xs,ys,x,h1,h2,h3,⟨h4,h5,h6⟩,h7,h8,h9⟩:=q;exact⟨p,t,l,o,xs,ys,x,h1,sg _ _ h2,sg _ _ h3,hf _ _ _ h4 h5 h6,Reps.mono sg us h7,Reps.mono sg ws h8,Rep.mono sg w h9⟩
 |thro us ws vs=>obtain⟨t,l,o,xs,ys,zs,h1,h2,h3,⟨h4,h5,h6⟩,h7,h8,h9,h10⟩:=q;exact⟨t,l,o,xs,ys,zs,h1,h2,sg _ _ h3,hf _ _ _ h4 h5 h6,h7,Reps.mono sg us h8,Reps.mono sg ws h9,Reps.mono sg vs h10⟩
def IoOk(Z:Zt):Option Nat->Addr->Prop
 |none,a=>Z.H a=none
 |some j,a=>Z.io[j]?=some a
theorem IoOk.io(h:IoOk Z b a):a∈Z.io\/Z.H a=none:=by
 cases b with
 |none=>exact .inr h
 |some j=>exact .inl (w1a h)
inductive OwnOk(K:PySem.W.Frag)(Z:Zt)(G H:Hp)(b:Option Nat)(ws:List W)(v:Option V):Prop where
 |mk (a:Addr) (xs:List V) (h1:v=some (.ref a)) (h2:H a=some (.lst xs)) (h3:G a=none) (h4:IoOk Z b a) (h5:Reps K G ws xs):OwnOk K Z G H b ws v
inductive DicOk(Z:Zt)(G H:Hp)(kvs:Dd)(v:Option V):Prop where
 |mk (a:Addr) (h1:v=some (.ref a)) (h2:H a=some (dO kvs)) (h3:G a=none) (h4:Z.H a=none):DicOk Z G H kvs v
inductive ThrOk(K:PySem.W.Frag)(Z:Zt)(G H:Hp)(us ws vs:List W)(v:Option V):Prop where
 |mk (t l:Addr) (o:Obj) (xs ys zs:List V) (h1:v=some (.ref t)) (h2:G t=some (.tup (xs++.ref l::zs))) (h3:H l=some (.frz o (.lst ys))) (h4:G l=none) (h5:Z.H l=none) (h6:Reps K G us xs/\Reps K G ws ys/\Reps K G vs zs):ThrOk K Z G H us ws vs v
def SlotOk(K:PySem.W.Frag)(Z:Zt)(G H:Hp):S->Option V->Prop
 |.no,_=>True
 |.fr w,v=>∃u,v=some u/\Rep K G w u
 |.own b ws,v=>OwnOk K Z G H b ws v
 |.dic kvs,v=>DicOk Z G H kvs v
 |.thr us ws vs,v=>ThrOk K Z G H us ws vs v
 |.nest wss,v=>NestOk K Z G H wss v
 |.dw sh ks ws,v=>DwOk K Z G H sh ks ws v
 |.x k,v=>XOk K Z G H k v
structure Rel(K:PySem.W.Frag)(Z:Zt)(G:Hp)(σ:St)(H:Hp)(e:List S):Prop where
 sub:Same G H
 slot:∀(i:Nat)(s:S),e[i]?=some s->SlotOk K Z G H s (σ[i]?.getD none)
 len:e.length=σ.length
 dis:∀(i j:Nat)(b b':Option Nat)(ws ws':List W)(a:Addr),e[i]?=some (.own b ws)->e[j]?=some (.own b' ws')->σ[i]?=some (some (.ref a))->σ[j]?=some (some (.ref a))->i=j
 ent:∀a o,Z.H a=some o->a∉Z.io->H a=some o
 ion:∀a∈Z.io,H a≠none
 gen:∀a,Z.H a≠none->G a=Z.G a
inductive AtG(K:PySem.W.Frag)(Z:Zt)(σ:St)(H:Hp)(P:Hp->List S->Prop):Prop where
 |mk (G:Hp) (e:List S) (r:Rel K Z G σ H e) (h:P G e):AtG K Z σ H P
structure Grow(G H G' H':Hp):Prop where
 hh:Same H H'
 gg:Same G G'
 sub:Same G' H'
 new:∀a,H a≠none->G' a=G a
theorem Grow.refl(s:Same G H):Grow G H G H:=⟨.refl _,.refl _,s,fun _ _=>rfl⟩
theorem x9c(e:Same H H')(h:H a≠none):H' a≠none:=by
 cases q:H a with
 |none=>exact absurd q h
 |some o=>rw[e a o q];simp
theorem Grow.laid(s:Same G H){D:Addr}(h:H D=none)(o:HO):Grow G H (upd G D o) (upd H D o) where
 hh:=q2b h o
 gg:=q2b (s.free h) o
 sub:=fun b u e=>by
  by_cases hb:b=D
  ·subst hb;rw[q0g]at e |-;exact e
  ·rw[q0d hb]at e |-;exact s b u e
 new:=fun a ha=>by rw[q0d (fun z=>ha (by rw[z];exact h))]
theorem Grow.hid(s:Same G H){D:Addr}(h:H D=none)(o:HO):Grow G H G (upd H D o) where
 hh:=q2b h o
 gg:=.refl _
 sub:=fun b u e=>by
  have:=s b u e;rw[q0d (q0q this h)];exact this
 new:=fun a ha=>rfl
theorem Rel.grow(r:Rel K Z G σ H e)(g:Grow G H G' H'):Rel K Z G' σ H' e where
 sub:=g.sub
 slot:=fun i s h=>by
  have q:=r.slot i s h;cases s with
  |no=>trivial
  |fr w=>
   obtain⟨u,h1,h2⟩:=q;exact⟨u,h1,Rep.mono g.gg w h2⟩
  |own b ws=>
   obtain⟨a,xs,h1,h2,h3,h4,h5⟩:=q;exact⟨a,xs,h1,g.hh _ _ h2,by rw[g.new a (by rw[h2];simp)];exact h3,h4,Reps.mono g.gg ws h5⟩
  |dic kvs=>
   obtain⟨a,h1,h2,h3,h4⟩:=q;exact⟨a,h1,g.hh _ _ h2,by rw[g.new a (by rw[h2];simp)];exact h3,h4⟩
  |thr us ws vs=>
   obtain⟨t,l,o,xs,ys,zs,h1,h2,h3,h4,h5,h6,h7,h8⟩:=q;exact⟨t,l,o,xs,ys,zs,h1,g.gg _ _ h2,g.hh _ _ h3,by rw[g.new l (by rw[h3];simp)];exact h4,h5,Reps.mono g.gg us h6,Reps.mono g.gg ws h7,Reps.mono g.gg vs h8⟩
  |nest wss=>exact NestOk.move q g.gg fun l o ys h1 h2 h3=>⟨g.hh _ _ h1,by rw[g.new l (by rw[h1];simp)];exact h2,h3⟩
  |x k=>exact XOk.move q g.gg fun l o ys h1 h2 h3=>⟨g.hh _ _ h1,by rw[g.new l (by rw[h1];simp)];exact h2,h3⟩
  |dw sh ks ws=>exact DwOk.move q g.gg fun l o ys h1 h2 h3=>⟨g.hh _ _ h1,by rw[g.new l (by rw[h1];simp)];exact h2,h3⟩
 len:=r.len
 dis:=r.dis
 ent:=fun a o h n=>g.hh _ _ (r.ent a o h n)
 ion:=fun a h=>x9c g.hh (r.ion a h)
 gen:=fun a h=>by
  have:H a≠none:=by
   cases q:Z.H a with
   |none=>exact absurd q h
   |some o=>
    by_cases hi:a∈Z.io
    ·exact r.ion a hi
    ·rw[r.ent a o q hi];simp
  rw[g.new a this];exact r.gen a h
theorem Rel.own(r:Rel K Z G σ H e)(h:e[i]?=some (.own b ws)):∃a xs,σ[i]?=some (some (.ref a))/\H a=some (.lst xs)/\G a=none/\(IoOk Z b a)/\Reps K G ws xs:=by
 obtain⟨a,xs,h1,h2,h3,h4,h5⟩:=r.slot i _ h;refine⟨a,xs,?_,h2,h3,h4,h5⟩;cases q:σ[i]? with
 |none=>rw[q]at h1;cases h1
 |some z=>rw[q]at h1;rw[show z=some (V.ref a)from h1]
theorem Rel.fr(r:Rel K Z G σ H e)(h:e[i]?=some (.fr w)):∃v,σ[i]?=some (some v)/\Rep K G w v:=by
 obtain⟨v,h1,h2⟩:=r.slot i _ h;refine⟨v,?_,h2⟩;cases q:σ[i]? with
 |none=>rw[q]at h1;cases h1
 |some z=>rw[q]at h1;rw[show z=some v from h1]
theorem Rel.at(r:Rel K Z G σ H e){s:S}(h:e[i]?=some s)(hs:SlotOk K Z G H s (σ[i]?.getD none)->σ[i]?.getD none=some v):σ[i]?=some (some v):=by
 have h1:=hs (r.slot i _ h);cases q:σ[i]? with
 |none=>rw[q]at h1;cases h1
 |some z=>rw[q]at h1;rw[show z=some v from h1]
theorem Rel.plain(r:Rel K Z G σ H e){k:SK}(h:e[i]?=some (.x k))(hk:k.plain=some w):∃v,σ[i]?=some (some v)/\Rep K G w v:=by
 have q:=r.slot i _ h;cases k with
 |old w'=>cases hk;obtain⟨v,h1,_,h2⟩:=q;exact⟨v,r.at h fun _=>h1,h2⟩
 |new w'=>cases hk;obtain⟨v,h1,h2⟩:=q;exact⟨v,r.at h fun _=>h1,RepN.rep _ h2⟩
 |_=>cases hk
theorem Rel.mut(r:Rel K Z G σ H e){ws':List W}{xs':List V}(h:e[i]?=some (.own b ws))(ha:σ[i]?=some (some (.ref a)))(q:Reps K G ws' xs'):Rel K Z G σ (upd H a (.lst xs')) (e.set i (.own b ws')):=by
 obtain⟨a',xs,h1,h2,h3,h4,h5⟩:=r.own h;rw[ha]at h1;cases h1;have hi:i<e.length:=(w0a.mp h).1;refine⟨fun c o z=>?_,fun j s z=>?_,by simpa using r.len,fun j k b1 b2 w1 w2 c z1 z2 z3 z4=>?_,fun c o z n=>?_,fun c z=>?_,r.gen⟩
 ·rw[q0d (q0q z h3)];exact r.sub c o z
 ·by_cases hj:j=i
  ·subst hj;rw[w0l hi]at z;cases z;exact⟨a,xs',by rw[ha];rfl,q0g,h3,h4,q⟩
  ·rw[w0j (fun z=>hj z.symm)]at z
   have y:=r.slot j s z;cases s with
   |no=>trivial
   |fr w=>exact y
   |own b2 w2=>
    obtain⟨c,ys,y1,y2,y3,y4,y5⟩:=y;refine⟨c,ys,y1,?_,y3,y4,y5⟩;rw[q0d];exact y2;rintro rfl;obtain⟨c',_,z1,_⟩:=r.own z;rw[z1]at y1;cases y1;exact hj (r.dis j i _ _ _ _ _ z h z1 ha)
   |dic kvs=>
    obtain⟨c,y1,y2,y3,y4⟩:=y;refine⟨c,y1,?_,y3,y4⟩;rw[q0d (q06 y2 h2 (q5k rfl))];exact y2
   |thr us w2 vs=>
    obtain⟨t,l,o,xs2,ys,zs,y1,y2,y3,y4,y5,y6⟩:=y;refine⟨t,l,o,xs2,ys,zs,y1,y2,?_,y4,y5,y6⟩;rw[q0d (q06 y3 h2 (fun z=>nomatch z))];exact y3
   |nest wss=>exact NestOk.move y (.refl _) fun l o ys k1 k2 k3=>⟨by rw[q0d (q06 k1 h2 (fun z=>nomatch z))];exact k1,k2,k3⟩
   |x k=>exact XOk.move y (.refl _) fun l o ys k1 k2 k3=>⟨by rw[q0d (q06 k1 h2 (fun z=>nomatch z))];exact k1,k2,k3⟩
   |dw sh ks ws=>exact DwOk.move y (.refl _) fun l o ys k1 k2 k3=>⟨by rw[q0d (q06 k1 h2 (fun z=>nomatch z))];exact k1,k2,k3⟩
 ·have old:∀(k:Nat)(bb:Option Nat)(ww:List W),(e.set i (S.own b ws'))[k]?=some (.own bb ww)->∃b' w',e[k]?=some (.own b' w'):=fun k bb ww z=>by
   by_cases hk:k=i
   ·subst hk;exact⟨_,_,h⟩
   ·rw[w0j (fun z=>hk z.symm)]at z;exact⟨_,_,z⟩
  obtain⟨_,_,q1⟩:=old _ _ _ z1;obtain⟨_,_,q2⟩:=old _ _ _ z2;exact r.dis _ _ _ _ _ _ _ q1 q2 z3 z4
 ·by_cases hc:c=a
  ·subst hc;exfalso;rcases h4.io with h4|h4
   ·exact n h4
   ·rw[h4]at z;cases z
  ·rw[q0d hc];exact r.ent c o z n
 ·by_cases hc:c=a
  ·subst hc;rw[q0g];simp
  ·rw[q0d hc];exact r.ion c z
theorem Rel.freeze(r:Rel K Z G σ H e)(h:e[i]?=some (.own none ws)):∃v G',σ[i]?=some (some v)/\Same G G'/\Rep K G' (.lst ws) v/\Rel K Z G' σ H (e.set i (.fr (.lst ws))):=by
 obtain⟨a,xs,h1,h2,h3,h4,h5⟩:=r.own h;have h4:Z.H a=none:=h4;have sg:Same G (upd G a (.lst xs)):=q2b h3 _;have hi:i<e.length:=(w0a.mp h).1;have rp:Rep K (upd G a (.lst xs)) (.lst ws) (.ref a):=⟨a,xs,rfl,SqL.of q0g,Reps.mono sg ws h5⟩;refine⟨.ref a,upd G a (.lst xs),h1,sg,rp,⟨fun c o z=>?_,fun j s z=>?_,by simpa using r.len,fun j k b1 b2 w1 w2 c z1 z2 z3 z4=>?_,r.ent,r.ion,fun c z=>?_⟩⟩
 ·by_cases hc:c=a
  ·subst hc;rw[q0g]at z;cases z;exact h2
  ·rw[q0d hc]at z;exact r.sub c o z
 ·by_cases hj:j=i
  ·subst hj;rw[w0l hi]at z;cases z;exact⟨.ref a,by rw[h1];rfl,rp⟩
  ·rw[w0j (fun z=>hj z.symm)]at z
   have y:=r.slot j s z;cases s with
   |no=>trivial
   |fr w=>
    obtain⟨u,y1,y2⟩:=y;exact⟨u,y1,Rep.mono sg w y2⟩
   |own b2 w2=>
    obtain⟨c,ys,y1,y2,y3,y4,y5⟩:=y;refine⟨c,ys,y1,y2,?_,y4,Reps.mono sg w2 y5⟩;rw[q0d];exact y3;rintro rfl;obtain⟨c',_,z1,_⟩:=r.own z;rw[z1]at y1;cases y1;exact hj (r.dis j i _ _ _ _ _ z h z1 h1)
   |dic kvs=>
    obtain⟨c,y1,y2,y3,y4⟩:=y;refine⟨c,y1,y2,?_,y4⟩;rw[q0d (q06 y2 h2 (q5k rfl))];exact y3
   |thr us w2 vs=>
    obtain⟨t,l,o,xs2,ys,zs,y1,y2,y3,y4,y5,y6,y7,y8⟩:=y;refine⟨t,l,o,xs2,ys,zs,y1,sg _ _ y2,y3,?_,y5,Reps.mono sg us y6,Reps.mono sg w2 y7,Reps.mono sg vs y8⟩;rw[q0d (q06 y3 h2 (fun z=>nomatch z))];exact y4
   |nest wss=>exact NestOk.move y sg fun l o ys k1 k2 k3=>⟨k1,by rw[q0d (q06 k1 h2 (fun z=>nomatch z))];exact k2,k3⟩
   |x k=>exact XOk.move y sg fun l o ys k1 k2 k3=>⟨k1,by rw[q0d (q06 k1 h2 (fun z=>nomatch z))];exact k2,k3⟩
   |dw sh ks ws=>exact DwOk.move y sg fun l o ys k1 k2 k3=>⟨k1,by rw[q0d (q06 k1 h2 (fun z=>nomatch z))];exact k2,k3⟩
 ·have old:∀(k:Nat)(bb:Option Nat)(ww:List W),(e.set i (S.fr (W.lst ws)))[k]?=some (.own bb ww)->e[k]?=some (.own bb ww):=fun k bb ww z=>by
   by_cases hk:k=i
   ·subst hk;rw[w0l hi]at z;cases z
   ·rw[w0j (fun z=>hk z.symm)]at z;exact z
  exact r.dis _ _ _ _ _ _ _ (old _ _ _ z1) (old _ _ _ z2) z3 z4
 ·by_cases hc:c=a
  ·subst hc;exact absurd h4 z
  ·rw[q0d hc];exact r.gen c z
def Free(σ:St)(e:List S)(a:Addr):Prop:=∀(j:Nat)(b:Option Nat)(ws:List W),e[j]?=some (.own b ws)->σ[j]?≠some (some (.ref a))
theorem Rel.set(r:Rel K Z G σ H e)(q:Rep K G w v):Rel K Z G (σ.set i (some v)) H (e.set i (.fr w)):=by
 refine⟨r.sub,fun j s z=>?_,by simpa using r.len,fun j k b1 b2 w1 w2 c z1 z2 z3 z4=>?_,r.ent,r.ion,r.gen⟩
 ·by_cases hj:j=i
  ·subst hj
   have hi:j<e.length:=by
    have:=(w0a.mp z).1;simpa using this
   rw[w0l hi]at z;cases z;rw[w0l (by rw[<- r.len];exact hi)];exact⟨v,rfl,q⟩
  ·rw[w0j (fun z=>hj z.symm)]at z |-
   exact r.slot j s z
 ·have old:∀(k:Nat)(bb:Option Nat)(ww:List W),(e.set i (S.fr w))[k]?=some (.own bb ww)->k≠i/\e[k]?=some (.own bb ww):=fun k bb ww z=>by
   by_cases hk:k=i
   ·subst hk
    have hi:k<e.length:=by
     have:=(w0a.mp z).1;simpa using this
    rw[w0l hi]at z;cases z
   ·rw[w0j (fun z=>hk z.symm)]at z;exact⟨hk,z⟩
  obtain⟨n1,q1⟩:=old _ _ _ z1;obtain⟨n2,q2⟩:=old _ _ _ z2;rw[w0j (fun z=>n1 z.symm)]at z3
  rw[w0j (fun z=>n2 z.symm)]at z4
  exact r.dis _ _ _ _ _ _ _ q1 q2 z3 z4
theorem Rel.setOwn(r:Rel K Z G σ H e)(h2:H a=some (.lst xs))(h3:G a=none)(h4:Z.H a=none)(hf:Free σ e a)(q:Reps K G ws xs):Rel K Z G (σ.set i (some (.ref a))) H (e.set i (.own none ws)):=by
 refine⟨r.sub,fun j s z=>?_,by simpa using r.len,fun j k b1 b2 w1 w2 c z1 z2 z3 z4=>?_,r.ent,r.ion,r.gen⟩
 ·by_cases hj:j=i
  ·subst hj
   have hi:j<e.length:=by
    have:=(w0a.mp z).1;simpa using this
   rw[w0l hi]at z;cases z;rw[w0l (by rw[<- r.len];exact hi)];exact⟨a,xs,rfl,h2,h3,h4,q⟩
  ·rw[w0j (fun z=>hj z.symm)]at z |-
   exact r.slot j s z
 ·have both:∀(k:Nat)(bb:Option Nat)(ww:List W),(e.set i (S.own none ws))[k]?=some (.own bb ww)->(σ.set i (some (.ref a)))[k]?=some (some (.ref c))->(k=i/\c=a)\/(k≠i/\e[k]?=some (.own bb ww)/\σ[k]?=some (some (.ref c))/\c≠a):=fun k bb ww z y=>by
   by_cases hk:k=i
   ·subst hk
    have hi:k<e.length:=by
     have:=(w0a.mp z).1;simpa using this
    rw[w0l (by rw[<- r.len];exact hi)]at y;cases y;exact .inl ⟨rfl,rfl⟩
   ·rw[w0j (fun z=>hk z.symm)]at z y
    exact .inr ⟨hk,z,y,fun e=>hf k bb ww z (by rw[y,e])⟩
  rcases both _ _ _ z1 z3 with⟨e1,c1⟩|⟨n1,q1,p1,c1⟩<;>rcases both _ _ _ z2 z4 with⟨e2,c2⟩|⟨n2,q2,p2,c2⟩
  ·rw[e1,e2]
  ·exact absurd c1 c2
  ·exact absurd c2 c1
  ·exact r.dis _ _ _ _ _ _ _ q1 q2 p1 p2
theorem Rel.forget(r:Rel K Z G σ H e){e':List S}(hl:e'.length=e.length)(h:∀(i:Nat)(s:S),e'[i]?=some s->s=.no\/e[i]?=some s):Rel K Z G σ H e':=by
 refine⟨r.sub,fun j s z=>?_,by rw[hl];exact r.len,fun j k b1 b2 w1 w2 c z1 z2 z3 z4=>?_,r.ent,r.ion,r.gen⟩
 ·rcases h j s z with rfl|q
  ·trivial
  ·exact r.slot j s q
 ·rcases h _ _ z1 with q1|q1
  ·cases q1
  ·rcases h _ _ z2 with q2|q2
   ·cases q2
   ·exact r.dis _ _ _ _ _ _ _ q1 q2 z3 z4
inductive R(α:Type) where
 |ok (a:α) (e:List S)|ex (c:Value) (e:List S)|no
noncomputable abbrev Den(α:Type):=List S->R α
variable{dA:Den (List W)}
noncomputable def R.bind{β:Type}:R α->(α->List S->R β)->R β
 |.ok a e,k=>k a e
 |.ex c e,_=>.ex c e
 |.no,_=>.no
def R.holds(r:R α)(P:α->List S->Prop)(E:Value->List S->Prop):Prop:=match r with
 |.ok a e=>P a e
 |.ex c e=>E c e
 |.no=>False
theorem R.holds_bind{β:Type}{r:R α}{k:α->List S->R β}{P:β->List S->Prop}:(r.bind k).holds P E↔r.holds (fun a e=>(k a e).holds P E) E:=by
 cases r<;>rfl
theorem R.holds.imp{r:R α}{P P':α->List S->Prop}{E':Value->List S->Prop}(h:r.holds P E)(p:∀a e,P a e->P' a e)(x:∀c e,E c e->E' c e):r.holds P' E':=by
 cases r with
 |ok a e=>exact p a e h
 |ex c e=>exact x c e h
 |no=>exact h
noncomputable def ofOpt(o:Option α)(e:List S):R α:=match o with
 |some a=>.ok a e
 |none=>.no
theorem ofOpt_holds{o:Option α}{P:α->List S->Prop}:(ofOpt o e).holds P E↔∃a,o=some a/\P a e:=by
 cases o with
 |none=>exact⟨fun h=>h.elim,fun⟨_,h,_⟩=>nomatch h⟩
 |some a=>exact⟨fun h=>⟨a,rfl,h⟩,fun⟨_,h,q⟩=>by cases h;exact q⟩
inductive SR where
 |nx (e:List S)|rt (s:S) (e:List S)|bk (e:List S)|ct (e:List S)|ex (c:Value) (e:List S)|no
section
variable(K:PySem.W.Frag)(Z:Zt)(EE:L2.St->XK)
abbrev XH(σ:St)(G:Hp):Value->List S->Prop:=fun c e'=>∀G' H',Rel K Z G' σ H' e'->Same G G'->EE σ c none H'
def liftE(d:Den W):TE:=fun σ H Q=>AtG K Z σ H fun G e=>(d e).holds (fun w e'=>∀G' v H',Rel K Z G' σ H' e'->Same G G'->Rep K G' w v->Q v H') (XH K Z EE σ G)
def liftA(d:Den (List W)):TA:=fun σ H Q=>AtG K Z σ H fun G e=>(d e).holds (fun ws e'=>∀G' vs H',Rel K Z G' σ H' e'->Same G G'->Reps K G' ws vs->Q vs H') (XH K Z EE σ G)
def liftT(d:Den Bool):TT:=fun σ H Q=>AtG K Z σ H fun G e=>(d e).holds (fun b e'=>∀G' H',Rel K Z G' σ H' e'->Same G G'->Q b H') (XH K Z EE σ G)
def liftF(d:Den (List W)):TE:=fun σ H Q=>AtG K Z σ H fun G e=>(d e).holds (fun ws e'=>∀G' a xs H',Rel K Z G' σ H' e'->Same G G'->H' a=some (.lst xs)->G' a=none->Z.H a=none->Free σ e' a->Reps K G' ws xs->Q (.ref a) H') (XH K Z EE σ G)
def PostS(D:Ends)(G:Hp):SR->Prop
 |.nx e'=>∀G' σ' H',Rel K Z G' σ' H' e'->Same G G'->D.nx σ' H'
 |.bk e'=>∀G' σ' H',Rel K Z G' σ' H' e'->Same G G'->D.bk σ' H'
 |.ct e'=>∀G' σ' H',Rel K Z G' σ' H' e'->Same G G'->D.ct σ' H'
 |.rt s e'=>∀G' σ' v H',Rel K Z G' σ' H' e'->Same G G'->SlotOk K Z G' H' s (some v)->D.rt v H'
 |.ex c e'=>∀G' σ' H',Rel K Z G' σ' H' e'->Same G G'->EE σ' c none H'
 |.no=>False
def liftS(d:List S->SR):TS:=fun D σ H=>AtG K Z σ H fun G e=>PostS K Z EE D G (d e)
end
section
variable(Z:Zt)(X:Cx)(EE:L2.St->XK)
def DE(e:Expr)(d:Den W):Prop:=PE X e (liftE X.K Z EE d)
def DF(e:Expr)(d:Den (List W)):Prop:=PE X e (liftF X.K Z EE d)
def DT(e:Expr)(d:Den Bool):Prop:=PT X e (liftT X.K Z EE d)
def DW(e:Expr)(d:Den Bool):Prop:=PW X e (liftT X.K Z EE d)
def DA(es:List Expr)(d:Den (List W)):Prop:=PA X es (liftA X.K Z EE d)
def DS(st:Stmt)(d:List S->SR):Prop:=PS X st (liftS X.K Z EE d)
def DSs(sts:List Stmt)(d:List S->SR):Prop:=PSs X sts (liftS X.K Z EE d)
end
theorem PE.mono{e:Expr}{t t':TE}(h:PE X e t)(i:∀σ H Q,t' σ H Q->t σ H Q):PE X e t':=fun pins s σ H Q I q=>h pins s σ H Q I (i σ H Q q)
theorem PT.mono{e:Expr}{t t':TT}(h:PT X e t)(i:∀σ H Q,t' σ H Q->t σ H Q):PT X e t':=fun pins s σ H Q I q=>h pins s σ H Q I (i σ H Q q)
theorem PW.mono{e:Expr}{t t':TT}(h:PW X e t)(i:∀σ H Q,t' σ H Q->t σ H Q):PW X e t':=fun wh pins s σ H Q I q=>h wh pins s σ H Q I (i σ H Q q)
theorem PA.mono{t t':TA}(h:PA X es t)(i:∀σ H Q,t' σ H Q->t σ H Q):PA X es t':=fun p pins s σ H Q I q=>h p pins s σ H Q I (i σ H Q q)
theorem PS.mono{t t':TS}(h:PS X st t)(i:∀D σ H,t' D σ H->t D σ H):PS X st t':=fun pins s σ H D I q=>h pins s σ H D I (i D σ H q)
theorem PSs.mono{st:List Stmt}{t t':TS}(h:PSs X st t)(i:∀D σ H,t' D σ H->t D σ H):PSs X st t':=fun pins s σ H D I q=>h pins s σ H D I (i D σ H q)
section
variable(K:PySem.W.Frag)
def Op2(r:R2)(f:W->W->Option W):Prop:=∀(G H:Hp)(x y:V)(wx wy w:W)(Q:VK),Same G H->Rep K G wx x->Rep K G wy y->f wx wy=some w->(∀G' v H',Grow G H G' H'->Rep K G' w v->Q v H')->r x y H Q
def OpN(r:List V->Hp->VK->Prop)(f:List W->Option W):Prop:=∀(G H:Hp)(xs:List V)(ws:List W)(w:W)(Q:VK),Same G H->Reps K G ws xs->f ws=some w->(∀G' v H',Grow G H G' H'->Rep K G' w v->Q v H')->r xs H Q
end
noncomputable def dC(w:W):Den W:=fun e=>.ok w e
noncomputable def dVar(i:Nat):Den W:=fun e=>match e[i]? with
 |some (.fr w)=>.ok w e
 |some (.own none ws)=>.ok (.lst ws) (e.set i (.fr (.lst ws)))
 |some (.x k)=>match k.plain with
  |some w=>.ok w e
  |none=>.no
 |_=>.no
noncomputable def dOp(f:W->W->Option W)(da db:Den W):Den W:=fun e=>(da e).bind fun x e1=>(db e1).bind fun y e2=>ofOpt (f x y) e2
noncomputable def dTest(da:Den W):Den Bool:=fun e=>(da e).bind fun x e1=>match x with
 |.bl k=>.ok k e1
 |_=>.no
noncomputable def truW:W->Option Bool
 |.non=>some false
 |.bl b=>some b
 |.int i=>some (i != 0)
 |.str x=>if x.length<=16777216 then some ((x.length:Int) != 0)else none
 |.tup xs=>some (!xs.isEmpty)
 |.lst xs=>some (!xs.isEmpty)
 |.exc _=>none
 |.dic _=>none
 |.dw _ _ _ _=>none
 |.fn _ _ _=>none
noncomputable def dTru(da:Den W):Den Bool:=fun e=>(da e).bind fun x e1=>ofOpt (truW x) e1
noncomputable def dAnd(a b:Den Bool):Den Bool:=fun e=>(a e).bind fun x e1=>if x=true then b e1 else .ok false e1
noncomputable def dOr(a b:Den Bool):Den Bool:=fun e=>(a e).bind fun x e1=>if x=true then .ok true e1 else b e1
noncomputable def dNot(a:Den Bool):Den Bool:=fun e=>(a e).bind fun x e1=>.ok (!x) e1
noncomputable def dAndV(a b:Den W):Den W:=fun e=>(a e).bind fun x e1=>match x with
 |.bl true=>b e1
 |.bl false=>.ok (.bl false) e1
 |_=>.no
noncomputable def dNotV(a:Den W):Den W:=fun e=>(a e).bind fun x e1=>match x with
 |.bl k=>.ok (.bl (!k)) e1
 |_=>.no
noncomputable def dIf(c:Den Bool)(a b:Den W):Den W:=fun e=>(c e).bind fun x e1=>if x=true then a e1 else b e1
noncomputable def dNil:Den (List W):=fun e=>.ok [] e
noncomputable def dCons(a:Den W)(r:Den (List W)):Den (List W):=fun e=>(a e).bind fun x e1=>(r e1).bind fun xs e2=>.ok (x::xs) e2
noncomputable def dTup(a:Den (List W)):Den W:=fun e=>(a e).bind fun xs e1=>if xs.length<=16777216 then .ok (.tup xs) e1 else .no
noncomputable def dLst(a:Den (List W)):Den (List W):=fun e=>(a e).bind fun xs e1=>if xs.length<=16777216 then .ok xs e1 else .no
noncomputable def dFz(a:Den (List W)):Den W:=fun e=>(a e).bind fun xs e1=>.ok (.lst xs) e1
noncomputable def dFn(f:List W->Option W)(a:Den (List W)):Den W:=fun e=>(a e).bind fun xs e1=>ofOpt (f xs) e1
section
variable{a b c e:Expr}{da db:Den W}{dc ta tb:Den Bool}
theorem XH.trans(s:Same G G1){c:Value}{e:List S}(h:XH K Z EE σ G c e):XH K Z EE σ G1 c e:=fun G' H' r q=>h G' H' r (s.trans q)
theorem q0b{i:Int}{j pos}:DE Z X EE (.Constant (.int i) j pos) (dC (.int i)):=PE.mono q1m fun σ H Q ⟨G,e,r,h⟩=>h G (.int i) H r (.refl _) rfl
theorem q1o{i:Bool}{j pos}:DE Z X EE (.Constant (.bool i) j pos) (dC (.bl i)):=PE.mono x7k fun σ H Q ⟨G,e,r,h⟩=>h G (.bl i) H r (.refl _) rfl
theorem q0r{i:Str}{j pos}:DE Z X EE (.Constant (.str i) j pos) (dC (.str i)):=PE.mono y78 fun σ H Q ⟨G,e,r,h⟩=>h G (.str i) H r (.refl _) rfl
theorem y1q:∀σ H Q,liftE K Z EE (dVar i) σ H Q->tVar i σ H Q:=by
 rintro σ H Q ⟨G,e,r,h⟩;unfold dVar at h;split at h
 ·rename_i w hw;obtain⟨v,h1,h2⟩:=r.fr hw;exact⟨v,h1,h G v H r (.refl _) h2⟩
 ·rename_i ws hw;obtain⟨v,G',h1,h2,h3,h4⟩:=r.freeze hw;exact⟨v,h1,h G' v H h4 h2 h3⟩
 ·rename_i k hw;cases q:k.plain with
  |some w=>
   rw[q]at h;obtain⟨v,h1,h2⟩:=r.plain hw q;exact⟨v,h1,h G v H r (.refl _) h2⟩
  |none=>rw[q]at h;exact h.elim
 ·exact h.elim
theorem dv(i:Nat)(hN:X.N[i]?=some x:=by rfl)(hv:Vis X.env.scope x:=by walk_at "1")(hd:(x==("__debug__":Str))=false:=by decide)
  (hcd:(x==("__classdict__":Str))=false:=by decide):DE Z X EE (.Name x pos) (dVar i):=PE.mono (pv i hN hv hd hcd) y1q
theorem q84{r:R2}(hf:Op2 K r f):∀σ H Q,liftE K Z EE (dOp f da db) σ H Q->tOp r (liftE K Z EE da) (liftE K Z EE db) σ H Q:=by
 rintro σ H Q ⟨G,e,rel,h⟩;simp only[dOp,R.holds_bind,ofOpt_holds]at h;refine⟨G,e,rel,h.imp (fun x e1 h G1 v1 H1 r1 s1 p1=>?_) fun _ _ h=>h⟩
 refine⟨G1,e1,r1,h.imp (fun y e2 h G2 v2 H2 r2 s2 p2=>?_) fun _ _ h=>XH.trans s1 h⟩
 obtain⟨w,hw,h⟩:=h;exact hf G2 H2 v1 v2 x y w Q r2.sub (Rep.mono s2 x p1) p2 hw fun G' v H' g p=>h G' v H' (r2.grow g) ((s1.trans s2).trans g.gg) p
theorem x0x{op:Operator}{r:R2}(ho:OpR X (binaryOp op) r)(hf:Op2 X.K r f)(ha:DE Z X EE a da)(hb:DE Z X EE b db):DE Z X EE (.BinOp a op b pos) (dOp f da db):=PE.mono (y3z ho ha hb) (q84 hf)
theorem q6y{op:CmpOp}{r:R2}(ho:OpR X (compareOp op) r)(hf:Op2 X.K r f)(ha:DE Z X EE a da)(hb:DE Z X EE b db)(hm:behindInMarks op b=false):DE Z X EE (.Compare a [op] [b] pos) (dOp f da db):=PE.mono (y4o ho ha hb hm) (q84 hf)
theorem x9d{Q:Bool->Hp->Prop}(h:liftT K Z EE (dTest da) σ H Q):liftE K Z EE da σ H (fun x H'=>∃k,x=.bl k/\Q k H'):=by
 obtain⟨G,e,rel,h⟩:=h;simp only[dTest,R.holds_bind]at h;refine⟨G,e,rel,h.imp (fun x e1 h G1 v1 H1 r1 s1 p1=>?_) fun _ _ h=>h⟩
 cases x with
 |bl k=>
  cases(show v1=V.bl k from p1);exact⟨k,rfl,h G1 H1 r1 s1⟩
 |_=>exact h.elim
theorem q59{op:CmpOp}{r:R2}(ho:OpR X (compareOp op) r)(hf:Op2 X.K r f)(ha:DE Z X EE a da)(hb:DE Z X EE b db)(hm:behindInMarks op b=false):DT Z X EE (.Compare a [op] [b] pos) (dTest (dOp f da db)):=
 PT.mono (q83 ho ha hb hm) fun σ H Q h=>q84 hf σ H _ (x9d h)
theorem y8u(s:Same G H){k:Bool}(h:Rep K G w v)(e:truW w=some k):TruV K v H k:=by
 cases w with
 |non=>cases(show v=.non from h);cases e;rfl
 |bl b=>cases(show v=.bl b from h);cases e;rfl
 |int i=>cases(show v=.int i from h);cases e;rfl
 |str x=>
  cases(show v=.str x from h);simp only[truW]at e;split at e
  ·cases e;exact⟨by rw[sizeLine_eq];assumption,rfl⟩
  ·cases e
 |tup ws=>
  obtain⟨p,xs,rfl,q,r⟩:=h;cases e;refine .inr (.inl ⟨xs,s.tup q,?_⟩);have:=r.length;cases ws<;>cases xs<;>simp_all
 |lst ws=>
  obtain⟨p,xs,rfl,q,r⟩:=h;cases e;refine .inl ⟨xs,s.seq q,?_⟩;have:=r.length;cases ws<;>cases xs<;>simp_all
 |exc _=>cases e
 |dic _=>cases e
 |dw _ _ _ _=>cases e
 |fn _ _ _=>cases e
theorem q19(ha:DE Z X EE a da)(he:∀whole,isTrue a X.env whole=(do let v <- whole;standAt a.pos;holding [v] (truthy v)):=by intro _;rfl):DT Z X EE a (dTru da):=by
 refine PT.mono (x35 ha he) ?_;rintro σ H Q ⟨G,e,rel,h⟩;simp only[dTru,R.holds_bind,ofOpt_holds]at h;refine⟨G,e,rel,h.imp (fun x e1 h G1 v1 H1 r1 s1 p1=>?_) fun _ _ h=>h⟩
 obtain⟨k,hk,h⟩:=h;exact⟨k,y8u r1.sub p1 hk,h G1 H1 r1 s1⟩
theorem y1r:∀σ H Q,liftT K Z EE (dAnd ta tb) σ H Q->tAnd (liftT K Z EE ta) (liftT K Z EE tb) σ H Q:=by
 rintro σ H Q ⟨G,e,rel,h⟩;simp only[dAnd,R.holds_bind]at h;refine⟨G,e,rel,h.imp (fun x e1 h G1 H1 r1 s1=>?_) fun _ _ h=>h⟩
 cases x with
 |true=>exact⟨G1,e1,r1,R.holds.imp (show(tb e1).holds _ _ from h) (fun y e2 h G2 H2 r2 s2=>h G2 H2 r2 (s1.trans s2)) fun _ _ h=>XH.trans s1 h⟩
 |false=>exact(show ∀G' H',_->_->Q false H' from h) G1 H1 r1 s1
theorem y42:∀σ H Q,liftT K Z EE (dOr ta tb) σ H Q->tOr (liftT K Z EE ta) (liftT K Z EE tb) σ H Q:=by
 rintro σ H Q ⟨G,e,rel,h⟩;simp only[dOr,R.holds_bind]at h;refine⟨G,e,rel,h.imp (fun x e1 h G1 H1 r1 s1=>?_) fun _ _ h=>h⟩
 cases x with
 |false=>exact⟨G1,e1,r1,R.holds.imp (show(tb e1).holds _ _ from h) (fun y e2 h G2 H2 r2 s2=>h G2 H2 r2 (s1.trans s2)) fun _ _ h=>XH.trans s1 h⟩
 |true=>exact(show ∀G' H',_->_->Q true H' from h) G1 H1 r1 s1
theorem q85(ha:DT Z X EE a ta):DW Z X EE (.BoolOp .And [a] pos) ta:=y4g ha
theorem q4o(ha:DT Z X EE a ta):DW Z X EE (.BoolOp .Or [a] pos) ta:=x8y ha
theorem x0y{rest:List Expr}(ha:DT Z X EE a ta)(hb:DW Z X EE (.BoolOp .And (b::rest) pos) tb):DW Z X EE (.BoolOp .And (a::b::rest) pos) (dAnd ta tb):=PW.mono (y79 ha hb) y1r
theorem q3u{rest:List Expr}(ha:DT Z X EE a ta)(hb:DW Z X EE (.BoolOp .Or (b::rest) pos) tb):DW Z X EE (.BoolOp .Or (a::b::rest) pos) (dOr ta tb):=PW.mono (y3y ha hb) y42
theorem dt_w(h:DW Z X EE a ta):DT Z X EE a ta:=PW.pt h
theorem q48(ha:DT Z X EE a ta):DT Z X EE (.UnaryOp .Not a pos) (dNot ta):=by
 refine PT.mono (y8a ha) ?_;rintro σ H Q ⟨G,e,rel,h⟩;simp only[dNot,R.holds_bind]at h;exact⟨G,e,rel,h.imp (fun x e1 h G1 H1 r1 s1=>h G1 H1 r1 s1) fun _ _ h=>h⟩
theorem x4c{op}(h:DE Z X EE a da):DE Z X EE (.BoolOp op [a] pos) da:=y8b h
theorem q6z{rest:List Expr}(ha:DE Z X EE a da)(hb:DE Z X EE (.BoolOp .And (b::rest) pos) db):DE Z X EE (.BoolOp .And (a::b::rest) pos) (dAndV da db):=by
 refine PE.mono (y8c ha hb) ?_;rintro σ H Q ⟨G,e,rel,h⟩;simp only[dAndV,R.holds_bind]at h;refine⟨G,e,rel,h.imp (fun x e1 h G1 v1 H1 r1 s1 p1=>?_) fun _ _ h=>h⟩
 cases x with
 |bl k=>
  cases(show v1=V.bl k from p1);cases k with
  |true=>exact⟨true,rfl,⟨G1,e1,r1,R.holds.imp (show(db e1).holds _ _ from h) (fun y e2 h G2 v2 H2 r2 s2 p2=>h G2 v2 H2 r2 (s1.trans s2) p2) fun _ _ h=>XH.trans s1 h⟩⟩
  |false=>exact⟨false,rfl,(show ∀G' v H',_->_->v=V.bl false->Q v H' from h) G1 _ H1 r1 s1 rfl⟩
 |_=>exact h.elim
theorem x9e(ha:DE Z X EE a da):DE Z X EE (.UnaryOp .Not a pos) (dNotV da):=by
 refine PE.mono (y8d ha) ?_;rintro σ H Q ⟨G,e,rel,h⟩;simp only[dNotV,R.holds_bind]at h;refine⟨G,e,rel,h.imp (fun x e1 h G1 v1 H1 r1 s1 p1=>?_) fun _ _ h=>h⟩
 cases x with
 |bl k=>
  cases(show v1=V.bl k from p1);exact⟨k,rfl,(show ∀G' v H',_->_->v=V.bl (!k)->Q v H' from h) G1 _ H1 r1 s1 rfl⟩
 |_=>exact h.elim
theorem q7n(hc:DT Z X EE c dc)(ha:DE Z X EE a da)(hb:DE Z X EE b db):DE Z X EE (.IfExp c a b pos) (dIf dc da db):=by
 refine PE.mono (x31 hc ha hb) ?_;rintro σ H Q ⟨G,e,rel,h⟩;simp only[dIf,R.holds_bind]at h;refine⟨G,e,rel,h.imp (fun x e1 h G1 H1 r1 s1=>?_) fun _ _ h=>h⟩
 cases x with
 |true=>exact⟨G1,e1,r1,R.holds.imp (show(da e1).holds _ _ from h) (fun y e2 h G2 v2 H2 r2 s2 p2=>h G2 v2 H2 r2 (s1.trans s2) p2) fun _ _ h=>XH.trans s1 h⟩
 |false=>exact⟨G1,e1,r1,R.holds.imp (show(db e1).holds _ _ from h) (fun y e2 h G2 v2 H2 r2 s2 p2=>h G2 v2 H2 r2 (s1.trans s2) p2) fun _ _ h=>XH.trans s1 h⟩
theorem q0c:DA Z X EE [] dNil:=PA.mono q1n fun σ H Q ⟨G,e,r,h⟩=>h G [] H r (.refl _) rfl
theorem q0a(ha:DE Z X EE e da)(hr:DA Z X EE es dA)(hs:starEach (e::es) X.env=(false,eval e X.env)::starEach es X.env:=by rfl):DA Z X EE (e::es) (dCons da dA):=by
 refine PA.mono (q0o ha hr hs) ?_;rintro σ H Q ⟨G,e,rel,h⟩;simp only[dCons,R.holds_bind]at h;refine⟨G,e,rel,h.imp (fun x e1 h G1 v1 H1 r1 s1 p1=>?_) fun _ _ h=>h⟩
 refine⟨G1,e1,r1,h.imp (fun xs e2 h G2 vs H2 r2 s2 p2=>?_) fun _ _ h=>XH.trans s1 h⟩
 exact h G2 (v1::vs) H2 r2 (s1.trans s2) ⟨v1,vs,rfl,Rep.mono s2 x p1,p2⟩
theorem q00{x1}(h:DA Z X EE es dA):DE Z X EE (.Tuple es x1 pos) (dTup dA):=by
 refine PE.mono (q55 h) ?_;rintro σ H Q ⟨G,e,rel,h⟩;simp only[dTup,R.holds_bind]at h;refine⟨G,e,rel,h.imp (fun ws e1 h G1 vs H1 r1 s1 p1=>?_) fun _ _ h=>h⟩
 split at h
 ·rename_i hl;refine⟨by rw[p1.length,sizeLine_eq];exact hl,fun p hp=>?_⟩
  have g:=Grow.laid r1.sub hp (.tup vs);exact(show ∀G' v H',_->_->Rep X.K G' (.tup ws) v->Q v H' from h) _ (.ref p) _ (r1.grow g) (s1.trans g.gg) ⟨p,vs,rfl,SqT.of q0g,Reps.mono g.gg ws p1⟩
 ·exact h.elim
theorem q7o{e:List S}(r:Rel K Z G σ H e){p:Addr}(hp:H p=none):Free σ e p:=fun j b ws h q=>by
 obtain⟨a,xs,h1,h2,_⟩:=r.own h;rw[q]at h1;cases h1;rw[hp]at h2;cases h2
theorem q5p{e:List S}(r:Rel K Z G σ H e){p:Addr}(hp:H p=none):Z.H p=none:=by
 cases q:Z.H p with
 |none=>rfl
 |some o=>
  by_cases hi:p∈Z.io
  ·exact absurd hp (r.ion p hi)
  ·rw[r.ent p o q hi]at hp;cases hp
theorem q91{e:List S}{Q:VK}{G0:Hp}(r:Rel K Z G σ H e)(s:Same G0 G)(p1:Reps K G ws vs)
  (h:∀G' a xs H',Rel K Z G' σ H' e->Same G0 G'->H' a=some (.lst xs)->G' a=none->Z.H a=none->Free σ e a->Reps K G' ws xs->Q (.ref a) H'):∀p,H p=none->Q (.ref p) (upd H p (.lst vs)):=fun p hp=>by
 have g:=Grow.hid r.sub hp (.lst vs);exact h G p vs _ (r.grow g) s q0g (r.sub.free hp) (q5p r hp) (q7o r hp) p1
theorem q07(h:DA Z X EE es dA):DF Z X EE (.List es pos) (dLst dA):=by
 refine PE.mono (x36 h) ?_;rintro σ H Q ⟨G,e,rel,h⟩;simp only[dLst,R.holds_bind]at h;refine⟨G,e,rel,h.imp (fun ws e1 h G1 vs H1 r1 s1 p1=>?_) fun _ _ h=>h⟩
 split at h
 ·rename_i hl;exact⟨by rw[p1.length,sizeLine_eq];exact hl,q91 r1 s1 p1 h⟩
 ·exact h.elim
theorem Rel.seen{e:List S}(r:Rel K Z G σ H e){a:Addr}(h:H a=some (.lst xs))(hg:G a=none)(hz:Z.H a=none)(hf:Free σ e a):Same G (upd G a (.lst xs))/\Rel K Z (upd G a (.lst xs)) σ H e:=by
 have sg:Same G (upd G a (.lst xs)):=q2b hg _;refine⟨sg,⟨fun c o z=>?_,fun j s z=>?_,r.len,r.dis,r.ent,r.ion,fun c z=>?_⟩⟩
 ·by_cases hc:c=a
  ·subst hc;rw[q0g]at z;cases z;exact h
  ·rw[q0d hc]at z;exact r.sub c o z
 ·have y:=r.slot j s z;cases s with
  |no=>trivial
  |fr w=>
   obtain⟨u,y1,y2⟩:=y;exact⟨u,y1,Rep.mono sg w y2⟩
  |own b2 w2=>
   obtain⟨c,ys,y1,y2,y3,y4,y5⟩:=y;refine⟨c,ys,y1,y2,?_,y4,Reps.mono sg w2 y5⟩;rw[q0d];exact y3;rintro rfl;obtain⟨c',_,z1,_⟩:=r.own z;rw[z1]at y1;cases y1;exact hf j b2 w2 z z1
  |dic kvs=>
   obtain⟨c,y1,y2,y3,y4⟩:=y;refine⟨c,y1,y2,?_,y4⟩;rw[q0d (q06 y2 h (q5k rfl))];exact y3
  |thr us w2 vs=>
   obtain⟨t,l,o,xs2,ys,zs,y1,y2,y3,y4,y5,y6,y7,y8⟩:=y;refine⟨t,l,o,xs2,ys,zs,y1,sg _ _ y2,y3,?_,y5,Reps.mono sg us y6,Reps.mono sg w2 y7,Reps.mono sg vs y8⟩;rw[q0d (q06 y3 h (fun z=>nomatch z))];exact y4
  |nest wss=>exact NestOk.move y sg fun l o ys k1 k2 k3=>⟨k1,by rw[q0d (q06 k1 h (fun z=>nomatch z))];exact k2,k3⟩
  |x k=>exact XOk.move y sg fun l o ys k1 k2 k3=>⟨k1,by rw[q0d (q06 k1 h (fun z=>nomatch z))];exact k2,k3⟩
  |dw sh ks ws=>exact DwOk.move y sg fun l o ys k1 k2 k3=>⟨k1,by rw[q0d (q06 k1 h (fun z=>nomatch z))];exact k2,k3⟩
 ·by_cases hc:c=a
  ·subst hc;exact absurd hz z
  ·rw[q0d hc];exact r.gen c z
theorem q1a(h:DF Z X EE e dA):DE Z X EE e (dFz dA):=by
 refine PE.mono h ?_;rintro σ H Q ⟨G,e,rel,h⟩;simp only[dFz,R.holds_bind]at h;refine⟨G,e,rel,h.imp (fun ws e1 h G1 a xs H1 r1 s1 q1 q2 q3 q4 p1=>?_) fun _ _ h=>h⟩
 obtain⟨sg,rg⟩:=r1.seen q1 q2 q3 q4;exact(show ∀G' v H',_->_->Rep X.K G' (.lst ws) v->Q v H' from h) _ (.ref a) _ rg (s1.trans sg) ⟨a,xs,rfl,SqL.of q0g,Reps.mono sg ws p1⟩
theorem x6s{f:List W->Option W}(hf:OpN K r f):∀σ H Q,liftE K Z EE (dFn f dA) σ H Q->tCB r (liftA K Z EE dA) σ H Q:=by
 rintro σ H Q ⟨G,e,rel,h⟩;simp only[dFn,R.holds_bind,ofOpt_holds]at h;refine⟨G,e,rel,h.imp (fun ws e1 h G1 vs H1 r1 s1 p1=>?_) fun _ _ h=>h⟩
 obtain⟨w,hw,h⟩:=h;exact hf G1 H1 vs ws w Q r1.sub p1 hw fun G' v H' g p=>h G' v H' (r1.grow g) (s1.trans g.gg) p
theorem q8d{id:String}{f:List W->Option W}(hc:CallR X (.builtin id) r)(hf:OpN X.K r f)(hv:bootBuiltins x=some (.builtin id))(hm:X.mg x=none)(ha:DA Z X EE (e::es) dA)(hg:Gl X x:=by rfl)(hn:x≠"__name__":=by decide)(hdb:(x==("__debug__":Str))=false:=by decide)
  (he:starEach (e::es) X.env=(false,eval e X.env)::starEach es X.env:=by rfl)(hpl:(backTo pos (starEach es X.env)).any (·.1)=false:=by rfl):DE Z X EE (.Call (.Name x p) (e::es) [] pos) (dFn f dA):=
 PE.mono (q7m hc hg hm hv ha hn hdb he hpl) (x6s hf)
theorem x9f{T:String}{f:List W->Option W}(hc:CallR X (.type T) r)(hf:OpN X.K r f)(hv:bootBuiltins x=some (.type T))(hm:X.mg x=none)(ha:DA Z X EE (e::es) dA)(hg:Gl X x:=by rfl)(hn:x≠"__name__":=by decide)(hdb:(x==("__debug__":Str))=false:=by decide)
  (he:starEach (e::es) X.env=(false,eval e X.env)::starEach es X.env:=by rfl)(hpl:(backTo pos (starEach es X.env)).any (·.1)=false:=by rfl):DE Z X EE (.Call (.Name x p) (e::es) [] pos) (dFn f dA):=
 PE.mono (x2s hc hg hm hv ha hn hdb he hpl) (x6s hf)
end
noncomputable def dNx:List S->SR:=fun e=>.nx e
noncomputable def dSeq(a b:List S->SR):List S->SR:=fun e=>match a e with
 |.nx e'=>b e'
 |r=>r
noncomputable def R.stm(r:R α)(k:α->List S->SR):SR:=match r with
 |.ok a e=>k a e
 |.ex c e=>.ex c e
 |.no=>.no
noncomputable def dRet(d:Den W):List S->SR:=fun e=>(d e).stm fun w e'=>.rt (.fr w) e'
noncomputable def dRetF(d:Den (List W)):List S->SR:=fun e=>(d e).stm fun ws e'=>.rt (.own none ws) e'
noncomputable def dRetO(i:Nat):List S->SR:=fun e=>match e[i]? with
 |some (.own none ws)=>.rt (.own none ws) e
 |some (.fr w)=>.rt (.fr w) e
 |_=>.no
noncomputable def dIfS(c:Den Bool)(a b:List S->SR):List S->SR:=fun e=>(c e).stm fun x e1=>if x=true then a e1 else b e1
noncomputable def dSet(i:Nat)(d:Den W):List S->SR:=fun e=>(d e).stm fun w e'=>.nx (e'.set i (.fr w))
noncomputable def dSetO(i:Nat)(d:Den (List W)):List S->SR:=fun e=>(d e).stm fun ws e'=>.nx (e'.set i (.own none ws))
noncomputable def forD(i:Nat)(b:List S->SR):List W->List S->SR
 |[],e=>.nx e
 |w::ws,e=>match b (e.set i (.fr w))with
  |.nx e'=>forD i b ws e'
  |.ct e'=>forD i b ws e'
  |.bk e'=>.nx e'
  |.rt s e'=>.rt s e'
  |.ex c e'=>.ex c e'
  |.no=>.no
noncomputable def whileD(c:Den Bool)(b:List S->SR):Nat->List S->SR
 |0,_=>.no
 |n+1,e=>(c e).stm fun x e1=>if x=true then(match b e1 with
  |.nx e'=>whileD c b n e'
  |.ct e'=>whileD c b n e'
  |.bk e'=>.nx e'
  |.rt s e'=>.rt s e'
  |.ex c e'=>.ex c e'
  |.no=>.no)else .nx e1
noncomputable def seqW:W->Option (List W)
 |.tup ws=>some ws
 |.lst ws=>some ws
 |_=>none
noncomputable def dFor(i:Nat)(d:Den W)(b:List S->SR):List S->SR:=fun e=>(d e).stm fun w e1=>match seqW w with
 |some ws=>forD i b ws e1
 |none=>.no
noncomputable def rangeW(lo hi:Int):List W:=(List.range (hi-lo).toNat).map fun k=>.int (lo+(k:Nat))
noncomputable def okI(j:Int):Bool:=Nat.ble j.natAbs 4611686018427387903
theorem x0z{j:Int}(h:okI j=true):-(2^62)<=j/\j<2^62:=by
 have z:j.natAbs<=4611686018427387903:=Nat.le_of_ble_eq_true h;have e:(2:Int)^62=4611686018427387904:=by decide
 rw[e];omega
theorem q8e{j:Int}(h1:-1000000000<=j)(h2:j<=1000000000):okI j=true:=Nat.ble_eq_true_of_le (by omega)
noncomputable def rng1:List W->Option (List W)
 |[.int j]=>if okI j=true then some (rangeW 0 j)else none
 |_=>none
noncomputable def rng2:List W->Option (List W)
 |[.int i,.int j]=>if okI i=true/\okI j=true then some (rangeW i j)else none
 |_=>none
noncomputable def dForR(i:Nat)(g:List W->Option (List W))(d:Den (List W))(b:List S->SR):List S->SR:=fun e=>(d e).stm fun w e1=>match g w with
 |some ws=>forD i b ws e1
 |none=>.no
section
variable{a c e tg:Expr}{rest body:List Stmt}{d:Den W}{dc:Den Bool}{s1 s2:List S->SR}
theorem PostS.trans{D:Ends}(s:Same G G1):∀{r:SR},PostS K Z EE D G r->PostS K Z EE D G1 r
 |.nx e',h=>fun G' σ' H' r q=>h G' σ' H' r (s.trans q)
 |.bk e',h=>fun G' σ' H' r q=>h G' σ' H' r (s.trans q)
 |.ct e',h=>fun G' σ' H' r q=>h G' σ' H' r (s.trans q)
 |.rt w e',h=>fun G' σ' v H' r q=>h G' σ' v H' r (s.trans q)
 |.ex c e',h=>fun G' σ' H' r q=>h G' σ' H' r (s.trans q)
 |.no,h=>h
theorem q2r{D:Ends}{r:R α}{k:α->List S->SR}(h:PostS K Z EE D G (r.stm k)):r.holds (fun a e'=>PostS K Z EE D G (k a e')) (XH K Z EE σ G):=by
 cases r with
 |ok a e=>exact h
 |ex c e=>exact fun G' H' r q=>h G' σ H' r q
 |no=>exact h
theorem q0s:DSs Z X EE [] dNx:=PSs.mono q82 fun D σ H ⟨G,e,r,h⟩=>h G σ H r (.refl _)
theorem y1s:∀D σ H,liftS K Z EE (dSeq s1 s2) D σ H->tSeq (liftS K Z EE s1) (liftS K Z EE s2) D σ H:=by
 rintro D σ H ⟨G,e,rel,h⟩;refine⟨G,e,rel,?_⟩;unfold dSeq at h;cases q:s1 e with
 |nx e'=>rw[q]at h;exact fun G' σ' H' r s=>⟨G',e',r,PostS.trans s h⟩
 |bk e'=>rw[q]at h;exact h
 |ct e'=>rw[q]at h;exact h
 |rt w e'=>rw[q]at h;exact h
 |ex c e'=>rw[q]at h;exact h
 |no=>rw[q]at h;exact h
theorem q0f(h1:DS Z X EE st s1)(h2:DSs Z X EE rest s2):DSs Z X EE (st::rest) (dSeq s1 s2):=PSs.mono (q1w h1 h2) y1s
theorem q0e(h1:DS Z X EE st s1):DSs Z X EE [st] s1:=q36 h1
theorem q0p(he:DE Z X EE e d):DS Z X EE (.Return (some e) pos) (dRet d):=by
 refine PS.mono (q5o he) ?_;rintro D σ H ⟨G,e,rel,h⟩;exact⟨G,e,rel,(q2r h).imp (fun w e1 h G1 v1 H1 r1 s1 p1=>h G1 σ v1 H1 r1 s1 ⟨v1,rfl,p1⟩) fun _ _ h=>h⟩
theorem x6t(he:DF Z X EE e dA):DS Z X EE (.Return (some e) pos) (dRetF dA):=by
 refine PS.mono (q5o he) ?_;rintro D σ H ⟨G,e,rel,h⟩;exact⟨G,e,rel,(q2r h).imp (fun w e1 h G1 a xs H1 r1 s1 q1 q2 q3 q4 p1=>h G1 σ (.ref a) H1 r1 s1 ⟨a,xs,rfl,q1,q2,q3,p1⟩) fun _ _ h=>h⟩
theorem y43(i:Nat)(hN:X.N[i]?=some x:=by rfl)(hv:Vis X.env.scope x:=by walk_at "1")(hd:(x==("__debug__":Str))=false:=by decide)
  (hcd:(x==("__classdict__":Str))=false:=by decide):DS Z X EE (.Return (some (.Name x p)) pos) (dRetO i):=by
 refine PS.mono (q5o (pv i hN hv hd hcd)) ?_;rintro D σ H ⟨G,e,rel,h⟩;unfold dRetO at h;split at h
 ·rename_i ws hw;obtain⟨a,xs,h1,h2,h3,h4,h5⟩:=rel.own hw;exact⟨.ref a,h1,h G σ _ H rel (.refl _) ⟨a,xs,rfl,h2,h3,h4,h5⟩⟩
 ·rename_i w hw;obtain⟨v,h1,h2⟩:=rel.fr hw;exact⟨v,h1,h G σ _ H rel (.refl _) ⟨v,rfl,h2⟩⟩
 ·exact h.elim
theorem y1t:∀D σ H,liftS K Z EE (dIfS dc s1 s2) D σ H->tIfS (liftT K Z EE dc) (liftS K Z EE s1) (liftS K Z EE s2) D σ H:=by
 rintro D σ H ⟨G,e,rel,h⟩;refine⟨G,e,rel,(q2r h).imp (fun x e1 h G1 H1 r1 q1=>?_) fun _ _ h=>h⟩
 cases x with
 |true=>exact⟨G1,e1,r1,PostS.trans q1 h⟩
 |false=>exact⟨G1,e1,r1,PostS.trans q1 h⟩
theorem q03{p q:List Stmt}(hc:DT Z X EE c dc)(ha:DSs Z X EE p s1)(hb:DSs Z X EE q s2):DS Z X EE (.If c p q pos) (dIfS dc s1 s2):=PS.mono (x0r hc ha hb) y1t
theorem q0z(i:Nat)(hN:X.N.Nodup)(he:DE Z X EE e d)(hi:X.N[i]?=some x:=by rfl)(hx:Loc X.env.scope x:=by walk_at "3")(hs:swapsWith e (some (.Name x pos')) pos.line X.env=pure false:=by rfl)(hf:X.fn x=true\/X.env.scope.names.lookup x=some .local:=by walk_at "2"):
  DS Z X EE (.Assign [.Name x pos'] e pos) (dSet i d):=by
 refine PS.mono (q6n i hN he hi hx hs hf) ?_;rintro D σ H ⟨G,e,rel,h⟩;exact⟨G,e,rel,(q2r h).imp (fun w e1 h G1 v1 H1 r1 q1 p1=>h G1 _ H1 (r1.set p1) q1) fun _ _ h=>h⟩
theorem q8f(i:Nat)(hN:X.N.Nodup)(he:DF Z X EE e dA)(hi:X.N[i]?=some x:=by rfl)(hx:Loc X.env.scope x:=by walk_at "3")(hs:swapsWith e (some (.Name x pos')) pos.line X.env=pure false:=by rfl)(hf:X.fn x=true\/X.env.scope.names.lookup x=some .local:=by walk_at "2"):
  DS Z X EE (.Assign [.Name x pos'] e pos) (dSetO i dA):=by
 refine PS.mono (q6n i hN he hi hx hs hf) ?_;rintro D σ H ⟨G,e,rel,h⟩;exact⟨G,e,rel,(q2r h).imp (fun w e1 h G1 a xs H1 r1 s1 q1 q2 q3 q4 p1=>h G1 _ H1 (r1.setOwn q1 q2 q3 q4 p1) s1) fun _ _ h=>h⟩
theorem q92(n:Nat)(hp:PassesOwn (model X.prog X.w) X.A X.env X.xe)(hc:DT Z X EE c dc)(hb:DSs Z X EE body s1):DS Z X EE (.While c body [] pos) (whileD dc s1 n):=by
 refine PS.mono (y1f hp hc hb) ?_;rintro D σ H ⟨G,e,rel,h⟩;refine⟨fun m σ' H'=>∃G' e',Rel X.K Z G' σ' H' e'/\Same G G'/\PostS X.K Z EE D G (whileD dc s1 m e'),⟨n,G,e,rel,.refl _,h⟩,?_⟩
 rintro m σ1 H1 ⟨G1,e1,r1,q1,h⟩;cases m with
 |zero=>exact h.elim
 |succ m=>
  refine⟨G1,e1,r1,(q2r (σ:=σ1) h).imp (fun x e2 h G2 H2 r2 q2=>?_) fun _ _ h=>XH.trans q1 h⟩
  cases x with
  |false=>exact h G2 σ1 H2 r2 (q1.trans q2)
  |true=>
   refine⟨fun σ' H'=>∃G' e',Rel X.K Z G' σ' H' e'/\Same G G'/\PostS X.K Z EE D G (whileD dc s1 m e'),fun σ' H' q=>⟨m,w1h _,q⟩,⟨G2,e2,r2,?_⟩⟩
   have sg:=q1.trans q2;have h:PostS X.K Z EE D G (match s1 e2 with|.nx e'=>whileD dc s1 m e'|.ct e'=>whileD dc s1 m e'|.bk e'=>.nx e'|.rt s e'=>.rt s e'|.ex c e'=>.ex c e'|.no=>.no):=h;cases q:s1 e2 with
   |nx e'=>rw[q]at h;exact fun G' σ' H' r s=>⟨G',e',r,sg.trans s,h⟩
   |ct e'=>rw[q]at h;exact fun G' σ' H' r s=>⟨G',e',r,sg.trans s,h⟩
   |bk e'=>rw[q]at h;exact fun G' σ' H' r s=>h G' σ' H' r (sg.trans s)
   |rt w e'=>rw[q]at h;exact fun G' σ' v H' r s=>h G' σ' v H' r (sg.trans s)
   |ex c e'=>rw[q]at h;exact fun G' σ' H' r s=>h G' σ' H' r (sg.trans s)
   |no=>rw[q]at h;exact h
theorem y1u{D:Ends}{x:V}{N:St->Hp->Prop}(r1:Rel K Z G1 σ H e1)(q1:Same G G1)(p:Rep K G1 w x)(h:PostS K Z EE D G (forD i s1 (w::ws) e1))
  (hN:∀G' σ' H' e',Rel K Z G' σ' H' e'->Same G G'->PostS K Z EE D G (forD i s1 ws e')->N σ' H'):gName i x σ H fun σ2 H2=>liftS K Z EE s1 {D with nx:=N,ct:=N,bk:=D.nx} σ2 H2:=by
 refine⟨G1,e1.set i (.fr w),r1.set p,?_⟩;unfold forD at h;cases q:s1 (e1.set i (.fr w))with
 |nx e'=>rw[q]at h;exact fun G' σ' H' r s=>hN G' σ' H' e' r (q1.trans s) h
 |ct e'=>rw[q]at h;exact fun G' σ' H' r s=>hN G' σ' H' e' r (q1.trans s) h
 |bk e'=>rw[q]at h;exact fun G' σ' H' r s=>h G' σ' H' r (q1.trans s)
 |rt w e'=>rw[q]at h;exact fun G' σ' v H' r s=>h G' σ' v H' r (q1.trans s)
 |ex c e'=>rw[q]at h;exact fun G' σ' H' r s=>h G' σ' H' r (q1.trans s)
 |no=>rw[q]at h;exact h
def iSeq(K:PySem.W.Frag)(tl:TE):TI:=fun σ H R=>tl σ H fun x H1=>∃a,x=.ref a/\(((∃xs,SqL K H1 a xs)/\R (Itl K a) H1)\/((∃xs,SqT K H1 a xs)/\R (Itt K a) H1))
theorem q8g{l:Expr}{tl:TE}(hl:PE X l tl):PI X tg l (iSeq X.K tl):=by
 intro pins s σ H R I h;refine thn (hl pins s σ H _ I h) fun v s1 ⟨x,H1,I1,r1,q1⟩=>?_
 obtain⟨a,e,q⟩:=q1;subst e;cases r1;rcases q with⟨⟨xs,hq⟩,q⟩|⟨⟨xs,hq⟩,q⟩
 ·obtain⟨its,rv,p,hz⟩:=I1.list hq;refine wpAny_pyIter_list p.isList ?_;refine⟨s1.heap.objs.size,[s1.heap.objs.size],_,_,H1,rfl,I1.kept (t':=s1.toks) fun b o e=>Heap.get?_push_of_some _ e,x8z a _,⟨_,Heap.get?_push_size _ rfl,rfl,rfl⟩,fun b hb=>?_,q⟩
  have e:b=s1.heap.objs.size:=by simpa using hb
  subst e;exact I1.fpOk (w0g _) (I1.hok.fresh (w0g _))
 ·obtain⟨its,rv,p,hz⟩:=I1.tuple hq;refine wpAny_pyIter_tuple (show s1.heap.IsTuple a its.toArray from p) ?_;refine⟨s1.heap.objs.size,[s1.heap.objs.size],_,_,H1,rfl,I1.kept (t':=s1.toks) fun b o e=>Heap.get?_push_of_some _ e,x7m a _,⟨_,Heap.get?_push_size _ rfl,rfl,rfl⟩,fun b hb=>?_,q⟩
  have e:b=s1.heap.objs.size:=by simpa using hb
  subst e;exact I1.fpOk (w0g _) (I1.hok.fresh (w0g _))
theorem x2u{ws:List α}{k:Nat}{w:α}(h:ws[k]?=some w):ws.drop k=w::ws.drop (k+1):=by
 obtain⟨hk,rfl⟩:=w0a.mp h;exact w2h hk
theorem x6u{i:Nat}{D:Ends}(r1:Rel K Z G1 σ H1 e1)(rp:Reps K G1 ws xs)(h:PostS K Z EE D G1 (forD i s1 ws e1))(SQ:Hp->Prop)(hSQ:∀G' H',Same G1 G'->Same G' H'->SQ H'):
  ∃Pv:Nat->St->Hp->Prop,Pv 0 σ H1/\(∀j σ H,j<=xs.length->Pv j σ H->SQ H)/\(∀(j:Nat) x σ H,xs[j]?=some x->Pv j σ H->gName i x σ H fun σ2 H2=>liftS K Z EE s1 {D with nx:=Pv (j+1),ct:=Pv (j+1),bk:=D.nx} σ2 H2)/\∀σ H,Pv xs.length σ H->D.nx σ H:=by
 refine⟨fun j σ' H'=>∃G' e',Rel K Z G' σ' H' e'/\Same G1 G'/\PostS K Z EE D G1 (forD i s1 (ws.drop j) e'),⟨G1,e1,r1,.refl _,h⟩,?_,?_,?_⟩
 ·rintro j σ' H' _ ⟨G',e',r',s',_⟩;exact hSQ G' H' s' r'.sub
 ·rintro j x σ' H' hx ⟨G',e',r',s',h⟩;obtain⟨w,hw,pw⟩:=rp.getV hx;rw[x2u hw]at h;exact y1u r' s' (Rep.mono s' w pw) h fun G'' σ'' H'' e'' r'' s'' h''=>⟨G'',e'',r'',s'',h''⟩
 ·rintro σ' H' ⟨G',e',r',s',h⟩;rw[rp.length,w2r]at h;exact h G' σ' H' r' s'
theorem x4d(i:Nat)(hN:X.N.Nodup)(hp:PassesOwn (model X.prog X.w) X.A X.env X.xe)(hc:X.calm=true)(hl:DE Z X EE e d)(hb:DSs Z X EE body s1)
  (hi:X.N[i]?=some x:=by rfl)(hx:Loc X.env.scope x:=by walk_at "3")(hf:X.fn x=true\/X.env.scope.names.lookup x=some .local:=by walk_at "2")(hs:∀x,foldedSetIterable e X.env x=pure x:=by intro _;rfl):
  DS Z X EE (.For (.Name x pos') e body [] pos) (dFor i d s1):=by
 refine PS.mono (x33 hp hc (q8g hl) (q4c i hN hi hx hf) hb hs) ?_;rintro D σ H ⟨G,e,rel,h⟩;refine⟨G,e,rel,(q2r h).imp (fun w e1 h G1 v1 H1 r1 q1 p1=>?_) fun _ _ h=>h⟩
 have key:=fun ws xs (rp:Reps X.K G1 ws xs) (h:PostS X.K Z EE D G (forD i s1 ws e1))=>x6u (i:=i) (D:=D) r1 rp (PostS.trans q1 h)
 cases w with
 |tup ws=>
  obtain⟨a,xs,rfl,hq,rp⟩:=p1;refine⟨a,rfl,.inr ⟨⟨xs,r1.sub.tup hq⟩,?_⟩⟩;obtain⟨Pv,h0,h1,h2,h3⟩:=key ws xs rp h (fun H'=>SqT X.K H' a xs) (fun G' H' s s'=>Same.tup s' (Same.tup s hq))
  exact y4j Pv h0 h1 h2 h3
 |lst ws=>
  obtain⟨a,xs,rfl,hq,rp⟩:=p1;refine⟨a,rfl,.inl ⟨⟨xs,r1.sub.seq hq⟩,?_⟩⟩;obtain⟨Pv,h0,h1,h2,h3⟩:=key ws xs rp h (fun H'=>SqL X.K H' a xs) (fun G' H' s s'=>Same.seq s' (Same.seq s hq))
  exact x34 Pv h0 h1 h2 h3
 |_=>exact h.elim
theorem x00{lo hi:Int}:Reps K G (rangeW lo hi) ((List.range (hi-lo).toNat).map fun k=>V.int (lo+(k:Nat))):=by
 unfold rangeW;generalize List.range (hi-lo).toNat=l
 induction l with
 |nil=>rfl
 |cons k l ih=>exact⟨_,_,rfl,rfl,ih⟩
theorem y44{i:Nat}{D:Ends}{lo hi:Int}(r1:Rel K Z G1 σ H1 e1)(h:PostS K Z EE D G1 (forD i s1 (rangeW lo hi) e1)):
  ∃W:Nat->Nat->St->Hp->Prop,(∃m,W 0 m σ H1)/\∀j m σ H,W j m σ H ->
   ((Itr lo (hi-lo).toNat).stop j H/\D.nx σ H)\/((Itr lo (hi-lo).toNat).go j H/\∃N:St->Hp->Prop,(∀σ' H',N σ' H'->∃m',m'<m/\W (j+1) m' σ' H')/\∀x H',(Itr lo (hi-lo).toNat).yld j H x H'->gName i x σ H' fun σ2 H2=>liftS K Z EE s1 {D with nx:=N,ct:=N,bk:=D.nx} σ2 H2):=by
 obtain⟨Pv,h0,h1,h2,h3⟩:=x6u (i:=i) (D:=D) r1 (x00 (lo:=lo) (hi:=hi)) h (fun _=>True) (fun _ _ _ _=>trivial)
 refine x81 Pv h0 (fun j σ' H' hj p=>h2 j _ σ' H' ?_ p) (fun σ' H' p=>h3 σ' H' (by simpa using p))
 simp[hj]
theorem q86(i:Nat){p1 p2:Pos}(hN:X.N.Nodup)(hp:PassesOwn (model X.prog X.w) X.A X.env X.xe)(hc:X.calm=true)(hm:X.mg "range"=none)(ha:DA Z X EE [a] dA)(hb:DSs Z X EE body s1)
  (hi:X.N[i]?=some x:=by rfl)(hx:Loc X.env.scope x:=by walk_at "3")(hf:X.fn x=true\/X.env.scope.names.lookup x=some .local:=by walk_at "2")(hg:Gl X "range":=by rfl)(hs1:starEach [a] X.env=[(false,eval a X.env)]:=by rfl)(hs:∀x,foldedSetIterable (.Call (.Name "range" p1) [a] [] p2) X.env x=pure x:=by intro _;rfl):
  DS Z X EE (.For (.Name x p) (.Call (.Name "range" p1) [a] [] p2) body [] pos) (dForR i rng1 dA s1):=by
 refine PS.mono (x33 hp hc (x2n hg hm ha hs1) (q4c i hN hi hx hf) hb hs) ?_;rintro D σ H ⟨G,e,rel,h⟩;refine⟨G,e,rel,(q2r h).imp (fun ws e1 h G1 vs H1 r1 q1 p1=>?_) fun _ _ h=>h⟩
 unfold rng1 at h;split at h
 ·rename_i hh;split at hh
  ·rename_i j;split at hh
   ·rename_i hj;cases hh;obtain⟨y,r,rfl,e1,e2⟩:=p1;cases(show y=V.int j from e1);cases(show r=[]from e2);refine⟨j,rfl,(x0z hj).1,(x0z hj).2,?_⟩;have z:=y44 (i:=i) (D:=D) r1 (PostS.trans q1 h)
    rwa [w3z]at z
   ·cases hh
  ·cases hh
 ·exact h.elim
end
open PyProof.Rows (envOfC)
inductive FR where
 |ok (s:S)|ex (c:Value)|no
variable{F:List W->FR}
noncomputable def spF(K:PySem.W.Frag)(F:List W->FR):Sp:=fun vs H Q E=>∃G ws,Same G H/\Reps K G ws vs/\match F ws with
 |.ok s=>∀G' H' v,Grow G H G' H'->SlotOk K ⟨H,G,[]⟩ G' H' s (some v)->Q v H'
 |.ex c=>∀H',Same H H'->E c none H'
 |.no=>False
noncomputable def SR.fn:SR->FR
 |.nx _=>.ok (.fr .non)
 |.rt s _=>.ok s
 |.ex c _=>.ex c
 |_=>.no
noncomputable def init(n:Nat)(ws:List W):List S:=ws.map .fr++List.replicate (n-ws.length) .no
theorem q6a{N:List Str}(s:Same G H)(r:Reps K G ws vs):Rel K ⟨H,G,[]⟩ G (L2.start N vs) H (init N.length ws):=by
 have hl:=r.length
 have hfr:∀(i:Nat)(s:S),(init N.length ws)[i]?=some s->(s=.no)\/∃w,s=.fr w/\ws[i]?=some w:=fun i s h=>by
  unfold init at h;rw[List.getElem?_append]at h;split at h
  ·rw[w0f]at h;obtain⟨w,h1,rfl⟩:=w0c.mp h;exact .inr ⟨w,rfl,h1⟩
  ·rw[w2l]at h;split at h
   ·cases h;exact .inl rfl
   ·cases h
 refine⟨s,fun i t h=>?_,?_,fun i j b b' w1 w2 a h1 h2 _ _=>?_,fun a o h _=>h,(fun a h=>nomatch h),fun a _=>rfl⟩
 ·rcases hfr i t h with rfl|⟨w,rfl,h1⟩
  ·trivial
  ·obtain⟨v,h2,h3⟩:=r.get h1;refine⟨v,?_,h3⟩;have hi:i<vs.length:=(w0a.mp h2).1;unfold L2.start;rw[w0u (by simpa using hi),w0f,h2];rfl
 ·unfold init L2.start;simp[hl]
 ·rcases hfr i _ h1 with z|⟨w,z,_⟩<;>cases z
theorem Rel.toGrow(r:Rel K ⟨H,G,[]⟩ G' σ H' e)(s:Same G G'):Grow G H G' H':=
 ⟨fun a o h=>r.ent a o h (by simp),s,r.sub,fun a h=>r.gen a h⟩
section
variable{P:Program}{w:World}{mg:Str->Option Value}{base:Heap}
theorem q8h{Q:VK}{E:XK}(h:spF K F vs H Q E):∃G ws,F ws≠.no/\Reps K G ws vs:=by
 obtain⟨G,ws,_,r,h⟩:=h;refine⟨G,ws,fun z=>?_,r⟩
 rw[z]at h;exact h
theorem q87{Q:VK}{E:XK}{r:SR}(he:r.fn=F ws)(h:match F ws with
  |.ok s=>∀G' H' v,Grow G H G' H'->SlotOk K ⟨H,G,[]⟩ G' H' s (some v)->Q v H'
  |.ex c=>∀H',Same H H'->E c none H'
  |.no=>False):PostS K ⟨H,G,[]⟩ (fun _=>E) {nx:=fun _ H'=>Q .non H',rt:=Q} G r:=by
 rw[<- he]at h;cases r with
 |nx e=>exact fun G' σ' H' r s=>h G' H' .non (r.toGrow s) ⟨.non,rfl,rfl⟩
 |rt s e=>exact fun G' σ' v H' r q p=>h G' H' v (r.toGrow q) p
 |ex c e=>exact fun G' σ' H' r s=>h H' (r.toGrow s).hh
 |bk e=>exact h.elim
 |ct e=>exact h.elim
 |no=>exact h.elim
theorem con{N ps:List Str}{k:Nat}(A:At K mg x st ps)(sc:FnScope N ps (defScope st))(len:∀ws,F ws≠.no->ws.length=ps.length)
  (hb:∀ws,F ws≠.no->∀(f:Addr)(cdv:Value)(A:Around)(outer:List Env)(s:Shared)(H:Hp)(E:XK)(Z:Zt),Room k (A.deeper (envOfC x (defScope st) s.heap.objs.size f cdv)) ->
   ∃d,DSs Z (cxOf (CX1 P w) P w K mg base N x (defScope st) f cdv A outer s H E) (fun _=>E) (defBody st) d/\(d (init N.length ws)).fn=F ws):Cal P w K mg base (k+1) x ps (spF K F):=by
 refine A.cal sc (fun vs H Q E h=>?_) (fun f cdv A outer s H vs Q E hr h=>?_)
 ·obtain⟨G,ws,hn,r⟩:=q8h h;rw[r.length];exact len ws hn
 ·have hn0:=h;obtain⟨G,ws,sg,rp,h⟩:=h;have hn:F ws≠.no:=fun z=>by rw[z]at h;exact h
  obtain⟨d,hd,he⟩:=hb ws hn f cdv A outer s H E ⟨H,G,[]⟩ hr;exact⟨_,hd,G,init N.length ws,q6a sg rp,q87 he h⟩
end
noncomputable def dCall(F:List W->FR)(dA:Den (List W)):Den W:=fun e=>(dA e).bind fun ws e1=>match F ws with
 |.ok (.fr w)=>.ok w e1
 |.ok (.own none ws')=>.ok (.lst ws') e1
 |.ok (.dic kvs)=>.ok (.dic kvs) e1
 |.ok (.thr us ws vs)=>.ok (.tup (us++.lst ws::vs)) e1
 |.ok (.x (.new w))=>.ok w e1
 |.ok (.x (.tn us wss))=>.ok (.tup (us++[.lst (wss.map .lst)])) e1
 |.ex c=>.ex c e1
 |_=>.no
section
variable{e:Expr}{k:Nat}{ps:List Str}
theorem x4e{s:S}(r1:Rel K Z G1 σ H1 e1)(g:Grow G1 H1 G' H')(q:SlotOk K ⟨H1,G1,[]⟩ G' H' s (some v))(hs:s=.fr w\/∃ws,s=.own none ws/\w=.lst ws):
  ∃G'',Rel K Z G'' σ H' e1/\Same G1 G''/\Rep K G'' w v:=by
 rcases hs with rfl|⟨ws,rfl,rfl⟩
 ·obtain⟨u,h1,h2⟩:=q;cases h1;exact⟨G',r1.grow g,g.gg,h2⟩
 ·obtain⟨a,xs,h1,h2,h3,h4,h5⟩:=q;cases h1;have hn:H1 a=none:=h4;obtain⟨sg,rg⟩:=(r1.grow g).seen h2 h3 (q5p r1 hn) (q7o r1 hn);exact⟨_,rg,g.gg.trans sg,⟨a,xs,rfl,SqL.of q0g,Reps.mono sg ws h5⟩⟩
theorem x9g{kvs:Dd}(r1:Rel K Z G1 σ H1 e1)(g:Grow G1 H1 G' H')(q:SlotOk K ⟨H1,G1,[]⟩ G' H' (.dic kvs) (some v)):
  ∃G'',Rel K Z G'' σ H' e1/\Same G1 G''/\Rep K G'' (.dic kvs) v:=by
 obtain⟨a,h1,h2,h3,h4⟩:=q;cases h1;have hn:H1 a=none:=h4;have r:=r1.grow g;have sg:Same G' (upd G' a (dO kvs)):=q2b h3 _;refine⟨upd G' a (dO kvs),⟨fun c o z=>?_,fun j s z=>?_,r.len,r.dis,r.ent,r.ion,fun c z=>?_⟩,g.gg.trans sg,⟨a,rfl,q0g⟩⟩
 ·by_cases hc:c=a
  ·subst hc;rw[q0g]at z;cases z;exact h2
  ·rw[q0d hc]at z;exact r.sub c o z
 ·have y:=r.slot j s z;have y1:=r1.slot j s z;cases s with
  |no=>trivial
  |fr w=>
   obtain⟨u,y1,y2⟩:=y;exact⟨u,y1,Rep.mono sg w y2⟩
  |own b2 w2=>
   obtain⟨c,ys,x1,x2,x3,x4,x5⟩:=y;refine⟨c,ys,x1,x2,?_,x4,Reps.mono sg w2 x5⟩;rw[q0d (q06 x2 h2 (fun z=>q5k rfl z.symm))];exact x3
  |dic kv=>
   obtain⟨c,x1,x2,x3,x4⟩:=y;obtain⟨c',w1,w2,_⟩:=y1;rw[x1]at w1;cases w1;refine⟨c,x1,x2,?_,x4⟩;rw[q0d (q0q w2 hn)];exact x3
  |thr us w2 vs=>
   obtain⟨t,l,o,xs2,ys,zs,x1,x2,x3,x4,x5,x6,x7,x8⟩:=y;refine⟨t,l,o,xs2,ys,zs,x1,sg _ _ x2,x3,?_,x5,Reps.mono sg us x6,Reps.mono sg w2 x7,Reps.mono sg vs x8⟩;rw[q0d (q06 x3 h2 (fun z=>q5k rfl z.symm))];exact x4
  |nest wss=>exact NestOk.move y sg fun l o ys k1 k2 k3=>⟨k1,by rw[q0d (q06 k1 h2 (fun z=>q5k rfl z.symm))];exact k2,k3⟩
  |x k=>exact XOk.move y sg fun l o ys k1 k2 k3=>⟨k1,by rw[q0d (q06 k1 h2 (fun z=>q5k rfl z.symm))];exact k2,k3⟩
  |dw sh ks ws=>exact DwOk.move y sg fun l o ys k1 k2 k3=>⟨k1,by rw[q0d (q06 k1 h2 (fun z=>q5k rfl z.symm))];exact k2,k3⟩
 ·by_cases hc:c=a
  ·subst hc;exact absurd (q5p r1 hn) z
  ·rw[q0d hc];exact r.gen c z
theorem x9h{us vs:List W}(r1:Rel K Z G1 σ H1 e1)(g:Grow G1 H1 G' H')(q:SlotOk K ⟨H1,G1,[]⟩ G' H' (.thr us ws vs) (some v)):
  ∃G'',Rel K Z G'' σ H' e1/\Same G1 G''/\Rep K G'' (.tup (us++.lst ws::vs)) v:=by
 obtain⟨t,l,o,xs,ys,zs,h1,h2,h3,h4,h5,h6,h7,h8⟩:=q;cases h1;have hn:H1 l=none:=h5;have r:=r1.grow g;have sg:Same G' (upd G' l (.frz o (.lst ys))):=q2b h4 _;refine⟨upd G' l (.frz o (.lst ys)),⟨fun c u z=>?_,fun j s z=>?_,r.len,r.dis,r.ent,r.ion,fun c z=>?_⟩,g.gg.trans sg,⟨t,_,rfl,SqT.of (sg _ _ h2),(Reps.mono sg us h6).append ⟨.ref l,zs,rfl,⟨l,ys,rfl,.inl (.inr ⟨o,q0g⟩),Reps.mono sg ws h7⟩,Reps.mono sg vs h8⟩⟩⟩
 ·by_cases hc:c=l
  ·subst hc;rw[q0g]at z;cases z;exact h3
  ·rw[q0d hc]at z;exact r.sub c u z
 ·have y:=r.slot j s z;have y1:=r1.slot j s z;cases s with
  |no=>trivial
  |fr w=>
   obtain⟨u,y1,y2⟩:=y;exact⟨u,y1,Rep.mono sg w y2⟩
  |own b2 w2=>
   obtain⟨c,ys,x1,x2,x3,x4,x5⟩:=y;refine⟨c,ys,x1,x2,?_,x4,Reps.mono sg w2 x5⟩;rw[q0d (q06 x2 h3 (fun z=>nomatch z))];exact x3
  |dic kv=>
   obtain⟨c,x1,x2,x3,x4⟩:=y;refine⟨c,x1,x2,?_,x4⟩;rw[q0d (q06 x2 h3 (q5k rfl))];exact x3
  |thr us w2 vs=>
   obtain⟨t1,l1,o1,xs1,ys1,zs1,w1,w2',w3,w4,w5,w6,w7,w8⟩:=y1;have sg2:=g.gg.trans sg;refine⟨t1,l1,o1,xs1,ys1,zs1,w1,sg2 _ _ w2',g.hh _ _ w3,?_,w5,Reps.mono sg2 us w6,Reps.mono sg2 w2 w7,Reps.mono sg2 vs w8⟩;rw[q0d (q0q w3 hn),g.new l1 (by rw[w3];simp)];exact w4
  |nest wss=>exact NestOk.move y1 (g.gg.trans sg) fun l1 o ys k1 k2 k3=>⟨g.hh _ _ k1,by rw[q0d (q0q k1 hn),g.new l1 (by rw[k1];simp)];exact k2,k3⟩
  |x k=>exact XOk.move y1 (g.gg.trans sg) fun l1 o ys k1 k2 k3=>⟨g.hh _ _ k1,by rw[q0d (q0q k1 hn),g.new l1 (by rw[k1];simp)];exact k2,k3⟩
  |dw sh ks ws=>exact DwOk.move y1 (g.gg.trans sg) fun l1 o ys k1 k2 k3=>⟨g.hh _ _ k1,by rw[q0d (q0q k1 hn),g.new l1 (by rw[k1];simp)];exact k2,k3⟩
 ·by_cases hc:c=l
  ·subst hc;exact absurd (q5p r1 hn) z
  ·rw[q0d hc];exact r.gen c z
theorem NestIn.mem0:∀{ls:List Addr}{wss:List (List W)},NestIn K Z G H ls wss->∀l∈ls,∃o ys,FzAt Z G H l o ys
 |[],_,_,_,hl=>nomatch hl
 |l::ls,ws::wss,⟨⟨o,ys,h1,_⟩,h⟩,c,hc=>by
  rcases w0i.mp hc with rfl|hc
  ·exact⟨o,ys,h1⟩
  ·exact h.mem0 c hc
 |_::_,[],h,_,_=>h.elim
theorem NestIn.reps0(sg:Same G G'):∀{ls:List Addr}{wss:List (List W)},(∀l∈ls,G' l=H l)->NestIn K Z G H ls wss->Reps K G' (wss.map W.lst) (ls.map V.ref)
 |[],[],_,_=>rfl
 |l::ls,ws::wss,hf,⟨⟨o,ys,h1,h4⟩,h⟩=>⟨.ref l,ls.map V.ref,rfl,⟨l,ys,rfl,.inl (.inr ⟨o,by rw[hf l (by simp)];exact h1.1⟩),Reps.mono sg ws h4⟩,h.reps0 sg fun c hc=>hf c (by simp[hc])⟩
 |[],_::_,_,h=>h.elim
 |_::_,[],_,h=>h.elim
theorem Rel.addNew(r1:Rel K Z G1 σ H1 e1)(g:Grow G1 H1 G' H')(As:List Addr) [DecidablePred (·∈As)](hA:∀c∈As,(∃o ys,H' c=some (.frz o (.lst ys)))/\G' c=none/\H1 c=none):
  Same G' (fun c=>if c∈As then H' c else G' c)/\Rel K Z (fun c=>if c∈As then H' c else G' c) σ H' e1:=by
 have sg:Same G' (fun c=>if c∈As then H' c else G' c):=fun c o z=>by
  show(if c∈As then H' c else G' c)=some o;rw[if_neg (fun m=>by rw[(hA c m).2.1]at z;cases z)];exact z
 refine⟨sg,r1.grow ⟨g.hh,g.gg.trans sg,fun c o z=>?_,fun c hc=>?_⟩⟩
 ·have z:(if c∈As then H' c else G' c)=some o:=z;split at z
  ·exact z
  ·exact g.sub c o z
 ·show(if c∈As then H' c else G' c)=G1 c;rw[if_neg (fun m=>hc (hA c m).2.2)];exact g.new c hc
theorem y1v{us:List W}{wss:List (List W)}(r1:Rel K Z G1 σ H1 e1)(g:Grow G1 H1 G' H')(q:SlotOk K ⟨H1,G1,[]⟩ G' H' (.x (.tn us wss)) (some v)):
  ∃G'',Rel K Z G'' σ H' e1/\Same G1 G''/\Rep K G'' (.tup (us++[.lst (wss.map .lst)])) v:=by
 classical
 obtain⟨t,l,o,ls,xs,h1,h2,⟨h3,h4,h5⟩,⟨h6,h7⟩,h8,h9⟩:=q;cases h1
 obtain⟨sg,r2⟩:=r1.addNew g (l::ls) fun c hc=>by
  rcases w0i.mp hc with rfl|hc
  ·exact⟨⟨o,_,h3⟩,h4,h5⟩
  ·obtain⟨o',ys,k1,k2,k3⟩:=h9.mem0 c hc;exact⟨⟨o',ys,k1⟩,k2,k3⟩
 refine⟨_,r2,g.gg.trans sg,t,_,rfl,SqT.of (sg _ _ h2),(Reps.mono sg us h8).append ⟨.ref l,[],rfl,⟨l,_,rfl,.inl (.inr ⟨o,?_⟩),h9.reps0 sg fun c hc=>if_pos (w0x _ hc)⟩,rfl⟩⟩
 show(if l∈l::ls then H' l else G' l)=_;rw[if_pos (w1e ..)];exact h3
theorem x7v{c:Value}(r1:Rel K Z G1 σ H1 e1)(s1:Same G G1)(h:XH K Z EE σ G c e1):∀H',Same H1 H'->EE σ c none H':=fun H' sh=>
 h G1 H' (r1.grow ⟨sh,.refl _,r1.sub.trans sh,fun _ _=>rfl⟩) s1
theorem q0n(C:Cal X.prog X.w X.K X.mg X.base k x ps (spF X.K F))(hr:Room k X.A)(hx:PassX (CX1 X.prog X.w) X EE)(ha:DA Z X EE (e::es) dA)(hg:Gl X x:=by rfl)
  (hdb:(x==("__debug__":Str))=false:=by decide)(he:starEach (e::es) X.env=(false,eval e X.env)::starEach es X.env:=by rfl)(hpl:(backTo pos (starEach es X.env)).any (·.1)=false:=by rfl):
  DE Z X EE (.Call (.Name x p) (e::es) [] pos) (dCall F dA):=by
 refine PE.mono (q6x C hr hx ha hg hdb he hpl) ?_;rintro σ H Q ⟨G,e,rel,h⟩;simp only[dCall,R.holds_bind]at h;refine⟨G,e,rel,h.imp (fun ws e1 h G1 vs H1 r1 s1 p1=>?_) fun _ _ h=>h⟩
 refine⟨G1,ws,r1.sub,by rw[w1p];exact p1,?_⟩;cases q:F ws with
 |ok s=>
  rw[q]at h;intro G' H' v g sl;cases s with
  |no=>exact h.elim
  |fr w=>
   obtain⟨G'',r2,s2,p2⟩:=x4e r1 g sl (.inl rfl);exact(show ∀G' v H',_->_->Rep X.K G' w v->Q v H' from h) G'' v H' r2 (s1.trans s2) p2
  |own b ws'=>
   cases b with
   |some _=>exact h.elim
   |none=>
    obtain⟨G'',r2,s2,p2⟩:=x4e r1 g sl (.inr ⟨ws',rfl,rfl⟩);exact(show ∀G' v H',_->_->Rep X.K G' (.lst ws') v->Q v H' from h) G'' v H' r2 (s1.trans s2) p2
  |dic kvs=>
   obtain⟨G'',r2,s2,p2⟩:=x9g r1 g sl;exact(show ∀G' v H',_->_->Rep X.K G' (.dic kvs) v->Q v H' from h) G'' v H' r2 (s1.trans s2) p2
  |thr us ws' vs'=>
   obtain⟨G'',r2,s2,p2⟩:=x9h r1 g sl;exact(show ∀G' v H',_->_->Rep X.K G' (.tup (us++.lst ws'::vs')) v->Q v H' from h) G'' v H' r2 (s1.trans s2) p2
  |nest _=>exact h.elim
  |x k=>
   cases k with
   |new w=>
    obtain⟨u,h1,h2⟩:=sl;cases h1;exact(show ∀G' v H',_->_->Rep X.K G' w v->Q v H' from h) G' _ H' (r1.grow g) (s1.trans g.gg) (RepN.rep _ h2)
   |tn us wss=>
    obtain⟨G'',r2,s2,p2⟩:=y1v r1 g sl;exact(show ∀G' v H',_->_->Rep X.K G' (.tup (us++[.lst (wss.map .lst)])) v->Q v H' from h) G'' v H' r2 (s1.trans s2) p2
   |_=>exact h.elim
  |dw _ _ _=>exact h.elim
 |ex c=>
  rw[q]at h;exact x7v r1 s1 h
 |no=>rw[q]at h;exact h.elim
end
end D
namespace L2
open PySem PySem.Spec PyProof.Rows
section
variable{X:Cx}{elt target iter:Expr}{ifs:List Expr}{scope:Scope}{pos:Pos}{wi:TI}{g:TG}{tc:TT}{te:TE}
theorem y1w{Nl Nf:List Str}{js:List Nat}{y:Str}{py spos:Pos}{gy:TG}(hc:X.calm=true)(hi:PI X target iter wi)
  (hk:scope.kind=.function)(hcell:∀y∈scope.names,y.2≠.cell)(hnames:∀x∈scope.names,x.2=.local->scope.names.lookup x.1=some .local)
  (hfree:∀x∈scope.names,x.2=.free->X.env.kindOf x.1=some .cell\/X.env.kindOf x.1=some .free)
  (hj:∀(i j:Nat) y,Nf[i]?=some y->js[i]?=some j->X.N[j]?=some y)(hlen:js.length=Nf.length)
  (hNf:∀y∈Nf,(y,NameKind.free)∈scope.names/\Vis X.env.scope y/\X.env.kindOf y≠some .local)
  (hvis:∀y∈Nf,(relabel scope X.env).names.lookup y=some .cell\/(relabel scope X.env).names.lookup y=some .free)
  (hg:∀cl C s₀ H₀ ex,PG (X.cp (Nl++Nf) scope cl C s₀ H₀ ex) target g)(ht:∀cl C s₀ H₀ ex,PTs (X.cp (Nl++Nf) scope cl C s₀ H₀ ex) ifs tc)(he:∀cl C s₀ H₀ ex,PE (X.cp (Nl++Nf) scope cl C s₀ H₀ ex) elt te)
  (hgy:PG X (.Name y py) gy)(hsw:swapsWith (.ListComp elt [⟨target,iter,ifs,0⟩] scope pos) (some (.Name y py)) spos.line X.env=pure true)
  (hs:∀x,foldedSetIterable iter X.env x=pure x:=by intro _;rfl):
  PS X (.Assign [.Name y py] (.ListComp elt [⟨target,iter,ifs,0⟩] scope pos) spos) (tAsg (tComp wi Nl.length js g tc te) gy):=by
 intro pins s σ H D I h;obtain⟨cl,hclos,hcl,hcf⟩:=q5z (scope:=scope) (env:=X.env) fun x hx hf=>I.ok.has x.1 (hfree x hx hf)
 rw[exec_Assign_Name_used _ _ _ _ hsw];refine wpAny_bind (wpAny_standAt (wpAny_bind ?_));show wpAny _ _ (do let _ <- comprehension _ _ _ _ _ _ _ _) _ _ _;refine wpAny_bind (wpAny_comprehension_free (Q:=fun _ s''=>wpAny (model X.prog X.w) X.A (pure ()) (fun _ s3=>wpAny (model X.prog X.w) X.A (pure Flow.next) (SP X pins D) X.xe s3) X.xe s'') (use:=some (assign (.Name y py) X.env)) rfl hs hclos hk hnames (thn (hi pins s σ H _ I h) fun v s1 h1=>thn h1 fun itv s2 h2=>?_))
 obtain⟨it,fp,tn,J,H2,e,I2,T,st2,f2,rd⟩:=h2;subst e;refine wpAny_newObj_type (wpAny_newFunctionEnv hcell (by intro y hy;simp at hy) (fun h₁ hns₁ hsb₁=>?_) hk)
 dsimp only at hns₁ hsb₁ |-
 have szp:(s2.heap.push {cls:=.type "list", dict:=none,data:=.seq ([]:List Value).toArray}).objs.size=s2.heap.objs.size+1:=Heap.size_push ..;rw[szp]at hns₁ hsb₁ |-
 have fD:H2 s2.heap.objs.size=none:=I2.hok.fresh (w0g _);obtain⟨W,⟨m0,w0⟩,turn⟩:=rd s2.heap.objs.size fD;have obj2:=T.obj 0 s2.heap st2;have IS:=x4b (Nl:=Nl) (Nf:=Nf) (js:=js) (cl:=cl) (tk:=s2.toks+([]:List (Str×Value)).length) I2 f2 obj2 hk hcell hcl hcf hj hlen hNf hvis hns₁ hsb₁
 have upS:∀b u,s2.heap.get? b=some u->h₁.get? b=some u:=fun b u q=>by
  have hlt:=Heap.lt_size q;exact(hsb₁.2 b (w0r (w1s hlt))).trans (Heap.get?_push_of_some _ (Heap.get?_push_of_some _ q))
 have stS:tn 0 h₁:=T.keep 0 s2.heap h₁ st2 fun b hb o q=>upS b o q
 have noD:∀b∈fp,upd H2 s2.heap.objs.size (.lst []) b=none:=fun b hb=>by
  obtain⟨o,q,_⟩:=obj2 b hb;rw[q0d (w0r (Heap.lt_size q))];exact(f2 b hb).1
 have stat:∀{H':Hp},(∀b∈fp,H' b=none)->∀b∈fp,FpOk (X.cp (Nl++Nf) scope cl (s2.heap.objs.size+1) {s2 with heap:=s2.heap.push {cls:=.type "list", dict:=none,data:=.seq ([]:List Value).toArray}} (upd H2 s2.heap.objs.size (.lst [])) fp) [] H' b:=fun hn b hb=>by
  refine⟨hn b hb,(IS.ok.exf b hb).1,IS.ok.exfs b hb,.inl hb,(IS.ok.exf b hb).2,fun p hp=>(by cases hp)⟩
 have loop:∀s4:Shared,s4={s2 with heap:=h₁,toks:=s2.toks+([]:List (Str×Value)).length} ->
   codeAny (model X.prog X.w) X.A (.compLoop (.ListComp elt [⟨target,iter,ifs,0⟩] scope pos) 0 (.ref it) (.ref s2.heap.objs.size) (compEnvC scope cl (s2.heap.objs.size+1) X.env))
    (compPost (model X.prog X.w) X.A X.xe (some (assign (.Name y py) X.env)) (fun _ s''=>wpAny (model X.prog X.w) X.A (pure ()) (fun _ s3=>wpAny (model X.prog X.w) X.A (pure Flow.next) (SP X pins D) X.xe s3) X.xe s'') (.ref s2.heap.objs.size) (s2.heap.objs.size+1)) s4:=by
  rintro s4 rfl;refine x2t (fun n s'=>∃i H',Inv (X.cp (Nl++Nf) scope cl (s2.heap.objs.size+1) {s2 with heap:=s2.heap.push {cls:=.type "list", dict:=none,data:=.seq ([]:List Value).toArray}} (upd H2 s2.heap.objs.size (.lst [])) fp) [] (List.replicate Nl.length none++pj js σ) H' s'/\tn i s'.heap/\(∀b∈fp,H' b=none)/\W i n H') ?_ m0 ⟨0,_,IS,stS,noD,w0⟩
  rintro n s3 ⟨i,H3,I3,st3,fr3,w3⟩;rcases turn i n H3 w3 with⟨stop,qn⟩|⟨go,step⟩
  ·refine thn (T.done (X.cp (Nl++Nf) scope cl (s2.heap.objs.size+1) {s2 with heap:=s2.heap.push {cls:=.type "list", dict:=none,data:=.seq ([]:List Value).toArray}} (upd H2 s2.heap.objs.size (.lst [])) fp) rfl rfl rfl hc i [] s3 _ H3 _ I3 (stat fr3) st3 stop) fun r s5 ⟨hr,I5⟩=>?_
   subst hr;obtain⟨m5,hn5,_⟩:=I5.loc;obtain⟨o5,es5,ep5,ho5,hd5,hk5,hf5⟩:=id hn5;have J5:Inv X pins σ H3 s5:=x89 I2 f2 I5 (h':=s5.heap) ⟨rfl,fun _ _=>rfl⟩
   have fC:FpOk X pins H3 (s2.heap.objs.size+1):=I2.fpOk (w3r _) I5.free;have f1:∀b∈[s2.heap.objs.size+1],FpOk X pins H3 b:=fun b hb=>by rw[w0m.mp hb];exact fC
   have J6:=J5.pinned f1 (fun b hb=>by rw[w0m.mp hb];exact⟨o5,ho5,fun v z=>by rw[hd5]at z;cases z⟩)
   refine thn (hgy _ s5 σ H3 (.ref s2.heap.objs.size) _ _ J6 rfl qn) fun _ s6 ⟨σ6,H6,I6,q6⟩=>?_
   have pC:=I6.pin (s2.heap.objs.size+1,o5) (w0k _ (w0k _ (q3t (w0m.mpr rfl) ho5)));refine⟨m5,⟨o5,es5,ep5,pC.1,hd5,hk5,hf5⟩,fun h' hs'=>wpAny_pure (wpAny_pure ⟨σ6,H6,?_,q6⟩)⟩
   obtain⟨g0,g1,g2,g3,g4,g5⟩:=fC;exact I6.unpinned.turned (t':=s6.toks) (fun b o hb e=>(hs'.2 b hb).trans e) pC.2.1 g1 g3 g4 g5
  ·refine thn (T.item (X.cp (Nl++Nf) scope cl (s2.heap.objs.size+1) {s2 with heap:=s2.heap.push {cls:=.type "list", dict:=none,data:=.seq ([]:List Value).toArray}} (upd H2 s2.heap.objs.size (.lst [])) fp) rfl rfl rfl hc i [] s3 _ H3 _ I3 (stat fr3) st3 go) fun r s5 ⟨u,hr,h5⟩=>?_
   subst hr;refine thn h5 fun _ s6 ⟨x,H6,I6,r6,y6,st6,fr6⟩=>?_
   have I6':=I6.pinned (stat fr6) (T.obj _ _ st6);refine thn (hg _ _ _ _ _ _ s6 _ H6 x u _ I6' r6 (step x H6 y6)) fun _ s7 ⟨σ7,H7,I7,kp,q7⟩=>?_
   refine thn (ht _ _ _ _ _ _ s7 σ7 H7 _ I7 q7) fun ok s8 ⟨H8,I8,q8⟩=>?_
   have again:∀{σ9:St}{H9:Hp}{s9:Shared},Inv (X.cp (Nl++Nf) scope cl (s2.heap.objs.size+1) {s2 with heap:=s2.heap.push {cls:=.type "list", dict:=none,data:=.seq ([]:List Value).toArray}} (upd H2 s2.heap.objs.size (.lst [])) fp) ([]++pinsAt fp s6.heap) σ9 H9 s9 ->
     Kp (List.replicate Nl.length none++pj js σ) σ9->(∃m',m'<n/\W (i+1) m' H9)->∃m,m<n/\∃i H',Inv (X.cp (Nl++Nf) scope cl (s2.heap.objs.size+1) {s2 with heap:=s2.heap.push {cls:=.type "list", dict:=none,data:=.seq ([]:List Value).toArray}} (upd H2 s2.heap.objs.size (.lst [])) fp) [] (List.replicate Nl.length none++pj js σ) H' s9/\tn i s9.heap/\(∀b∈fp,H' b=none)/\W i m H':=fun {σ9 H9 s9} I9 hw ⟨m',hm,w9⟩=>by
    refine⟨m',hm,i+1,H9,I9.unpinned.weak (by rw[I9.len,<- IS.len]) hw,T.keep _ _ _ st6 fun b hb o q=>(I9.pin (b,o) (w0k _ (w0k _ (q3t hb q)))).1,fun b hb=>?_,w9⟩
    obtain⟨o,q,d⟩:=T.obj _ _ st6 b hb;exact(I9.pin (b,o) (w0k _ (w0k _ (q3t hb q)))).2.1
   cases ok with
   |false=>exact again I8 kp (by simpa using q8)
   |true=>
    have q8':=by simpa only[if_true]using q8
    refine thn (he _ _ _ _ _ _ s8 σ7 H8 _ I8 q8') fun y s9 ⟨yv,H9,I9,r9,ys,hD,hz,q9⟩=>?_
    refine thn (q78 _ s9 σ7 H9 (.ref s2.heap.objs.size) [yv] (.ref s2.heap.objs.size) [y] (fun v H'=>v=.non/\H'=upd H9 s2.heap.objs.size (.lst (ys++[yv]))) I9 rfl (.cons r9 .nil) ⟨_,ys,yv,rfl,rfl,hD,hz,rfl,rfl⟩) fun _ s10 ⟨_,H10,I10,_,_,e10⟩=>?_
    subst e10;exact again I10 kp q9
 exact codeAny_compStart_list (loop _ rfl) (T.self X.A 0 _ _ _ stS (loop _ rfl))
end
variable{X:Cx}
theorem x9i{y:Str}{py spos:Pos}{gy:TG}{elt target iter:Expr}{ifs:List Expr}{scope sc:Scope}{pos:Pos}{wi:TI}{g:TG}{tc:TT}{te:TE}{Nl Nf N:List Str}{js:List Nat}(hc:X.calm=true)(hi:PI X target iter wi)
  (ok:compOk sc scope N Nf js=true)
  (hg:∀cl C s₀ H₀ ex,PG (X.cp (Nl++Nf) scope cl C s₀ H₀ ex) target g)(ht:∀cl C s₀ H₀ ex,PTs (X.cp (Nl++Nf) scope cl C s₀ H₀ ex) ifs tc)(he:∀cl C s₀ H₀ ex,PE (X.cp (Nl++Nf) scope cl C s₀ H₀ ex) elt te)
  (hgy:PG X (.Name y py) gy)(hsw:swapsWith (.ListComp elt [⟨target,iter,ifs,0⟩] scope pos) (some (.Name y py)) spos.line X.env=pure true)
  (hsc:X.env.scope=sc:=by rfl)(hN:X.N=N:=by rfl)(hs:∀x,foldedSetIterable iter X.env x=pure x:=by intro _;rfl):
  PS X (.Assign [.Name y py] (.ListComp elt [⟨target,iter,ifs,0⟩] scope pos) spos) (tAsg (tComp wi Nl.length js g tc te) gy):=by
 unfold compOk at ok;simp only[w0t,w1c,beq_iff_eq,bne_iff_ne,w3k,w1i]at ok;obtain⟨⟨⟨⟨⟨⟨k1,k2⟩,k3⟩,k4⟩,k5⟩,k6⟩,k7⟩:=ok;have kind:∀x,X.env.kindOf x=sc.names.lookup x:=fun x=>by rw[<- hsc];rfl
 refine y1w hc hi k1 k2 (fun x hx hl=>(k3 x hx).resolve_left fun z=>z hl) (fun x hx hf=>?_) (fun i j y e1 e2=>?_) k5 (fun y hy=>?_) (fun y hy=>?_) hg ht he hgy hsw hs
 ·rw[kind];rcases k4 x hx with(z|z)|z
  ·exact absurd hf z
  ·exact .inl z
  ·exact .inr z
 ·have hlt:i<js.length:=(w0a.mp e2).1;have z:=k6 i hlt;rw[e1,e2]at z;rw[hN]
  simpa using z
 ·obtain⟨z1,z2⟩:=k7 y hy;refine⟨PySem.mem_of_lookup z1,?_,?_⟩
  ·rw[hsc];rcases z2 with z|z
   ·exact .inr (.inl z)
   ·exact .inr (.inr z)
  ·rw[kind];rcases z2 with z|z<;>(rw[z];decide)
 ·exact q57 (k7 y hy).1
def rCatS(K:PySem.W.Frag):R2:=fun x y H Q=>∃l b xs zs,x=.ref l/\y=.ref b/\SqL K H l xs/\SqL K H b zs/\xs.length+zs.length<=sizeLine/\∀p,H p=none->Q (.ref p) (upd H p (.lst (xs++zs)))
theorem y45:OpR X (binaryOp .Add) (rCatS X.K):=by
 intro pins s σ H x y v u Q I rx ry h;obtain⟨l,b,xs,zs,rfl,rfl,h1,h2,hz,q⟩:=h;cases rx;cases ry;obtain⟨its,r1,p1,_⟩:=I.list h1;obtain⟨its2,r2,p2,_⟩:=I.list h2;obtain⟨⟨cls,dd,data,sl⟩,ho,hc,n,hd⟩:=id p1.isList;obtain⟨⟨cls2,dd2,data2,sl2⟩,ho2,hc2,n2,hd2⟩:=id p2.isList;simp only at hc hd hc2 hd2;subst hc hd hc2 hd2;have l1:=r1.length;have l2:=r2.length;refine concat_meets ⟨_,ho,rfl⟩ ⟨_,ho2,rfl⟩ noFill_list_add seq_list_add PySem.F.slot_list_add PySem.F.entry_list_add (PySem.F.args_list_add_2 _ _) (list_addW l b its.toArray its2.toArray n n2 dd dd2 sl sl2 (by simp only[w0e];omega)) ⟨ho,ho2,?_⟩;have ea:its.toArray++its2.toArray=(its++its2).toArray:=by simp
 rw[ea];exact⟨.ref _,_,I.lnew (t':=s.toks) (r1.append r2) (by rw[w0h];omega),rfl,q _ I.fresh⟩
end L2
namespace D
open PySem L2
variable{a:Addr}{A:Around}{b:Bool}{X:Cx}{dA p:Den (List W)}{c cc:Den Bool}{d da db:Den W}{G G1 H:Hp}{hi lo:Int}{EE:L2.St->XK}{ps:List (W×W)}{es:List Expr}{js:List Nat}{e pe:List S}{q:List S->SR}{xs:List V}{ws:List W}{F:List W->FR}{f:List W->Option W}{i j kt n:Nat}{p1 p2 pn pos:Pos}{K:PySem.W.Frag}{s:Shared}{σ:St}{x y:Str}{α:Type}{v v':V}{cv u u':Value}{w w':W}{Z:Zt}
noncomputable def addW:W->W->Option W
 |.int i,.int j=>some (.int (i+j))
 |.str x,.str y=>if x.length+y.length<=16777216 then some (.str (x++y))else none
 |.tup xs,.tup ys=>if xs≠[]/\xs.length+ys.length<=16777216 then some (.tup (xs++ys))else none
 |.lst xs,.lst ys=>if xs.length+ys.length<=16777216 then some (.lst (xs++ys))else none
 |_,_=>none
noncomputable def subW:W->W->Option W
 |.int i,.int j=>some (.int (i-j))
 |_,_=>none
noncomputable def mulW:W->W->Option W
 |.int i,.int j=>if(-(2^64)<i/\i<2^64)\/(-(2^64)<j/\j<2^64)then some (.int (i*j))else none
 |_,_=>none
noncomputable def fdivW:W->W->Option W
 |.int i,.int j=>if 0<j/\j<1073741824 then some (.int (i / j))else none
 |_,_=>none
noncomputable def modW:W->W->Option W
 |.int i,.int j=>if 0<j then some (.int (i%j))else none
 |_,_=>none
noncomputable def ltW:W->W->Option W
 |.int i,.int j=>some (.bl (decide (i<j)))
 |_,_=>none
noncomputable def leW:W->W->Option W
 |.int i,.int j=>some (.bl (decide (i<=j)))
 |_,_=>none
noncomputable def gtW:W->W->Option W
 |.int i,.int j=>some (.bl (decide (j<i)))
 |_,_=>none
noncomputable def geW:W->W->Option W
 |.int i,.int j=>some (.bl (decide (j<=i)))
 |_,_=>none
theorem x9j:Op2 K (fun x y H Q=>rI0 (fun i j=>.int (i+j)) x y H Q\/((∃i j,x=.str i/\y=.str j/\i.length+j.length<=sizeLine/\Q (.str (i++j)) H)\/(rCatT K x y H Q\/rCatS K x y H Q))) addW:=by
 intro G H x y wx wy w Q s px py hf h;unfold addW at hf;split at hf
 ·cases hf;cases px;cases py;exact .inl ⟨_,_,rfl,rfl,h G _ H (.refl s) rfl⟩
 ·split at hf
  ·rename_i hl;cases hf;cases px;cases py;exact .inr (.inl ⟨_,_,rfl,rfl,by rw[sizeLine_eq];exact hl,h G _ H (.refl s) rfl⟩)
  ·cases hf
 ·rename_i us ws;split at hf
  ·rename_i hl;cases hf;obtain⟨a,xs,rfl,ha,ra⟩:=px;obtain⟨b,ys,rfl,hb,rb⟩:=py;have l1:=ra.length;have l2:=rb.length;refine .inr (.inr (.inl ⟨a,b,xs,ys,rfl,rfl,s.tup ha,s.tup hb,fun z=>hl.1 ?_,by rw[l1,l2,sizeLine_eq];exact hl.2,fun z=>?_,fun z p hp=>?_⟩))
   ·subst z;cases us with
    |nil=>rfl
    |cons _ _=>simp at l1
   ·subst z
    have:ws=[]:=by cases ws with
     |nil=>rfl
     |cons _ _=>simp at l2
    subst this;exact h G _ H (.refl s) ⟨a,xs,rfl,ha,by simpa using ra⟩
   ·have g:=Grow.laid s hp (.tup (xs++ys));exact h _ _ _ g ⟨p,_,rfl,SqT.of q0g,Reps.append (Reps.mono g.gg _ ra) (Reps.mono g.gg _ rb)⟩
  ·cases hf
 ·split at hf
  ·rename_i hl;cases hf;obtain⟨a,xs,rfl,ha,ra⟩:=px;obtain⟨b,ys,rfl,hb,rb⟩:=py;have l1:=ra.length;have l2:=rb.length;refine .inr (.inr (.inr ⟨a,b,xs,ys,rfl,rfl,s.seq ha,s.seq hb,by rw[l1,l2,sizeLine_eq];exact hl,fun p hp=>?_⟩))
   have g:=Grow.laid s hp (.lst (xs++ys));exact h _ _ _ g ⟨p,_,rfl,SqL.of q0g,Reps.append (Reps.mono g.gg _ ra) (Reps.mono g.gg _ rb)⟩
  ·cases hf
 ·cases hf
theorem y8v:Op2 K (rI0 fun i j=>.int (i-j)) subW:=by
 intro G H x y wx wy w Q s px py hf h;unfold subW at hf;split at hf
 ·cases hf;cases px;cases py;exact⟨_,_,rfl,rfl,h G _ H (.refl s) rfl⟩
 ·cases hf
theorem y8w:Op2 K (rI CMul fun i j=>.int (i*j)) mulW:=by
 intro G H x y wx wy w Q s px py hf h;unfold mulW at hf;split at hf
 ·split at hf
  ·rename_i hc;cases hf;cases px;cases py;exact⟨_,_,rfl,rfl,hc,h G _ H (.refl s) rfl⟩
  ·cases hf
 ·cases hf
theorem y46:Op2 K (rI CDiv fun i j=>.int (i / j)) fdivW:=by
 intro G H x y wx wy w Q s px py hf h;unfold fdivW at hf;split at hf
 ·split at hf
  ·rename_i hc;cases hf;cases px;cases py;exact⟨_,_,rfl,rfl,hc,h G _ H (.refl s) rfl⟩
  ·cases hf
 ·cases hf
theorem y8x:Op2 K (rI (fun _ j=>0<j) fun i j=>.int (i%j)) modW:=by
 intro G H x y wx wy w Q s px py hf h;unfold modW at hf;split at hf
 ·split at hf
  ·rename_i hc;cases hf;cases px;cases py;exact⟨_,_,rfl,rfl,hc,h G _ H (.refl s) rfl⟩
  ·cases hf
 ·cases hf
theorem y33:Op2 K (rI0 fun i j=>.bl (decide (i<j))) ltW:=by
 intro G H x y wx wy w Q s px py hf h;unfold ltW at hf;split at hf
 ·cases hf;cases px;cases py;exact⟨_,_,rfl,rfl,h G _ H (.refl s) rfl⟩
 ·cases hf
theorem y34:Op2 K (rI0 fun i j=>.bl (decide (i<=j))) leW:=by
 intro G H x y wx wy w Q s px py hf h;unfold leW at hf;split at hf
 ·cases hf;cases px;cases py;exact⟨_,_,rfl,rfl,h G _ H (.refl s) rfl⟩
 ·cases hf
theorem z1l:Op2 K (rI0 fun i j=>.bl (decide (j<i))) gtW:=by
 intro G H x y wx wy w Q s px py hf h;unfold gtW at hf;split at hf
 ·cases hf;cases px;cases py;exact⟨_,_,rfl,rfl,h G _ H (.refl s) rfl⟩
 ·cases hf
theorem z1m:Op2 K (rI0 fun i j=>.bl (decide (j<=i))) geW:=by
 intro G H x y wx wy w Q s px py hf h;unfold geW at hf;split at hf
 ·cases hf;cases px;cases py;exact⟨_,_,rfl,rfl,h G _ H (.refl s) rfl⟩
 ·cases hf
mutual
noncomputable def eqW:W->W->Option Bool
 |.non,.non=>some true
 |.non,.bl _=>some false|.non,.int _=>some false|.non,.str _=>some false|.non,.tup _=>some false|.non,.lst _=>some false
 |.bl a,.bl b=>some (a==b)
 |.bl a,.int b=>some ((if a then 1 else 0)==b)
 |.bl _,.non=>some false|.bl _,.str _=>some false|.bl _,.tup _=>some false|.bl _,.lst _=>some false
 |.int a,.int b=>some (a==b)
 |.int a,.bl b=>some (a==(if b then 1 else 0))
 |.int _,.non=>some false|.int _,.str _=>some false|.int _,.tup _=>some false|.int _,.lst _=>some false
 |.str a,.str b=>some (a==b)
 |.str _,.non=>some false|.str _,.bl _=>some false|.str _,.int _=>some false|.str _,.tup _=>some false|.str _,.lst _=>some false
 |.tup _,.non=>some false|.tup _,.bl _=>some false|.tup _,.int _=>some false|.tup _,.str _=>some false|.tup _,.lst _=>some false
 |.lst _,.non=>some false|.lst _,.bl _=>some false|.lst _,.int _=>some false|.lst _,.str _=>some false|.lst _,.tup _=>some false
 |.tup xs,.tup ys=>eqWs xs ys
 |.lst xs,.lst ys=>eqWs xs ys
 |.exc _,_=>none
 |_,.exc _=>none
 |.dic _,_=>none
 |_,.dic _=>none
 |.dw _ _ _ _,_=>none
 |.fn _ _ _,_=>none
 |_,.dw _ _ _ _=>none
 |_,.fn _ _ _=>none
noncomputable def eqWs:List W->List W->Option Bool
 |[],[]=>some true
 |[],_::_=>some false
 |_::_,[]=>some false
 |x::xs,y::ys=>match eqW x y,eqWs xs ys with
  |some a,some b=>some (a&&b)
  |_,_=>none
end
noncomputable def ixW:W->W->Option W
 |.tup ws,.int i=>atI ws i
 |.lst ws,.int i=>atI ws i
 |.str z,.int i=>if z.length<=16777216 then(atI z.cps.toList i).map fun c=>.str ⟨#[c]⟩else none
 |_,_=>none
theorem Reps.atI{i:Int}(r:Reps K G ws xs)(h:L2.atI ws i=some w):∃x,L2.atI xs i=some x/\Rep K G w x:=by
 unfold L2.atI at h |-
 rw[r.length];cases q:ixN ws.length i with
 |none=>rw[q]at h;cases h
 |some j=>
  rw[q]at h;exact r.get h
theorem y35:Op2 K (rIx K) ixW:=by
 intro G H x y wx wy w Q s px py hf h;unfold ixW at hf;split at hf
 ·obtain⟨a,xs,rfl,ha,ra⟩:=px;cases py;obtain⟨v,hv,rv⟩:=ra.atI hf;exact .inr (.inl ⟨a,xs,_,v,rfl,rfl,s.tup ha,hv,h G v H (.refl s) rv⟩)
 ·obtain⟨a,xs,rfl,ha,ra⟩:=px;cases py;obtain⟨v,hv,rv⟩:=ra.atI hf;exact .inl ⟨a,xs,_,v,rfl,rfl,s.seq ha,hv,h G v H (.refl s) rv⟩
 ·cases px;cases py;split at hf
  ·rename_i hl;obtain⟨c,hc,rfl⟩:=w0c.mp hf;exact .inr (.inr ⟨_,_,c,rfl,rfl,by rw[sizeLine_eq];exact hl,hc,h G _ H (.refl s) rfl⟩)
  ·cases hf
 ·cases hf
noncomputable def S.look:S->Option W
 |.fr w=>some w
 |.own _ ws=>some (.lst ws)
 |.no=>none
 |.dic _=>none
 |.thr _ _ _=>none
 |.nest _=>none
 |.x k=>k.look
 |.dw _ _ _=>none
noncomputable def dIxV(i:Nat)(d:Den W):Den W:=fun e=>match e[i]?.bind S.look with
 |none=>.no
 |some _=>(d e).bind fun k e1=>match e1[i]?.bind S.look with
  |none=>.no
  |some w=>ofOpt (ixW w k) e1
noncomputable def lenW:W->Option W
 |.str z=>if z.length<=16777216 then some (.int z.length)else none
 |.tup ws=>some (.int ws.length)
 |.lst ws=>some (.int ws.length)
 |_=>none
noncomputable def len1:List W->Option W
 |[w]=>lenW w
 |_=>none
theorem x9k:OpN K (fun xs H Q=>∃x n,xs=[x]/\LenV K x H n/\Q (.int n) H) len1:=by
 intro G H xs ws w Q s pr hf h;unfold len1 at hf;split at hf
 ·obtain⟨x,r,rfl,px,pr⟩:=pr;cases(show r=[]from pr);unfold lenW at hf;split at hf
  ·split at hf
   ·rename_i hl;cases hf;cases px;exact⟨_,_,rfl,⟨by rw[sizeLine_eq];exact hl,rfl⟩,h G _ H (.refl s) rfl⟩
   ·cases hf
  ·cases hf;obtain⟨a,xs,rfl,ha,ra⟩:=px;exact⟨_,_,rfl,.inr ⟨xs,s.tup ha,rfl⟩,h G _ H (.refl s) (by rw[ra.length];rfl)⟩
  ·cases hf;obtain⟨a,xs,rfl,ha,ra⟩:=px;exact⟨_,_,rfl,.inl ⟨xs,s.seq ha,rfl⟩,h G _ H (.refl s) (by rw[ra.length];rfl)⟩
  ·cases hf
 ·cases hf
noncomputable def scalW:W->Bool
 |.non=>true|.bl _=>true|.int _=>true|.str _=>true|_=>false
theorem y1x{G':Hp}(h:scalW w=true)(p:Rep K G w v):Rep K G' w v:=by
 cases w with
 |non=>exact p
 |bl b=>exact p
 |int i=>exact p
 |str x=>exact p
 |_=>cases h
noncomputable def dFnV(i:Nat)(f:List W->Option W):Den W:=fun e=>match e[i]?.bind S.look with
 |none=>.no
 |some w=>match f [w]with
  |none=>.no
  |some v=>match e[i]? with
   |some (.fr _)=>.ok v e
   |_=>if scalW v=true then .ok v e else .no
section
variable{a b e:Expr}{p:Pos}
theorem q0h(ha:DE Z X EE a d)(hb:DE Z X EE b db)(hs:PlainIx b:=by intro _ _;rfl):DE Z X EE (.Subscript a b pos) (dOp ixW d db):=PE.mono (pe_ix x84 ha hb hs) (q84 y35)
theorem Rel.look{e:List S}(r:Rel K Z G σ H e)(h:e[i]?.bind S.look=some w):∃v,σ[i]?=some (some v) /\
  (Rep K G w v\/∃ws a xs u,(∀z,e[i]?≠some (.fr z))/\w=.lst ws/\v=.ref a/\H a=some u/\(u=.lst xs\/∃o,u=.frz o (.lst xs))/\G a=none/\Reps K G ws xs):=by
 obtain⟨s,h1,h2⟩:=w3c.mp h;cases s with
 |no=>cases h2
 |dic _=>cases h2
 |thr _ _ _=>cases h2
 |nest _=>cases h2
 |dw _ _ _=>cases h2
 |fr w'=>
  cases h2;obtain⟨v,h3,h4⟩:=r.fr h1;exact⟨v,h3,.inl h4⟩
 |x k=>
  have q:=r.slot i _ h1;cases k with
  |old w'=>cases h2;obtain⟨v,h1',h3⟩:=r.plain h1 rfl;exact⟨v,h1',.inl h3⟩
  |new w'=>cases h2;obtain⟨v,h1',h3⟩:=r.plain h1 rfl;exact⟨v,h1',.inl h3⟩
  |acc ws=>cases h2;obtain⟨a,o,xs,k1,⟨k2,k3,_⟩,k5⟩:=q;exact⟨.ref a,r.at h1 fun _=>k1,.inr ⟨ws,a,xs,_,(fun z y=>by rw[h1]at y;cases y),rfl,rfl,k2,.inr ⟨o,rfl⟩,k3,RepNs.reps _ k5⟩⟩
  |_=>cases h2
 |own b ws=>
  cases h2;obtain⟨a,xs,h3,h4,h5,h6,h7⟩:=r.own h1;exact⟨.ref a,h3,.inr ⟨ws,a,xs,_,(fun z y=>by rw[h1]at y;cases y),rfl,rfl,h4,.inl rfl,h5,h7⟩⟩
theorem x9l{K:PySem.W.Frag}{a:Addr}{u:HO}(s:Same G H)(h:H a=some u)(hg:G a=none):Same G (upd G a u)/\Same (upd G a u) H:=
 ⟨q2b hg _,fun c o z=>by
  by_cases hc:c=a
  ·subst hc;rw[q0g]at z;cases z;exact h
  ·rw[q0d hc]at z;exact s c o z⟩
theorem y8y(i:Nat)(hb:DE Z X EE b d)(hN:X.N[i]?=some x:=by rfl)(hv:Vis X.env.scope x:=by walk_at "1")(hd:(x==("__debug__":Str))=false:=by decide)
  (hcd:(x==("__classdict__":Str))=false:=by decide)(hs:PlainIx b:=by intro _ _;rfl):DE Z X EE (.Subscript (.Name x p) b pos) (dIxV i d):=by
 refine PE.mono (pe_ix x84 (pv i hN hv hd hcd) hb hs) ?_;rintro σ H Q ⟨G,e,rel,h⟩;unfold dIxV at h;split at h
 ·exact h.elim
 ·rename_i w0 hw0;obtain⟨v,hv,_⟩:=rel.look hw0;refine⟨v,hv,G,e,rel,(R.holds_bind.mp h).imp (fun k e1 h G1 u H1 r1 s1 p1=>?_) fun _ _ h=>h⟩
  split at h
  ·exact h.elim
  ·rename_i w hw;obtain⟨w',hf,h2⟩:=ofOpt_holds.mp h;obtain⟨v',hv',q⟩:=r1.look hw;rw[hv]at hv';cases hv';rcases q with q|⟨ws,a,xs,u,he,rfl,rfl,q1,qu,q2,q3⟩
   ·exact y35 G1 H1 v u w k w' Q r1.sub q p1 hf fun G' v H' g p=>h2 G' v H' (r1.grow g) (s1.trans g.gg) p
   ·-- an item of one's own list
    unfold ixW at hf;split at hf
    ·rename_i heq;cases heq
    ·rename_i heq;cases heq;cases p1;obtain⟨y,hy,ry⟩:=q3.atI hf;refine .inl ⟨a,xs,_,y,rfl,rfl,?_,hy,h2 G1 y H1 r1 s1 ry⟩;rcases qu with rfl|⟨o,rfl⟩
     ·exact SqL.of q1
     ·exact .inl (.inr ⟨o,q1⟩)
    ·rename_i heq;cases heq
    ·cases hf
theorem y8z{r:List V->Hp->VK->Prop}(i:Nat){id:String}{fn:Str}(hc:CallR X (.builtin id) r)(hf:OpN X.K r f)(hv:bootBuiltins fn=some (.builtin id))(hm:X.mg fn=none)
  (hN:X.N[i]?=some x:=by rfl)(hvis:Vis X.env.scope x:=by walk_at "1")(hd:(x==("__debug__":Str))=false:=by decide)(hcd:(x==("__classdict__":Str))=false:=by decide)
  (hg:Gl X fn:=by rfl)(hn:fn≠"__name__":=by decide)(hdb:(fn==("__debug__":Str))=false:=by decide)(hs:starEach [.Name x p] X.env=(false,eval (.Name x p) X.env)::starEach [] X.env:=by rfl)(hpl:(backTo pos (starEach [] X.env)).any (·.1)=false:=by rfl):
  DE Z X EE (.Call (.Name fn pn) [.Name x p] [] pos) (dFnV i f):=by
 refine PE.mono (q7m hc hg hm hv (q0o (pv i hN hvis hd hcd) q1n hs) hn hdb hs hpl) ?_;rintro σ H Q ⟨G,e,rel,h⟩;unfold dFnV at h;split at h
 ·exact h.elim
 ·rename_i w hw;split at h
  ·exact h.elim
  ·rename_i y hy;obtain⟨v,hv,q⟩:=rel.look hw;refine⟨v,hv,?_⟩;rcases q with q|⟨ws,a,xs,u,he,rfl,rfl,q1,qu,q2,q3⟩
   ·refine hf G H [v] [w] y Q rel.sub (.one q) hy fun G' v H' g p=>?_
    split at h
    ·exact h G' v H' (rel.grow g) g.gg p
    ·split at h
     ·exact h G' v H' (rel.grow g) g.gg p
     ·exact h.elim
   ·split at h
    ·rename_i hz;exact absurd hz (he _)
    split at h
    ·rename_i hsc;obtain⟨s1,s2⟩:=x9l (K:=X.K) rel.sub q1 q2
     have hsq:SqL X.K (upd G a u) a xs:=by
      rcases qu with rfl|⟨o,rfl⟩
      ·exact SqL.of q0g
      ·exact .inl (.inr ⟨o,q0g⟩)
     refine hf (upd G a u) H [.ref a] [.lst ws] y Q s2 (.one ⟨a,xs,rfl,hsq,Reps.mono s1 ws q3⟩) hy fun G' v H' g p=>?_
     have g':Grow G H G H':=⟨g.hh,.refl _,rel.sub.trans g.hh,fun _ _=>rfl⟩
     exact(show ∀G' v H',_->_->Rep X.K G' y v->Q v H' from h) G v H' (rel.grow g') (.refl _) (y1x hsc p)
    ·exact h.elim
noncomputable def dApp(i:Nat)(d:Den (List W)):List S->SR:=fun e=>match e[i]? with
 |some (.own _ _)=>(d e).stm fun ws e1=>match ws,e1[i]? with
  |[w],some (.own b xs)=>if xs.length<16777216 then .nx (e1.set i (.own b (xs++[w])))else .no
  |_,_=>.no
 |_=>.no
theorem q4p(i:Nat){apos cpos:Pos}(ha:DA Z X EE (e::es) dA)(hN:X.N[i]?=some x:=by rfl)(hv:Vis X.env.scope x:=by walk_at "1")(hd:(x==("__debug__":Str))=false:=by decide)(hcd:(x==("__classdict__":Str))=false:=by decide)
  (hbase:attributeBase (.Name x p) "append" X.env (eval (.Name x p) X.env)=eval (.Name x p) X.env:=by rfl)
  (hfew:((backTo cpos (starEach (e::es) X.env)).all (fun x=>!x.1)&&(backToKw cpos (keywordEach [] X.env)).all (fun x=>x.1.isSome)&&decide ((e::es).length+([]:List Keyword).length+(if([]:List Keyword).isEmpty then 0 else 1)<30))=true:=by rfl)
  (hline:(apos.endLine==cpos.line)=true:=by rfl)(hs:starEach (e::es) X.env=(false,eval e X.env)::starEach es X.env:=by rfl)(hplain:(backTo cpos (starEach es X.env)).any (·.1)=false:=by rfl)
  (hsw:swapsWith (.Call (.Attribute (.Name x p) "append" apos) (e::es) [] cpos) none pos.line X.env=pure false:=by rfl):
  DS Z X EE (.Expr (.Call (.Attribute (.Name x p) "append" apos) (e::es) [] cpos) pos) (dApp i dA):=by
 refine PS.mono (q6w (q8b (pv i hN hv hd hcd) ha hbase hfew hline hs hplain) hsw) ?_;rintro D σ H ⟨G,e,rel,h⟩;unfold dApp at h;split at h
 ·rename_i b0 ws0 he0;obtain⟨a,xs,h1,h2,h3,h4,h5⟩:=rel.own he0;refine⟨.ref a,h1,.inl ⟨rfl,xs,SqL.of h2⟩,G,e,rel,(q2r h).imp (fun ws e1 h G1 vs H1 r1 s1 p1=>?_) fun _ _ h=>h⟩
  split at h
  ·rename_i w b ys he1;obtain⟨a',zs,g1,g2,g3,g4,g5⟩:=r1.own he1;rw[h1]at g1;cases g1;obtain⟨y,r,rfl,py,pr⟩:=p1;cases(show r=[]from pr);split at h
   ·rename_i hl;refine⟨a,zs,y,rfl,rfl,g2,by rw[g5.length,sizeLine_eq];exact hl,?_⟩;exact h G1 σ _ (r1.mut he1 h1 (g5.append (.one py))) s1
   ·exact h.elim
  ·exact h.elim
 ·exact h.elim
noncomputable def dPop(i:Nat):Den W:=fun e=>match e[i]? with
 |some (.own b ws)=>match ws[ws.length-1]? with
  |some w=>.ok w (e.set i (.own b ws.dropLast))
  |none=>.no
 |_=>.no
theorem q60(i:Nat){apos cpos:Pos}(hN:X.N[i]?=some x:=by rfl)(hv:Vis X.env.scope x:=by walk_at "1")(hd:(x==("__debug__":Str))=false:=by decide)(hcd:(x==("__classdict__":Str))=false:=by decide)
  (hbase:attributeBase (.Name x p) "pop" X.env (eval (.Name x p) X.env)=eval (.Name x p) X.env:=by rfl)(hline:(apos.endLine==cpos.line)=true:=by rfl):DE Z X EE (.Call (.Attribute (.Name x p) "pop" apos) [] [] cpos) (dPop i):=by
 refine PE.mono (y8p PySem.F.plainAttrs_list PySem.F.slot_list_pop PySem.F.type_list_pop y8q (pv i hN hv hd hcd) hbase hline) ?_;rintro σ H Q ⟨G,e,rel,h⟩;unfold dPop at h;split at h
 ·rename_i b ws he;obtain⟨a,xs,h1,h2,h3,h4,h5⟩:=rel.own he;split at h
  ·rename_i w hw;obtain⟨y,hy,ry⟩:=h5.get hw;refine⟨.ref a,h1,.inl ⟨rfl,xs,SqL.of h2⟩,a,xs,y,rfl,rfl,h2,by rw[h5.length];exact hy,?_⟩;exact h G y _ (rel.mut he h1 h5.dropLast) (.refl _) ry
  ·exact h.elim
 ·exact h.elim
end
noncomputable def compD(c:Den Bool)(d:Den W)(pe:List S):List W->Option (List W)
 |[]=>some []
 |w::ws=>match c (.fr w::pe)with
  |.ok true e1=>match d e1 with
   |.ok y _=>(compD c d pe ws).map (y::·)
   |_=>none
  |.ok false _=>compD c d pe ws
  |_=>none
noncomputable def frz1(e:List S)(j:Nat):List S:=match e[j]? with
 |some (.own none ws)=>e.set j (.fr (.lst ws))
 |_=>e
noncomputable def frzs(js:List Nat)(e:List S):List S:=js.foldl frz1 e
noncomputable def pj1(e:List S)(j:Nat):S:=match e[j]? with
 |some (.fr w)=>.fr w
 |_=>.no
noncomputable def pjS(js:List Nat)(e:List S):List S:=js.map (pj1 e)
noncomputable def compK(js:List Nat)(c:Den Bool)(d:Den W)(ws:List W)(e1:List S):R (List W):=
 if ws.length<=16777216 then(match compD c d (pjS js (frzs js e1)) ws with
  |some out=>.ok out (frzs js e1)
  |none=>.no)else .no
noncomputable def dComp(js:List Nat)(di:Den W)(c:Den Bool)(d:Den W):Den (List W):=fun e=>(di e).bind fun w e1=>match seqW w with
 |some ws=>compK js c d ws e1
 |none=>.no
noncomputable def dCompR(g:List W->Option (List W))(js:List Nat)(di:Den (List W))(c:Den Bool)(d:Den W):Den (List W):=fun e=>(di e).bind fun w e1=>match g w with
 |some ws=>compK js c d ws e1
 |none=>.no
noncomputable def dYes:Den Bool:=fun e=>.ok true e
section
variable{H1:Hp}{e1:List S}
theorem Rel.frzs(r:Rel K Z G σ H e):∀(js:List Nat),∃G',Same G G'/\Rel K Z G' σ H (frzs js e):=by
 intro js
 induction js generalizing G e with
 |nil=>exact⟨G,.refl _,r⟩
 |cons j js ih=>
  have one:∃G',Same G G'/\Rel K Z G' σ H (frz1 e j):=by
   unfold frz1;split
   ·rename_i ws hw;obtain⟨v,G',_,s,_,r'⟩:=r.freeze hw;exact⟨G',s,r'⟩
   ·exact⟨G,.refl _,r⟩
  obtain⟨G1,s1,r1⟩:=one;obtain⟨G2,s2,r2⟩:=ih r1;exact⟨G2,s1.trans s2,r2⟩
theorem Rel.block(r:Rel K Z G σ H e)(js:List Nat){x:V}(p:Rep K G w x):Rel K ⟨H,G,[]⟩ G (some x::pj js σ) H (.fr w::pjS js e):=by
 have hfr:∀(i:Nat)(s:S),(S.fr w::pjS js e)[i]?=some s->s=.no\/∃u,s=.fr u/\((i=0/\u=w)\/∃k j,i=k+1/\js[k]?=some j/\e[j]?=some (.fr u)):=fun i s h=>by
  cases i with
  |zero=>cases h;exact .inr ⟨w,rfl,.inl ⟨rfl,rfl⟩⟩
  |succ k=>
   rw[w0p]at h;unfold pjS at h;rw[w0f]at h;obtain⟨j,h1,h2⟩:=w0c.mp h;unfold pj1 at h2;split at h2
   ·rename_i u hu;subst h2;exact .inr ⟨u,rfl,.inr ⟨k,j,rfl,h1,hu⟩⟩
   ·subst h2;exact .inl rfl
 refine⟨r.sub,fun i s h=>?_,?_,fun i j b b' w1 w2 a h1 h2 _ _=>?_,fun a o h _=>h,(fun a h=>nomatch h),fun a _=>rfl⟩
 ·rcases hfr i s h with rfl|⟨u,rfl,⟨rfl,rfl⟩|⟨k,j,rfl,h1,h2⟩⟩
  ·trivial
  ·exact⟨x,rfl,p⟩
  ·obtain⟨v,h3,h4⟩:=r.fr h2;refine⟨v,?_,h4⟩;rw[w0p];unfold pj;rw[w0f,h1];simp[h3]
 ·simp[pjS,pj]
 ·rcases hfr i _ h1 with z|⟨u,z,_⟩<;>cases z
theorem Rel.mutFree(r:Rel K Z G σ H e){o:HO}(hg:G a=none)(hz:Z.H a=none)(hi:a∉Z.io)(hf:Free σ e a){ls:List V}(hls:H a=some (.lst ls)):Rel K Z G σ (upd H a o) e:=by
 refine⟨fun c u z=>?_,fun j s z=>?_,r.len,r.dis,fun c u z n=>?_,fun c z=>?_,r.gen⟩
 ·rw[q0d (q0q z hg)];exact r.sub c u z
 ·have y:=r.slot j s z;cases s with
  |no=>trivial
  |fr w=>exact y
  |own b2 w2=>
   obtain⟨c,ys,y1,y2,y3,y4,y5⟩:=y;refine⟨c,ys,y1,?_,y3,y4,y5⟩;rw[q0d];exact y2;rintro rfl;obtain⟨c',_,z1,_⟩:=r.own z;rw[z1]at y1;cases y1;exact hf j b2 w2 z z1
  |dic kvs=>
   obtain⟨c,y1,y2,y3,y4⟩:=y;refine⟨c,y1,?_,y3,y4⟩;rw[q0d (q06 y2 hls (q5k rfl))];exact y2
  |thr us w2 vs=>
   obtain⟨t,l,o,xs2,ys,zs,y1,y2,y3,y4,y5,y6⟩:=y;refine⟨t,l,o,xs2,ys,zs,y1,y2,?_,y4,y5,y6⟩;rw[q0d (q06 y3 hls (fun z=>nomatch z))];exact y3
  |nest wss=>exact NestOk.move y (.refl _) fun l o ys k1 k2 k3=>⟨by rw[q0d (q06 k1 hls (fun z=>nomatch z))];exact k1,k2,k3⟩
  |x k=>exact XOk.move y (.refl _) fun l o ys k1 k2 k3=>⟨by rw[q0d (q06 k1 hls (fun z=>nomatch z))];exact k1,k2,k3⟩
  |dw sh ks ws=>exact DwOk.move y (.refl _) fun l o ys k1 k2 k3=>⟨by rw[q0d (q06 k1 hls (fun z=>nomatch z))];exact k1,k2,k3⟩
 ·rw[q0d (q0q z hz)];exact r.ent c u z n
 ·by_cases hc:c=a
  ·subst hc;exact absurd z hi
  ·rw[q0d hc];exact r.ion c z
structure Walk(J:It)(xs:List V)(SQ:Hp->Prop):Prop where
 go:∀i H,SQ H->i<xs.length->J.go i H
 yld:∀i H x H',SQ H->J.yld i H x H'->i<xs.length->H'=H/\xs[i]?=some x
 stop:∀i H,SQ H->xs.length<=i->J.stop i H
theorem x9m:Walk (Itl K a) xs (fun H=>SqL K H a xs):=
 ⟨fun i H q h=>⟨xs,xs[i],q,by simp[h]⟩,fun i H x H' q ⟨e,y⟩ h=>⟨e,y xs q⟩,fun i H q h=>⟨xs,q,h⟩⟩
theorem x9n:Walk (Itt K a) xs (fun H=>SqT K H a xs):=
 ⟨fun i H q h=>⟨xs,xs[i],q,by simp[h]⟩,fun i H x H' q ⟨e,y⟩ h=>⟨e,y xs q⟩,fun i H q h=>⟨xs,q,h⟩⟩
theorem y80:Walk (Itr lo n) ((List.range n).map fun k=>V.int (lo+(k:Nat))) (fun _=>True):=
 ⟨fun i H q h=>show i<n by simpa using h,fun i H x H' q ⟨e,y⟩ h=>⟨e,by simp at h;simp[h,y]⟩,fun i H q h=>show n<=i by simpa using h⟩
theorem x1w{J:It}{SQ:Hp->Prop}{out:List W}{Q:VK}{G0:Hp}(W0:Walk J xs SQ)(r1:Rel K Z G1 σ H1 e1)(s1:Same G0 G1)(rp:Reps K G1 ws xs)(hSQ:∀G' H',Same G1 G'->Same G' H'->SQ H')(hl:ws.length<=16777216)
  (hz:∀p,H1 p=none->p∉Z.io)(hc:compD c d (pjS js e1) ws=some out)
  (h:∀G' a xs H',Rel K Z G' σ H' e1->Same G0 G'->H' a=some (.lst xs)->G' a=none->Z.H a=none->Free σ e1 a->Reps K G' out xs->Q (.ref a) H'):
  ∀D,H1 D=none->∃W:Nat->Nat->Hp->Prop,(∃m,W 0 m (upd H1 D (.lst [])))/\∀i m H2,W i m H2 ->
   (J.stop i H2/\Q (.ref D) H2)\/(J.go i H2/\∀x H3,J.yld i H2 x H3->gName 0 x (List.replicate 1 none++pj js σ) H3 fun σ4 H4=>Kp (List.replicate 1 none++pj js σ) σ4/\(fun σ H Q=>∃Z',liftT K Z' (fun _=>E0) c σ H Q) σ4 H4 fun b H5=>
    if b=true then(fun σ H Q=>∃Z',AtG K Z' σ H fun G e=>(d e).holds (fun w e'=>∀G' v H',Rel K Z' G' σ H' e'->Same G G'->Rep K G' w v->Q v H') (XH K Z' (fun _=>E0) σ G)) σ4 H5 fun y H6=>∃ys,H6 D=some (.lst ys)/\ys.length<sizeLine/\∃m',m'<m/\W (i+1) m' (upd H6 D (.lst (ys++[y])))else ∃m',m'<m/\W (i+1) m' H5):=by
 intro D hD;have hlen:=rp.length
 refine⟨fun i m H2=>m=ws.length-i/\i<=ws.length/\∃G2 ys done rest,Rel K Z G2 σ H2 e1/\Same G1 G2/\H2 D=some (.lst ys)/\G2 D=none/\Reps K G2 done ys/\done.length<=i/\compD c d (pjS js e1) (ws.drop i)=some rest/\done++rest=out,
  ⟨ws.length,by omega,w1f _,G1,[],[],out,r1.grow (Grow.hid r1.sub hD _),.refl _,q0g,r1.sub.free hD,rfl,w0g _,hc,rfl⟩,?_⟩
 rintro i m H2 ⟨rfl,hi,G2,ys,done,rest,r2,s2,hd2,hg2,rp2,hdl,hc2,ho⟩;have hfree:Free σ e1 D:=q7o r1 hD;have hzh:Z.H D=none:=q5p r1 hD
 by_cases hlt:i<ws.length
 ·refine .inr ⟨W0.go i H2 (hSQ G2 H2 s2 r2.sub) (by omega),fun x H3 hy=>?_⟩
  obtain⟨rfl,hx⟩:=W0.yld i H2 x H3 (hSQ G2 H2 s2 r2.sub) hy (by omega);obtain⟨w,hw,pw⟩:=rp.getV hx;rw[x2u hw]at hc2;refine⟨Kp.one,⟨H3,G2,[]⟩,G2,.fr w::pjS js e1,r2.block js (Rep.mono s2 w pw),?_⟩;unfold compD at hc2;cases qc:c (.fr w::pjS js e1)with
  |no=>rw[qc]at hc2;cases hc2
  |ex _ _=>rw[qc]at hc2;cases hc2
  |ok k e2=>
   rw[qc]at hc2;intro G3 H5 r3 s3;have g3:=r3.toGrow s3;cases k with
   |false=>
    exact⟨ws.length-(i+1),by omega,rfl,hlt,G3,ys,done,rest,r2.grow g3,s2.trans s3,g3.hh _ _ hd2,by rw[g3.new D (by rw[hd2];simp)];exact hg2,Reps.mono s3 _ rp2,by omega,hc2,ho⟩
   |true=>
    refine⟨⟨H3,G2,[]⟩,G3,e2,r3,?_⟩;dsimp only at hc2;cases qd:d e2 with
    |no=>rw[qd]at hc2;cases hc2
    |ex _ _=>rw[qd]at hc2;cases hc2
    |ok y e3=>
     rw[qd]at hc2;intro G4 v H6 r4 s4 p4;have g4:=r4.toGrow (s3.trans s4);obtain⟨rest',hr,rfl⟩:=w0c.mp hc2;have hd6:H6 D=some (.lst ys):=g4.hh _ _ hd2;have hg6:G4 D=none:=by rw[g4.new D (by rw[hd2];simp)];exact hg2
     refine⟨ys,hd6,?_,ws.length-(i+1),by omega,rfl,hlt,G4,ys++[v],done++[y],rest',(r2.grow g4).mutFree hg6 hzh (hz D hD) hfree hd6,s2.trans (s3.trans s4),q0g,hg6,(Reps.mono (s3.trans s4) _ rp2).append (.one p4),by simp;omega,hr,by rw[w2g];exact ho⟩;rw[rp2.length,sizeLine_eq];omega
 ·have:i=ws.length:=by omega
  subst this;rw[w2r]at hc2;cases hc2;rw[w1p]at ho;subst ho;exact .inl ⟨W0.stop _ H2 (hSQ G2 H2 s2 r2.sub) (by omega),h G2 D ys H2 r2 (s1.trans s2) hd2 hg2 hzh hfree rp2⟩
end
section
variable{elt iter a b:Expr}{ifs:List Expr}{scope sc:Scope}{pt:Pos}{Nf N:List Str}{di:Den W}
def DTs(Z:Zt)(X:Cx)(EE:L2.St->XK)(ifs:List Expr)(c:Den Bool):Prop:=PTs X ifs (liftT X.K Z EE c)
theorem q37:DTs Z X EE [] dYes:=fun pins s σ H Q I ⟨G,e,r,h⟩=>y4v pins s σ H Q I (h G H r (.refl _))
theorem y47(h:DT Z X EE a c):DTs Z X EE [a] c:=y4w h
def cT(K:PySem.W.Frag)(c:Den Bool):TT:=fun σ H Q=>∃Z',liftT K Z' (fun _=>E0) c σ H Q
def cE(K:PySem.W.Frag)(d:Den W):TE:=fun σ H Q=>∃Z',AtG K Z' σ H fun G e=>(d e).holds (fun w e'=>∀G' v H',Rel K Z' G' σ H' e'->Same G G'->Rep K G' w v->Q v H') (XH K Z' (fun _=>E0) σ G)
theorem x3p{Y:List Str}(ht:∀Z' cl C s₀ H₀ ex,DTs Z' (X.cp Y scope cl C s₀ H₀ ex) (fun _=>E0) ifs c):∀cl C s₀ H₀ ex,PTs (X.cp Y scope cl C s₀ H₀ ex) ifs (cT X.K c):=fun cl C s₀ H₀ ex pins s σ H Q I ⟨Z',h⟩=>ht Z' cl C s₀ H₀ ex pins s σ H Q I h
theorem x3q{Y:List Str}(he:∀Z' cl C s₀ H₀ ex,DE Z' (X.cp Y scope cl C s₀ H₀ ex) (fun _=>E0) elt d):∀cl C s₀ H₀ ex,PE (X.cp Y scope cl C s₀ H₀ ex) elt (cE X.K d):=fun cl C s₀ H₀ ex pins s σ H Q I ⟨Z',h⟩=>he Z' cl C s₀ H₀ ex pins s σ H Q I h
theorem ionone(r:Rel K Z G σ H e):∀p,H p=none->p∉Z.io:=fun p hp hi=>r.ion p hi hp
theorem x2v:∀σ H Q,liftF K Z EE (dComp js di c d) σ H Q->tComp (iSeq K (liftE K Z EE di)) 1 js (gName 0) (cT K c) (cE K d) σ H Q:=by
 rintro σ H Q ⟨G,e,rel,h⟩;simp only[dComp,R.holds_bind]at h;refine⟨G,e,rel,h.imp (fun w e1 h G1 v1 H1 r1 s1 p1=>?_) fun _ _ h=>h⟩
 split at h
 ·rename_i ws hw;unfold compK at h;split at h
  ·rename_i hl;split at h
   ·rename_i out ho;obtain⟨G2,s2,r2⟩:=r1.frzs js;have p2:=Rep.mono s2 w p1;have io:=ionone r2;cases w with
    |tup us=>
     cases hw;obtain⟨a,xs,rfl,hq,rp⟩:=p2;exact⟨a,rfl,.inr ⟨⟨xs,r2.sub.tup hq⟩,x1w x9n r2 (s1.trans s2) rp (fun G' H' s s'=>Same.tup s' (Same.tup s hq)) hl io ho h⟩⟩
    |lst us=>
     cases hw;obtain⟨a,xs,rfl,hq,rp⟩:=p2;exact⟨a,rfl,.inl ⟨⟨xs,r2.sub.seq hq⟩,x1w x9m r2 (s1.trans s2) rp (fun G' H' s s'=>Same.seq s' (Same.seq s hq)) hl io ho h⟩⟩
    |_=>cases hw
   ·exact h.elim
  ·exact h.elim
 ·exact h.elim
theorem x6v(hc:X.calm=true)(hi:DE Z X EE iter di)(ok:compOk sc scope N Nf js=true)
  (ht:∀Z' cl C s₀ H₀ ex,DTs Z' (X.cp ([x]++Nf) scope cl C s₀ H₀ ex) (fun _=>E0) ifs c)(he:∀Z' cl C s₀ H₀ ex,DE Z' (X.cp ([x]++Nf) scope cl C s₀ H₀ ex) (fun _=>E0) elt d)
  (hg:∀cl C s₀ H₀ ex,PG (X.cp ([x]++Nf) scope cl C s₀ H₀ ex) (.Name x pt) (gName 0))
  (hsc:X.env.scope=sc:=by rfl)(hN:X.N=N:=by rfl)(hs:∀x,foldedSetIterable iter X.env x=pure x:=by intro _;rfl):
  DF Z X EE (.ListComp elt [⟨.Name x pt,iter,ifs,0⟩] scope pos) (dComp js di c d):=by
 exact PE.mono (q90 (Nl:=[x]) (tc:=cT X.K c) (te:=cE X.K d) hc (q8g hi) ok hg (x3p ht) (x3q he) hsc hN hs) x2v
theorem x7w(i:Nat){py spos:Pos}(hNd:X.N.Nodup)(hc:X.calm=true)(hi:DE Z X EE iter di)(ok:compOk sc scope N Nf js=true)
  (ht:∀Z' cl C s₀ H₀ ex,DTs Z' (X.cp ([x]++Nf) scope cl C s₀ H₀ ex) (fun _=>E0) ifs c)(he:∀Z' cl C s₀ H₀ ex,DE Z' (X.cp ([x]++Nf) scope cl C s₀ H₀ ex) (fun _=>E0) elt d)
  (hg:∀cl C s₀ H₀ ex,PG (X.cp ([x]++Nf) scope cl C s₀ H₀ ex) (.Name x pt) (gName 0))
  (hsc:X.env.scope=sc:=by rfl)(hN:X.N=N:=by rfl)(hs:∀x,foldedSetIterable iter X.env x=pure x:=by intro _;rfl)(hiy:X.N[i]?=some y:=by rfl)(hxy:Loc X.env.scope y:=by walk_at "3")(hfy:X.fn y=true\/X.env.scope.names.lookup y=some .local:=by walk_at "2")(hsw:swapsWith (.ListComp elt [⟨.Name x pt,iter,ifs,0⟩] scope pos) (some (.Name y py)) spos.line X.env=pure true:=by rfl):
  DS Z X EE (.Assign [.Name y py] (.ListComp elt [⟨.Name x pt,iter,ifs,0⟩] scope pos) spos) (dSetO i (dComp js di c d)):=by
 refine PS.mono (x9i (Nl:=[x]) (tc:=cT X.K c) (te:=cE X.K d) hc (q8g hi) ok hg (x3p ht) (x3q he) (q4c i hNd hiy hxy hfy) hsw hsc hN hs) ?_;rintro D σ H ⟨G,e,rel,h⟩;refine x2v σ H _ ⟨G,e,rel,?_⟩;exact(q2r h).imp (fun w e1 h G1 a xs H1 r1 s1 q1 q2 q3 q4 p1=>h G1 _ H1 (r1.setOwn q1 q2 q3 q4 p1) s1) fun _ _ h=>h
theorem x7x:∀σ H Q,liftF K Z EE (dCompR rng1 js dA c d) σ H Q->tComp (iRng1 (liftA K Z EE dA)) 1 js (gName 0) (cT K c) (cE K d) σ H Q:=by
 rintro σ H Q ⟨G,e,rel,h⟩;simp only[dCompR,R.holds_bind]at h;refine⟨G,e,rel,h.imp (fun ws e1 h G1 vs H1 r1 s1 p1=>?_) fun _ _ h=>h⟩
 unfold rng1 at h;split at h
 ·rename_i us hh;split at hh
  ·rename_i j;split at hh
   ·rename_i hj;cases hh;obtain⟨y,r,rfl,e1,e2⟩:=p1;cases(show y=V.int j from e1);cases(show r=[]from e2);refine⟨j,rfl,(x0z hj).1,(x0z hj).2,?_⟩;unfold compK at h;split at h
    ·rename_i hl;split at h
     ·rename_i out ho;obtain⟨G2,s2,r2⟩:=r1.frzs js;have z:=x1w (J:=Itr 0 (j-0).toNat) y80 r2 (s1.trans s2) (x00 (lo:=0) (hi:=j)) (fun _ _ _ _=>trivial) hl (ionone r2) ho h
      rwa [w3z]at z
     ·exact h.elim
    ·exact h.elim
   ·cases hh
  ·cases hh
 ·exact h.elim
theorem q6b(hc:X.calm=true)(hm:X.mg "range"=none)(ha:DA Z X EE [a] dA)(ok:compOk sc scope N Nf js=true)
  (ht:∀Z' cl C s₀ H₀ ex,DTs Z' (X.cp ([x]++Nf) scope cl C s₀ H₀ ex) (fun _=>E0) ifs c)(he:∀Z' cl C s₀ H₀ ex,DE Z' (X.cp ([x]++Nf) scope cl C s₀ H₀ ex) (fun _=>E0) elt d)
  (hg:∀cl C s₀ H₀ ex,PG (X.cp ([x]++Nf) scope cl C s₀ H₀ ex) (.Name x pt) (gName 0))
  (hgr:Gl X "range":=by rfl)(hs1:starEach [a] X.env=[(false,eval a X.env)]:=by rfl)(hsc:X.env.scope=sc:=by rfl)(hN:X.N=N:=by rfl)(hs:∀x,foldedSetIterable (.Call (.Name "range" p1) [a] [] p2) X.env x=pure x:=by intro _;rfl):
  DF Z X EE (.ListComp elt [⟨.Name x pt,.Call (.Name "range" p1) [a] [] p2,ifs,0⟩] scope pos) (dCompR rng1 js dA c d):=by
 exact PE.mono (q90 (Nl:=[x]) (tc:=cT X.K c) (te:=cE X.K d) hc (x2n hgr hm ha hs1) ok hg (x3p ht) (x3q he) hsc hN hs) x7x
end
mutual
noncomputable def depW:W->Nat
 |.tup ws=>depWs ws+1
 |.lst ws=>depWs ws+1
 |_=>0
noncomputable def depWs:List W->Nat
 |[]=>0
 |w::ws=>max (depW w) (depWs ws)
end
section
variable{pins:List (Addr×Obj)}
mutual
theorem q88(I:Inv X pins σ H s)(sg:Same G H):∀(w:W){w':W}{v:V}{k:Bool},Rep X.K G w v->Rep X.K G w' v->eqW w w'=some k->k=true
 |.non,w',v,k,h,h',e=>by
  cases(show v=.non from h);cases w'<;>first|(cases e;done)|(cases h';cases e;rfl)|(exfalso;obtain⟨_,_,z,_⟩:=h';first|done|cases z)|(exfalso;obtain⟨_,z,_⟩:=h';first|done|cases z)
 |.bl b,w',v,k,h,h',e=>by
  cases(show v=.bl b from h);cases w'<;>first|(cases e;done)|(cases h';cases e;exact beq_self_eq_true _)|(exfalso;obtain⟨_,_,z,_⟩:=h';first|done|cases z)|(exfalso;obtain⟨_,z,_⟩:=h';first|done|cases z)
 |.int b,w',v,k,h,h',e=>by
  cases(show v=.int b from h);cases w'<;>first|(cases e;done)|(cases h';cases e;exact beq_self_eq_true _)|(exfalso;obtain⟨_,_,z,_⟩:=h';first|done|cases z)|(exfalso;obtain⟨_,z,_⟩:=h';first|done|cases z)
 |.str b,w',v,k,h,h',e=>by
  cases(show v=.str b from h);cases w'<;>first|(cases e;done)|(cases h';cases e;exact beq_self_eq_true _)|(exfalso;obtain⟨_,_,z,_⟩:=h';first|done|cases z)|(exfalso;obtain⟨_,z,_⟩:=h';first|done|cases z)
 |.tup ws,w',v,k,h,h',e=>by
  obtain⟨a,xs,rfl,q,r⟩:=h;cases w' with
  |tup ws'=>
   obtain⟨a',xs',z,q',r'⟩:=h';cases z;have:=I.tuple_inj (sg.tup q) (sg.tup q');subst this;exact q93 I sg ws r r' (e)
  |lst ws'=>
   obtain⟨a',xs',z,q',r'⟩:=h';cases z;obtain⟨its,_,p1,_⟩:=I.tuple (sg.tup q);obtain⟨its2,_,p2,_⟩:=I.list (sg.seq q');exact absurd rfl (SeqAt.ne_of_list_tuple p2.isList (show s.heap.IsTuple a _ from p1))
  |non=>cases h'
  |bl _=>cases h'
  |int _=>cases h'
  |str _=>cases h'
  |exc _=>cases e
  |dic _=>cases e
  |dw _ _ _ _=>cases e
  |fn _ _ _=>cases e
 |.lst ws,w',v,k,h,h',e=>by
  obtain⟨a,xs,rfl,q,r⟩:=h;cases w' with
  |lst ws'=>
   obtain⟨a',xs',z,q',r'⟩:=h';cases z;have:=I.list_inj (sg.seq q) (sg.seq q');subst this;exact q93 I sg ws r r' (e)
  |tup ws'=>
   obtain⟨a',xs',z,q',r'⟩:=h';cases z;obtain⟨its,_,p1,_⟩:=I.tuple (sg.tup q');obtain⟨its2,_,p2,_⟩:=I.list (sg.seq q);exact absurd rfl (SeqAt.ne_of_list_tuple p2.isList (show s.heap.IsTuple a _ from p1))
  |non=>cases h'
  |bl _=>cases h'
  |int _=>cases h'
  |str _=>cases h'
  |exc _=>cases e
  |dic _=>cases e
  |dw _ _ _ _=>cases e
  |fn _ _ _=>cases e
 |.exc c,w',v,k,h,h',e=>by cases w'<;>cases e
 |.dic c,w',v,k,h,h',e=>by cases w'<;>cases e
 |.dw _ _ _ _,w',v,k,h,h',e=>by cases w'<;>cases e
 |.fn _ _ _,w',v,k,h,h',e=>by cases w'<;>cases e
theorem q93(I:Inv X pins σ H s)(sg:Same G H):∀(ws:List W){ws':List W}{vs:List V}{k:Bool},Reps X.K G ws vs->Reps X.K G ws' vs->eqWs ws ws'=some k->k=true
 |[],ws',vs,k,h,h',e=>by
  cases h;cases ws' with
  |nil=>cases e;rfl
  |cons _ _=>obtain⟨_,_,z,_⟩:=h';cases z
 |w::ws,ws',vs,k,h,h',e=>by
  obtain⟨x,r,rfl,h1,h2⟩:=h;cases ws' with
  |nil=>cases h'
  |cons w' ws'=>
   obtain⟨x',r',z,h1',h2'⟩:=h';cases z;have e:(match eqW w w',eqWs ws ws' with|some a,some b=>some (a&&b)|_,_=>none)=some k:=e;cases q1:eqW w w' with
   |none=>rw[q1]at e;cases e
   |some b1=>
    cases q2:eqWs ws ws' with
    |none=>rw[q1,q2]at e;cases e
    |some b2=>
     rw[q1,q2]at e;rw[q88 I sg w h1 h1' q1,q93 I sg ws h2 h2' q2]at e;cases e;rfl
end
theorem q5d:∀{xs ys:List W}{b:Bool},eqWs xs ys=some b->(∀(j:Nat) x y,xs[j]?=some x->ys[j]?=some y->∃k,eqW x y=some k)/\b=((List.range (min xs.length ys.length)).all (fun j=>((eqW (xs.getD j .non) (ys.getD j .non)).getD false))&&xs.length==ys.length):=by
 intro xs
 induction xs with
 |nil=>
  intro ys b h;refine⟨fun j x y hx=>by simp at hx,?_⟩
  cases ys<;>(cases h;simp)
 |cons x xs ih=>
  intro ys b h;cases ys with
  |nil=>refine⟨fun j x y hx hy=>by simp at hy,?_⟩;cases h;simp
  |cons y ys=>
   have h:(match eqW x y,eqWs xs ys with|some a,some b=>some (a&&b)|_,_=>none)=some b:=h;cases q1:eqW x y with
   |none=>rw[q1]at h;cases h
   |some b1=>
    cases q2:eqWs xs ys with
    |none=>rw[q1,q2]at h;cases h
    |some b2=>
     rw[q1,q2]at h;cases h;obtain⟨h1,h2⟩:=ih q2;refine⟨fun j x' y' hx hy=>?_,?_⟩
     ·cases j with
      |zero=>simp at hx hy;subst hx hy;exact⟨_,q1⟩
      |succ j=>exact h1 j x' y' (by simpa using hx) (by simpa using hy)
     ·rw[h2];simp only[w0q,Nat.succ_min_succ,List.range_succ_eq_map,w2m,List.all_map]
      have e0:(eqW ((x::xs).getD 0 .non) ((y::ys).getD 0 .non)).getD false=b1:=by
       show(eqW x y).getD false=b1;rw[q1];rfl
      rw[e0,Bool.and_assoc];congr 1;congr 1;simp
theorem q6o:∀{xs:List W}{j:Nat}{x:W},xs[j]?=some x->depW x<=depWs xs
 |[],_,_,h=>by simp at h
 |y::ys,0,x,h=>by simp at h;subst h;simp only[depWs];omega
 |y::ys,j+1,x,h=>by
  have:=q6o (xs:=ys) (j:=j) (by simpa using h);simp only[depWs];omega
theorem q89{xs:List α}{x d:α}(h:xs[j]?=some x):xs.getD j d=x:=by
 simp[List.getD,h]
theorem x4f(I:Inv X pins σ H s)(sg:Same G H)(hu:A.units<cLine)(n1:∀ws,w=.tup ws->∀ws',w'≠.tup ws')(n2:∀ws,w=.lst ws->∀ws',w'≠.lst ws')(h:Rep X.K G w v)(h':Rep X.K G w' v')(r:RelV v u)(r':RelV v' u')(e:eqW w w'=some b):SeqAt.RcAt A s u u' b:=by
 have tl:∀{ws:List W}{v:V}{u:Value},Rep X.K G (.lst ws) v->RelV v u->∃l items,u=.ref l/\s.heap.IsList l items:=fun h r=>by
  obtain⟨a,xs,rfl,q,_⟩:=h;cases r;obtain⟨its,_,p,_⟩:=I.list (sg.seq q);exact⟨a,_,rfl,p.isList⟩
 have tt:∀{ws:List W}{v:V}{u:Value},Rep X.K G (.tup ws) v->RelV v u->∃l items,u=.ref l/\s.heap.IsTuple l items:=fun h r=>by
  obtain⟨a,xs,rfl,q,_⟩:=h;cases r;obtain⟨its,_,p,_⟩:=I.tuple (sg.tup q);exact⟨a,_,rfl,p⟩
 have tn:∀{v:V}{u:Value},Rep X.K G .non v->RelV v u->u=.none:=fun h r=>by cases h;exact r
 have tb:∀{k:Bool}{v:V}{u:Value},Rep X.K G (.bl k) v->RelV v u->u=.bool k:=fun h r=>by cases h;exact r
 have ti:∀{k:Int}{v:V}{u:Value},Rep X.K G (.int k) v->RelV v u->∃t,u=.int k t:=fun h r=>by cases h;exact r
 have ts:∀{k:Str}{v:V}{u:Value},Rep X.K G (.str k) v->RelV v u->∃t,u=.str k t:=fun h r=>by cases h;exact r
 cases w with
 |non=>
  obtain rfl:=tn h r;cases w' with
  |non=>obtain rfl:=tn h' r';cases e;exact .none_none
  |bl k=>obtain rfl:=tb h' r';cases e;exact .none_bool k
  |int k=>obtain⟨t,rfl⟩:=ti h' r';cases e;exact .none_int k t
  |str k=>obtain⟨t,rfl⟩:=ts h' r';cases e;exact .none_str k t
  |tup k=>obtain⟨l,it,rfl,p⟩:=tt h' r';cases e;exact .none_tuple p hu
  |lst k=>obtain⟨l,it,rfl,p⟩:=tl h' r';cases e;exact .none_list p hu
  |exc k=>cases e
  |dic k=>cases e
  |dw _ _ _ _=>cases e
  |fn _ _ _=>cases e
 |bl j=>
  obtain rfl:=tb h r;cases w' with
  |non=>obtain rfl:=tn h' r';cases e;exact .bool_none j
  |bl k=>obtain rfl:=tb h' r';cases e;exact .bool_bool j k
  |int k=>obtain⟨t,rfl⟩:=ti h' r';cases e;exact .bool_int j k t
  |str k=>obtain⟨t,rfl⟩:=ts h' r';cases e;exact .bool_str j k t
  |tup k=>obtain⟨l,it,rfl,p⟩:=tt h' r';cases e;exact .bool_tuple j p hu
  |lst k=>obtain⟨l,it,rfl,p⟩:=tl h' r';cases e;exact .bool_list j p hu
  |exc k=>cases e
  |dic k=>cases e
  |dw _ _ _ _=>cases e
  |fn _ _ _=>cases e
 |int j=>
  obtain⟨t1,rfl⟩:=ti h r;cases w' with
  |non=>obtain rfl:=tn h' r';cases e;exact .int_none j t1
  |bl k=>obtain rfl:=tb h' r';cases e;exact .int_bool j t1 k
  |int k=>obtain⟨t,rfl⟩:=ti h' r';cases e;exact .int_int j t1 k t
  |str k=>obtain⟨t,rfl⟩:=ts h' r';cases e;exact .int_str j t1 k t
  |tup k=>obtain⟨l,it,rfl,p⟩:=tt h' r';cases e;exact .int_tuple j t1 p hu
  |lst k=>obtain⟨l,it,rfl,p⟩:=tl h' r';cases e;exact .int_list j t1 p hu
  |exc k=>cases e
  |dic k=>cases e
  |dw _ _ _ _=>cases e
  |fn _ _ _=>cases e
 |str j=>
  obtain⟨t1,rfl⟩:=ts h r;cases w' with
  |non=>obtain rfl:=tn h' r';cases e;exact .str_none j t1
  |bl k=>obtain rfl:=tb h' r';cases e;exact .str_bool j t1 k
  |int k=>obtain⟨t,rfl⟩:=ti h' r';cases e;exact .str_int j t1 k t
  |str k=>obtain⟨t,rfl⟩:=ts h' r';cases e;exact .str_str j t1 k t
  |tup k=>obtain⟨l,it,rfl,p⟩:=tt h' r';cases e;exact .str_tuple j t1 p hu
  |lst k=>obtain⟨l,it,rfl,p⟩:=tl h' r';cases e;exact .str_list j t1 p hu
  |exc k=>cases e
  |dic k=>cases e
  |dw _ _ _ _=>cases e
  |fn _ _ _=>cases e
 |tup j=>
  obtain⟨l1,it1,rfl,p1⟩:=tt h r;cases w' with
  |non=>obtain rfl:=tn h' r';cases e;exact .tuple_none p1 hu
  |bl k=>obtain rfl:=tb h' r';cases e;exact .tuple_bool k p1 hu
  |int k=>obtain⟨t,rfl⟩:=ti h' r';cases e;exact .tuple_int k t p1 hu
  |str k=>obtain⟨t,rfl⟩:=ts h' r';cases e;exact .tuple_str k t p1 hu
  |tup k=>exact absurd rfl (n1 j rfl k)
  |lst k=>obtain⟨l,it,rfl,p⟩:=tl h' r';cases e;exact .tuple_list p1 p hu
  |exc k=>cases e
  |dic k=>cases e
  |dw _ _ _ _=>cases e
  |fn _ _ _=>cases e
 |lst j=>
  obtain⟨l1,it1,rfl,p1⟩:=tl h r;cases w' with
  |non=>obtain rfl:=tn h' r';cases e;exact .list_none p1 hu
  |bl k=>obtain rfl:=tb h' r';cases e;exact .list_bool k p1 hu
  |int k=>obtain⟨t,rfl⟩:=ti h' r';cases e;exact .list_int k t p1 hu
  |str k=>obtain⟨t,rfl⟩:=ts h' r';cases e;exact .list_str k t p1 hu
  |lst k=>exact absurd rfl (n2 j rfl k)
  |tup k=>obtain⟨l,it,rfl,p⟩:=tt h' r';cases e;exact .list_tuple p1 p hu
  |exc k=>cases e
  |dic k=>cases e
  |dw _ _ _ _=>cases e
  |fn _ _ _=>cases e
 |exc j=>cases w'<;>cases e
 |dic j=>cases w'<;>cases e
 |dw _ _ _ _=>cases w'<;>cases e
 |fn _ _ _=>cases w'<;>cases e
theorem x6w(I:Inv X pins σ H s)(sg:Same G H)(hd:depW w<=0)(hu:A.units<cLine)(h:Rep X.K G w v)(h':Rep X.K G w' v')(r:RelV v u)(r':RelV v' u')(e:eqW w w'=some b):SeqAt.RcAt A s u u' b:=
 x4f I sg hu (fun ws z=>by subst z;simp[depW]at hd) (fun ws z=>by subst z;simp[depW]at hd) h h' r r' e
theorem q94(h:Rep K G w v):∀x,v≠.flt x:=fun x z=>by
 subst z;cases w with
 |tup ws=>obtain⟨_,_,z,_⟩:=h;cases z
 |lst ws=>obtain⟨_,_,z,_⟩:=h;cases z
 |exc c=>obtain⟨_,z,_⟩:=h;cases z
 |dic c=>obtain⟨_,z,_⟩:=h;cases z
 |dw _ _ _ _=>obtain⟨_,_,_,z,_⟩:=h;cases z
 |fn _ _ _=>obtain⟨_,_,_,_,z,_⟩:=h;cases z
 |_=>cases h
theorem q95(rv:RelV v u)(hf:∀x,v≠.flt x)(h:SeqAt.RcAt A s u u' b)(hs:u=u'->b=true):SeqAt.EqAt A s u u' b:=fun prog w E Q hq=>by
 unfold eqBool;refine wpAny_holding ?_;refine wpAny_ite_split (fun hab=>?_) (fun _=>?_)
 ·have hb:=hs (eq_of_beq hab);subst hb;exact wpAny_bind (wpAny_rule (wpAny_pure hq))
 ·have z:=wpAny_bind (h prog w E (fun a s'=>wpAny (model prog w) A (truthOfDropped a) Q E s') (wpAny_truthy_bool hq))
  cases v with
  |flt x=>exact absurd rfl (hf x)
  |non=>cases rv;exact z
  |bl _=>cases rv;exact z
  |int _=>obtain⟨t,rfl⟩:=rv;exact z
  |str _=>obtain⟨t,rfl⟩:=rv;exact z
  |byt _=>obtain⟨t,rfl⟩:=rv;exact z
  |ref _=>cases rv;exact z
  |ty _=>cases rv;exact z
theorem x7y(I:Inv X pins σ H s)(sg:Same G H):∀(n:Nat){w w':W}{v v':V}{u u':Value}{b:Bool}{A:Around},depW w<=n->A.units+n<cLine->Rep X.K G w v->Rep X.K G w' v'->RelV v u->RelV v' u'->eqW w w'=some b->SeqAt.RcAt A s u u' b:=by
 intro n
 induction n with
 |zero=>
  intro w w' v v' u u' b A hd hu h h' r r' e;exact x6w I sg hd (by omega) h h' r r' e
 |succ n ih=>
  intro w w' v v' u u' b A hd hu h h' r r' e
  have items:∀{ws ws':List W}{xs xs':List V}{its its':List Value}{k:Bool},depWs ws<=n->Reps X.K G ws xs->Reps X.K G ws' xs'->Vals xs its->Vals xs' its'->eqWs ws ws'=some k ->
    ∀j (h1:j<its.toArray.size) (h2:j<its'.toArray.size),SeqAt.EqAt A.in1 s its.toArray[j] its'.toArray[j] ((eqW (ws.getD j .non) (ws'.getD j .non)).getD false):=by
   intro ws ws' xs xs' its its' k hd r1 r2 v1 v2 he j h1 h2;have l1:=r1.length;have l2:=r2.length;have m1:=v1.length;have m2:=v2.length;have i1:j<xs.length:=by rw[m1];simpa using h1
   have i2:j<xs'.length:=by rw[m2];simpa using h2
   obtain⟨u1,e1,ru1⟩:=v1.get (w0b i1);obtain⟨u2,e2,ru2⟩:=v2.get (w0b i2);obtain⟨w1,f1,p1⟩:=r1.getV (w0b i1);obtain⟨w2,f2,p2⟩:=r2.getV (w0b i2);obtain⟨b',hb'⟩:=(q5d he).1 j w1 w2 f1 f2;rw[q89 f1,q89 f2,hb']
   have g1:its.toArray[j]=u1:=by
    obtain⟨_,z⟩:=w0a.mp e1
    simpa using z
   have g2:its'.toArray[j]=u2:=by
    obtain⟨_,z⟩:=w0a.mp e2
    simpa using z
   rw[g1,g2];have hdw:depW w1<=n:=w0z (q6o f1) hd
   have hun:A.in1.units+n<cLine:=by
    have:A.in1.units=A.units+1:=rfl;omega
   refine q95 ru1 (q94 p1) (ih hdw hun p1 p2 ru1 ru2 hb') fun z=>?_
   subst z;have:=ru1.inj ru2;rw[this]at p1;exact q88 I sg w1 p1 p2 hb'
  cases w with
  |tup ws=>
   cases w' with
   |tup ws'=>
    obtain⟨a,xs,rfl,q1,r1⟩:=h;obtain⟨a',xs',rfl,q2,r2⟩:=h';cases r;cases r';obtain⟨its,v1,p1,_⟩:=I.tuple (sg.tup q1);obtain⟨its',v2,p2,_⟩:=I.tuple (sg.tup q2);have e:eqWs ws ws'=some b:=e;have z:=SeqAt.RcAt.tuples (show s.heap.IsTuple a _ from p1) (show s.heap.IsTuple a' _ from p2) (show A.units<cLine by omega) (items (by simp only[depW]at hd;omega) r1 r2 v1 v2 e);have l1:=r1.length;have l2:=r2.length;have m1:=v1.length;have m2:=v2.length;have eb:=(q5d e).2;have n1:its.length=ws.length:=by omega
    have n2:its'.length=ws'.length:=by omega
    rw[eb];simp only[w0e,n1,n2]at z;exact z
   |_=>exact x4f I sg (by omega) (by intro ws';simp) (by intro ws';simp) h h' r r' e
  |lst ws=>
   cases w' with
   |lst ws'=>
    obtain⟨a,xs,rfl,q1,r1⟩:=h;obtain⟨a',xs',rfl,q2,r2⟩:=h';cases r;cases r';obtain⟨its,v1,p1,_⟩:=I.list (sg.seq q1);obtain⟨its',v2,p2,_⟩:=I.list (sg.seq q2);have e:eqWs ws ws'=some b:=e;have l1:=r1.length;have l2:=r2.length;have m1:=v1.length;have m2:=v2.length;have eb:=(q5d e).2;have n1:its.length=ws.length:=by omega
    have n2:its'.length=ws'.length:=by omega
    by_cases hl:ws.length=ws'.length
    ·have z:=SeqAt.RcAt.lists p1.isList p2.isList (by simp only[w0e];omega) (show A.units<cLine by omega) (items (by simp only[depW]at hd;omega) r1 r2 v1 v2 e);rw[eb,hl];simp only[w0e,n1,hl,Nat.min_self,beq_self_eq_true,w3d]at z |-
     exact z
    ·have z:=SeqAt.RcAt.lists_lengths (A:=A) p1.isList p2.isList (by simp only[w0e,bne_iff_ne];omega) (show A.units<cLine by omega)
     have:b=false:=by
      rw[eb];have:(ws.length==ws'.length)=false:=by simp[hl]
      rw[this,Bool.and_false]
     rw[this];exact z
   |_=>exact x4f I sg (by omega) (by intro ws';simp) (by intro ws';simp) h h' r r' e
  |_=>exact x6w I sg (by simp[depW]) (by omega) h h' r r' e
theorem q96(I:Inv X pins σ H s)(sg:Same G H)(hu:A.units<cLine)(n1:∀ws,w=.tup ws->∀ws',w'≠.tup ws')(n2:∀ws,w=.lst ws->∀ws',w'≠.lst ws')(h:Rep X.K G w v)(h':Rep X.K G w' v')(r:RelV v u)(r':RelV v' u')(e:eqW w w'=some b):SeqAt.RcNeAt A s u u' (!b):=by
 have tl:∀{ws:List W}{v:V}{u:Value},Rep X.K G (.lst ws) v->RelV v u->∃l items,u=.ref l/\s.heap.IsList l items:=fun h r=>by
  obtain⟨a,xs,rfl,q,_⟩:=h;cases r;obtain⟨its,_,p,_⟩:=I.list (sg.seq q);exact⟨a,_,rfl,p.isList⟩
 have tt:∀{ws:List W}{v:V}{u:Value},Rep X.K G (.tup ws) v->RelV v u->∃l items,u=.ref l/\s.heap.IsTuple l items:=fun h r=>by
  obtain⟨a,xs,rfl,q,_⟩:=h;cases r;obtain⟨its,_,p,_⟩:=I.tuple (sg.tup q);exact⟨a,_,rfl,p⟩
 have tn:∀{v:V}{u:Value},Rep X.K G .non v->RelV v u->u=.none:=fun h r=>by cases h;exact r
 have tb:∀{k:Bool}{v:V}{u:Value},Rep X.K G (.bl k) v->RelV v u->u=.bool k:=fun h r=>by cases h;exact r
 have ti:∀{k:Int}{v:V}{u:Value},Rep X.K G (.int k) v->RelV v u->∃t,u=.int k t:=fun h r=>by cases h;exact r
 have ts:∀{k:Str}{v:V}{u:Value},Rep X.K G (.str k) v->RelV v u->∃t,u=.str k t:=fun h r=>by cases h;exact r
 cases w with
 |non=>
  obtain rfl:=tn h r;cases w' with
  |non=>obtain rfl:=tn h' r';cases e;exact .none_none
  |bl k=>obtain rfl:=tb h' r';cases e;exact .none_bool k
  |int k=>obtain⟨t,rfl⟩:=ti h' r';cases e;exact .none_int k t
  |str k=>obtain⟨t,rfl⟩:=ts h' r';cases e;exact .none_str k t
  |tup k=>obtain⟨l,it,rfl,p⟩:=tt h' r';cases e;exact .none_tuple p hu
  |lst k=>obtain⟨l,it,rfl,p⟩:=tl h' r';cases e;exact .none_list p hu
  |exc k=>cases e
  |dic k=>cases e
  |dw _ _ _ _=>cases e
  |fn _ _ _=>cases e
 |bl j=>
  obtain rfl:=tb h r;cases w' with
  |non=>obtain rfl:=tn h' r';cases e;exact .bool_none j
  |bl k=>obtain rfl:=tb h' r';cases e;exact .bool_bool j k
  |int k=>obtain⟨t,rfl⟩:=ti h' r';cases e;exact .bool_int j k t
  |str k=>obtain⟨t,rfl⟩:=ts h' r';cases e;exact .bool_str j k t
  |tup k=>obtain⟨l,it,rfl,p⟩:=tt h' r';cases e;exact .bool_tuple j p hu
  |lst k=>obtain⟨l,it,rfl,p⟩:=tl h' r';cases e;exact .bool_list j p hu
  |exc k=>cases e
  |dic k=>cases e
  |dw _ _ _ _=>cases e
  |fn _ _ _=>cases e
 |int j=>
  obtain⟨t1,rfl⟩:=ti h r;cases w' with
  |non=>obtain rfl:=tn h' r';cases e;exact .int_none j t1
  |bl k=>obtain rfl:=tb h' r';cases e;exact .int_bool j t1 k
  |int k=>obtain⟨t,rfl⟩:=ti h' r';cases e;exact .int_int j t1 k t
  |str k=>obtain⟨t,rfl⟩:=ts h' r';cases e;exact .int_str j t1 k t
  |tup k=>obtain⟨l,it,rfl,p⟩:=tt h' r';cases e;exact .int_tuple j t1 p hu
  |lst k=>obtain⟨l,it,rfl,p⟩:=tl h' r';cases e;exact .int_list j t1 p hu
  |exc k=>cases e
  |dic k=>cases e
  |dw _ _ _ _=>cases e
  |fn _ _ _=>cases e
 |str j=>
  obtain⟨t1,rfl⟩:=ts h r;cases w' with
  |non=>obtain rfl:=tn h' r';cases e;exact .str_none j t1
  |bl k=>obtain rfl:=tb h' r';cases e;exact .str_bool j t1 k
  |int k=>obtain⟨t,rfl⟩:=ti h' r';cases e;exact .str_int j t1 k t
  |str k=>obtain⟨t,rfl⟩:=ts h' r';cases e;exact .str_str j t1 k t
  |tup k=>obtain⟨l,it,rfl,p⟩:=tt h' r';cases e;exact .str_tuple j t1 p hu
  |lst k=>obtain⟨l,it,rfl,p⟩:=tl h' r';cases e;exact .str_list j t1 p hu
  |exc k=>cases e
  |dic k=>cases e
  |dw _ _ _ _=>cases e
  |fn _ _ _=>cases e
 |tup j=>
  obtain⟨l1,it1,rfl,p1⟩:=tt h r;cases w' with
  |non=>obtain rfl:=tn h' r';cases e;exact .tuple_none p1 hu
  |bl k=>obtain rfl:=tb h' r';cases e;exact .tuple_bool k p1 hu
  |int k=>obtain⟨t,rfl⟩:=ti h' r';cases e;exact .tuple_int k t p1 hu
  |str k=>obtain⟨t,rfl⟩:=ts h' r';cases e;exact .tuple_str k t p1 hu
  |tup k=>exact absurd rfl (n1 j rfl k)
  |lst k=>obtain⟨l,it,rfl,p⟩:=tl h' r';cases e;exact .tuple_list p1 p hu
  |exc k=>cases e
  |dic k=>cases e
  |dw _ _ _ _=>cases e
  |fn _ _ _=>cases e
 |lst j=>
  obtain⟨l1,it1,rfl,p1⟩:=tl h r;cases w' with
  |non=>obtain rfl:=tn h' r';cases e;exact .list_none p1 hu
  |bl k=>obtain rfl:=tb h' r';cases e;exact .list_bool k p1 hu
  |int k=>obtain⟨t,rfl⟩:=ti h' r';cases e;exact .list_int k t p1 hu
  |str k=>obtain⟨t,rfl⟩:=ts h' r';cases e;exact .list_str k t p1 hu
  |lst k=>exact absurd rfl (n2 j rfl k)
  |tup k=>obtain⟨l,it,rfl,p⟩:=tt h' r';cases e;exact .list_tuple p1 p hu
  |exc k=>cases e
  |dic k=>cases e
  |dw _ _ _ _=>cases e
  |fn _ _ _=>cases e
 |exc j=>cases w'<;>cases e
 |dic j=>cases w'<;>cases e
 |dw _ _ _ _=>cases w'<;>cases e
 |fn _ _ _=>cases w'<;>cases e
theorem x9o(I:Inv X pins σ H s)(sg:Same G H)(hd:depW w<=0)(hu:A.units<cLine)(h:Rep X.K G w v)(h':Rep X.K G w' v')(r:RelV v u)(r':RelV v' u')(e:eqW w w'=some b):SeqAt.RcNeAt A s u u' (!b):=
 q96 I sg hu (fun ws z=>by subst z;simp[depW]at hd) (fun ws z=>by subst z;simp[depW]at hd) h h' r r' e
theorem x4g(I:Inv X pins σ H s)(sg:Same G H)(hu:A.units+(n+1)<cLine){ws':List W}{xs':List V}{its its':List Value}{k:Bool}(hd:depWs ws<=n)(r1:Reps X.K G ws xs)(r2:Reps X.K G ws' xs')(v1:Vals xs its)(v2:Vals xs' its')(he:eqWs ws ws'=some k):
  ∀j (h1:j<its.toArray.size) (h2:j<its'.toArray.size),SeqAt.EqAt A.in1 s its.toArray[j] its'.toArray[j] ((eqW (ws.getD j .non) (ws'.getD j .non)).getD false):=by
 intro j h1 h2;have l1:=r1.length;have l2:=r2.length;have m1:=v1.length;have m2:=v2.length;have i1:j<xs.length:=by rw[m1];simpa using h1
 have i2:j<xs'.length:=by rw[m2];simpa using h2
 obtain⟨u1,e1,ru1⟩:=v1.get (w0b i1);obtain⟨u2,e2,ru2⟩:=v2.get (w0b i2);obtain⟨w1,f1,p1⟩:=r1.getV (w0b i1);obtain⟨w2,f2,p2⟩:=r2.getV (w0b i2);obtain⟨b',hb'⟩:=(q5d he).1 j w1 w2 f1 f2;rw[q89 f1,q89 f2,hb']
 have g1:its.toArray[j]=u1:=by
  obtain⟨_,z⟩:=w0a.mp e1
  simpa using z
 have g2:its'.toArray[j]=u2:=by
  obtain⟨_,z⟩:=w0a.mp e2
  simpa using z
 rw[g1,g2];have hdw:depW w1<=n:=w0z (q6o f1) hd
 have hun:A.in1.units+n<cLine:=by
  have:A.in1.units=A.units+1:=rfl;omega
 refine q95 ru1 (q94 p1) (x7y I sg n hdw hun p1 p2 ru1 ru2 hb') fun z=>?_
 subst z;have:=ru1.inj ru2;rw[this]at p1;exact q88 I sg w1 p1 p2 hb'
theorem y48(I:Inv X pins σ H s)(sg:Same G H)(n:Nat)(hd:depW w<=n+1)(hu:A.units+(n+1)<cLine)(h:Rep X.K G w v)(h':Rep X.K G w' v')(r:RelV v u)(r':RelV v' u')(e:eqW w w'=some b):SeqAt.RcNeAt A s u u' (!b):=by
 cases w with
 |tup ws=>
  cases w' with
  |tup ws'=>
   obtain⟨a,xs,rfl,q1,r1⟩:=h;obtain⟨a',xs',rfl,q2,r2⟩:=h';cases r;cases r';obtain⟨its,v1,p1,_⟩:=I.tuple (sg.tup q1);obtain⟨its',v2,p2,_⟩:=I.tuple (sg.tup q2);have e:eqWs ws ws'=some b:=e;have z:=SeqAt.RcNeAt.tuples (show s.heap.IsTuple a _ from p1) (show s.heap.IsTuple a' _ from p2) (show A.units<cLine by omega) (x4g I sg hu (by simp only[depW]at hd;omega) r1 r2 v1 v2 e);have l1:=r1.length;have l2:=r2.length;have m1:=v1.length;have m2:=v2.length;have eb:=(q5d e).2;have n1:its.length=ws.length:=by omega
   have n2:its'.length=ws'.length:=by omega
   rw[eb];simp only[w0e,n1,n2]at z;exact z
  |_=>exact q96 I sg (by omega) (by intro ws';simp) (by intro ws';simp) h h' r r' e
 |lst ws=>
  cases w' with
  |lst ws'=>
   obtain⟨a,xs,rfl,q1,r1⟩:=h;obtain⟨a',xs',rfl,q2,r2⟩:=h';cases r;cases r';obtain⟨its,v1,p1,_⟩:=I.list (sg.seq q1);obtain⟨its',v2,p2,_⟩:=I.list (sg.seq q2);have e:eqWs ws ws'=some b:=e;have l1:=r1.length;have l2:=r2.length;have m1:=v1.length;have m2:=v2.length;have eb:=(q5d e).2;have n1:its.length=ws.length:=by omega
   have n2:its'.length=ws'.length:=by omega
   by_cases hl:ws.length=ws'.length
   ·have z:=SeqAt.RcNeAt.lists p1.isList p2.isList (by simp only[w0e];omega) (show A.units<cLine by omega) (x4g I sg hu (by simp only[depW]at hd;omega) r1 r2 v1 v2 e);rw[eb,hl];simp only[w0e,n1,hl,Nat.min_self,beq_self_eq_true,w3d]at z |-
    exact z
   ·have z:=SeqAt.RcNeAt.lists_lengths (A:=A) p1.isList p2.isList (by simp only[w0e,bne_iff_ne];omega) (show A.units<cLine by omega)
    have:b=false:=by
     rw[eb];have:(ws.length==ws'.length)=false:=by simp[hl]
     rw[this,Bool.and_false]
    rw[this];exact z
  |_=>exact q96 I sg (by omega) (by intro ws';simp) (by intro ws';simp) h h' r r' e
 |_=>exact x9o I sg (by simp[depW]) (by omega) h h' r r' e
noncomputable def eq2(x y:W):Option W:=if depW x<=150 then(eqW x y).map .bl else none
def rEqD(K:PySem.W.Frag):R2:=fun x y H Q=>∃G wx wy b,Same G H/\depW wx<=150/\Rep K G wx x/\Rep K G wy y/\eqW wx wy=some b/\Q (.bl b) H
theorem x9p(hu:X.A.units+150<cLine):OpR X (compareOp .Eq) (rEqD X.K):=by
 intro pins s σ H x y v u Q I rx ry h;obtain⟨G,wx,wy,b,sg,hd,hx,hy,e,q⟩:=h;exact x7y I sg 150 hd hu hx hy rx ry e _ _ _ _ ⟨.bl b,H,I,rfl,q⟩
theorem y36:Op2 K (rEqD K) eq2:=by
 intro G H x y wx wy w Q s px py hf h;unfold eq2 at hf;split at hf
 ·rename_i hd;obtain⟨b,hb,rfl⟩:=w0c.mp hf;exact⟨G,wx,wy,b,s,hd,px,py,hb,h G _ H (.refl s) rfl⟩
 ·cases hf
noncomputable def ne2(x y:W):Option W:=if depW x<=150 then(eqW x y).map fun b=>.bl (!b)else none
def rNeD(K:PySem.W.Frag):R2:=fun x y H Q=>∃G wx wy b,Same G H/\depW wx<=150/\Rep K G wx x/\Rep K G wy y/\eqW wx wy=some b/\Q (.bl (!b)) H
theorem x9q(hu:X.A.units+150<cLine):OpR X (compareOp .NotEq) (rNeD X.K):=by
 intro pins s σ H x y v u Q I rx ry h;obtain⟨G,wx,wy,b,sg,hd,hx,hy,e,q⟩:=h;exact y48 I sg 149 hd hu hx hy rx ry e _ _ _ _ ⟨.bl (!b),H,I,rfl,q⟩
theorem y37:Op2 K (rNeD K) ne2:=by
 intro G H x y wx wy w Q s px py hf h;unfold ne2 at hf;split at hf
 ·rename_i hd;obtain⟨b,hb,rfl⟩:=w0c.mp hf;exact⟨G,wx,wy,b,s,hd,px,py,hb,h G _ H (.refl s) rfl⟩
 ·cases hf
end
noncomputable def isW:W->W->Option W
 |.non,.non=>some (.bl true)
 |_,.non=>some (.bl false)
 |.bl a,.bl b=>some (.bl (a==b))
 |_,.bl _=>some (.bl false)
 |_,_=>none
def rIs:R2:=fun x y H Q=>(y=.non\/∃b,y=.bl b)/\Q (.bl (decide (x=y))) H
theorem y1y{x y:V}{v:Value}(rx:RelV x v)(ry:RelV y u)(h:y=.non\/∃b,y=.bl b):plainIs v u=true/\(v==u)=decide (x=y):=by
 rcases h with rfl|⟨b,rfl⟩
 ·cases ry
  cases x<;>first
   |(cases rx;exact⟨rfl,by first|rfl|(rw[w1b];simp)⟩)
   |(obtain⟨t,rfl⟩:=rx;exact⟨rfl,by rw[w1b];simp⟩)
 ·cases ry
  cases x<;>first
   |(cases rx;exact⟨rfl,by first|rfl|(rw[w1b];simp)⟩)
   |(obtain⟨t,rfl⟩:=rx;exact⟨rfl,by rw[w1b];simp⟩)
theorem x4h:OpR X (compareOp .Is) rIs:=by
 intro pins s σ H x y v u Q I rx ry h;obtain⟨hy,q⟩:=h;obtain⟨h1,h2⟩:=y1y rx ry hy;exact wpAny_is_plain h1 (q2w I q h2.symm)
theorem z1n{x y:V}{wx wy:W}(px:Rep K G wx x)(py:Rep K G wy y)(h:isW wx wy=some w):(y=.non\/∃b,y=.bl b)/\w=.bl (decide (x=y)):=by
 cases wy with
 |non=>
  cases(show y=.non from py);refine⟨.inl rfl,?_⟩;cases wx with
  |tup ws=>obtain⟨_,_,rfl,_⟩:=px;cases h;simp
  |lst ws=>obtain⟨_,_,rfl,_⟩:=px;cases h;simp
  |exc c=>obtain⟨_,rfl,_⟩:=px;cases h;simp
  |dic c=>obtain⟨_,rfl,_⟩:=px;cases h;simp
  |dw _ _ _ _=>obtain⟨_,_,_,rfl,_⟩:=px;cases h;simp
  |fn _ _ _=>obtain⟨_,_,_,_,rfl,_⟩:=px;cases h;simp
  |_=>cases px;cases h;simp
 |bl b=>
  cases(show y=.bl b from py);refine⟨.inr ⟨b,rfl⟩,?_⟩;cases wx with
  |tup ws=>obtain⟨_,_,rfl,_⟩:=px;cases h;simp
  |lst ws=>obtain⟨_,_,rfl,_⟩:=px;cases h;simp
  |exc c=>obtain⟨_,rfl,_⟩:=px;cases h;simp
  |dic c=>obtain⟨_,rfl,_⟩:=px;cases h;simp
  |dw _ _ _ _=>obtain⟨_,_,_,rfl,_⟩:=px;cases h;simp
  |fn _ _ _=>obtain⟨_,_,_,_,rfl,_⟩:=px;cases h;simp
  |bl k=>cases px;cases h;cases k<;>cases b<;>rfl
  |_=>cases px;cases h;simp
 |_=>cases wx<;>cases h
theorem z1o:Op2 K rIs isW:=by
 intro G H x y wx wy w Q s px py hf h;obtain⟨h1,rfl⟩:=z1n px py hf;exact⟨h1,h G _ H (.refl s) rfl⟩
section
variable{a b c e:Expr}{p:Pos}
theorem q4q(ha:DE Z X EE a da)(hb:DE Z X EE b db):DE Z X EE (.BinOp a .Sub b pos) (dOp subW da db):=x0x y8g y8v ha hb
theorem q49(ha:DE Z X EE a da)(hb:DE Z X EE b db):DE Z X EE (.BinOp a .Mult b pos) (dOp mulW da db):=x0x y8h y8w ha hb
theorem q4k(ha:DE Z X EE a da)(hb:DE Z X EE b db):DE Z X EE (.BinOp a .FloorDiv b pos) (dOp fdivW da db):=x0x y4k y46 ha hb
theorem q2a(ha:DE Z X EE a da)(hb:DE Z X EE b db):DE Z X EE (.BinOp a .Mod b pos) (dOp modW da db):=x0x y8i y8x ha hb
theorem y38(ha:DE Z X EE a da)(hb:DE Z X EE b db):DE Z X EE (.Compare a [.Lt] [b] pos) (dOp ltW da db):=q6y y30 y33 ha hb (nomark _)
theorem z1p(ha:DE Z X EE a da)(hb:DE Z X EE b db):DE Z X EE (.Compare a [.LtE] [b] pos) (dOp leW da db):=q6y y31 y34 ha hb (nomark _)
theorem z1q(ha:DE Z X EE a da)(hb:DE Z X EE b db):DE Z X EE (.Compare a [.GtE] [b] pos) (dOp geW da db):=q6y z1j z1m ha hb (nomark _)
theorem q5a(hu:X.A.units+150<cLine)(ha:DE Z X EE a da)(hb:DE Z X EE b db):DE Z X EE (.Compare a [.Eq] [b] pos) (dOp eq2 da db):=q6y (x9p hu) y36 ha hb (nomark _)
theorem x01(hu:X.A.units+150<cLine)(ha:DE Z X EE a da)(hb:DE Z X EE b db):DE Z X EE (.Compare a [.NotEq] [b] pos) (dOp ne2 da db):=q6y (x9q hu) y37 ha hb (nomark _)
theorem z1r(ha:DE Z X EE a da)(hb:DE Z X EE b db):DE Z X EE (.Compare a [.Is] [b] pos) (dOp isW da db):=q6y x4h z1o ha hb (nomark _)
theorem x3r(ha:DE Z X EE a da)(hb:DE Z X EE b db):DT Z X EE (.Compare a [.Lt] [b] pos) (dTest (dOp ltW da db)):=q59 y30 y33 ha hb (nomark _)
theorem z1s(ha:DE Z X EE a da)(hb:DE Z X EE b db):DT Z X EE (.Compare a [.LtE] [b] pos) (dTest (dOp leW da db)):=q59 y31 y34 ha hb (nomark _)
theorem q5l(ha:DE Z X EE a da)(hb:DE Z X EE b db):DT Z X EE (.Compare a [.Gt] [b] pos) (dTest (dOp gtW da db)):=q59 z1i z1l ha hb (nomark _)
theorem q1y(hu:X.A.units+150<cLine)(ha:DE Z X EE a da)(hb:DE Z X EE b db):DT Z X EE (.Compare a [.Eq] [b] pos) (dTest (dOp eq2 da db)):=q59 (x9p hu) y36 ha hb (nomark _)
theorem q6p(hu:X.A.units+150<cLine)(ha:DE Z X EE a da)(hb:DE Z X EE b db):DT Z X EE (.Compare a [.NotEq] [b] pos) (dTest (dOp ne2 da db)):=q59 (x9q hu) y37 ha hb (nomark _)
theorem q0k{k:Nat}(h:Room k A):A.units+150<cLine:=by have:=h.un;omega
noncomputable def cutW(xs:List W)(lo hi:Option Int):List W:=(xs.drop (HT.sIx xs.length 0 lo)).take (HT.sIx xs.length xs.length hi-HT.sIx xs.length 0 lo)
theorem Reps.cut(r:Reps K G ws xs)(lo hi:Option Int):Reps K G (cutW ws lo hi) (cutV xs lo hi):=by
 unfold cutW cutV;rw[r.length];exact(r.drop _).take _
def DO(Z:Zt)(X:Cx)(EE:L2.St->XK)(e:Option Expr)(d:Den (Option Int)):Prop:=PO X e (fun σ H Q=>∃G e,Rel X.K Z G σ H e/\(d e).holds (fun o e'=>∀G' H',Rel X.K Z G' σ H' e'->Same G G'->Q o H') (XH X.K Z EE σ G))
noncomputable def dNoPart:Den (Option Int):=fun e=>.ok none e
noncomputable def dPart(d:Den W):Den (Option Int):=fun e=>(d e).bind fun w e1=>match w with
 |.int i=>.ok (some i) e1
 |_=>.no
theorem PO.mono{e:Option Expr}{t t':TO}(h:PO X e t)(i:∀σ H Q,t' σ H Q->t σ H Q):PO X e t':=fun pins s σ H Q I q=>h pins s σ H Q I (i σ H Q q)
theorem q45:DO Z X EE none dNoPart:=PO.mono y4p fun σ H Q ⟨G,e,r,h⟩=>h G H r (.refl _)
theorem q38(h:DE Z X EE e da):DO Z X EE (some e) (dPart da):=by
 refine PO.mono (y4q h) ?_;rintro σ H Q ⟨G,e,rel,h⟩;simp only[dPart,R.holds_bind]at h;refine⟨G,e,rel,h.imp (fun x e1 h G1 v1 H1 r1 s1 p1=>?_) fun _ _ h=>h⟩
 cases x with
 |int i=>cases(show v1=V.int i from p1);exact⟨i,rfl,h G1 H1 r1 s1⟩
 |_=>exact h.elim
noncomputable def slW:W->Option Int->Option Int->Option W
 |.lst ws,lo,hi=>some (.lst (cutW ws lo hi))
 |.tup ws,lo,hi=>if ¬(HT.sIx ws.length 0 lo=0/\HT.sIx ws.length ws.length hi=ws.length)then some (.tup (cutW ws lo hi))else none
 |_,_,_=>none
noncomputable def dSl(d:Den W)(dl dh:Den (Option Int)):Den W:=fun e=>(d e).bind fun w e1=>(dl e1).bind fun lo e2=>(dh e2).bind fun hi e3=>ofOpt (slW w lo hi) e3
theorem q3v{lo hi:Option Expr}{dl dh:Den (Option Int)}(he:DE Z X EE e da)(hl:DO Z X EE lo dl)(hh:DO Z X EE hi dh):DE Z X EE (.Subscript e (.Slice lo hi none p2) pos) (dSl da dl dh):=by
 refine PE.mono (y1i (sl_list.or y8m) he hl hh) ?_;rintro σ H Q ⟨G,e,rel,h⟩;simp only[dSl,R.holds_bind,ofOpt_holds]at h;refine⟨G,e,rel,h.imp (fun w e1 h G1 v1 H1 r1 s1 p1=>?_) fun _ _ h=>h⟩
 refine⟨G1,e1,r1,h.imp (fun lo e2 h G2 H2 r2 s2=>?_) fun _ _ h=>XH.trans s1 h⟩
 refine⟨G2,e2,r2,h.imp (fun hi e3 h G3 H3 r3 s3=>?_) fun _ _ h=>XH.trans (s1.trans s2) h⟩
 obtain⟨y,hf,h⟩:=h;have p3:=Rep.mono (s2.trans s3) w p1;have s03:=(s1.trans s2).trans s3;cases w with
 |lst ws=>
  cases hf;obtain⟨a,xs,rfl,q,r⟩:=p3;refine .inl ⟨a,xs,rfl,r3.sub.seq q,fun p hp=>?_⟩
  have g:=Grow.laid r3.sub hp (.lst (cutV xs lo hi));exact h _ _ _ (r3.grow g) (s03.trans g.gg) ⟨p,_,rfl,SqL.of q0g,Reps.mono g.gg _ (r.cut lo hi)⟩
 |tup ws=>
  simp only[slW]at hf;split at hf
  ·rename_i hw;cases hf;obtain⟨a,xs,rfl,q,r⟩:=p3;refine .inr ⟨a,xs,rfl,r3.sub.tup q,by rw[r.length];exact hw,fun p hp=>?_⟩
   have g:=Grow.laid r3.sub hp (.tup (cutV xs lo hi));exact h _ _ _ (r3.grow g) (s03.trans g.gg) ⟨p,_,rfl,SqT.of q0g,Reps.mono g.gg _ (r.cut lo hi)⟩
  ·cases hf
 |_=>cases hf
noncomputable def tyW:W->Value
 |.non=>.type "NoneType"
 |.bl _=>.type "bool"
 |.int _=>.type "int"
 |.str _=>.type "str"
 |.tup _=>.type "tuple"
 |.lst _=>.type "list"
 |.exc c=>c
 |.dic _=>.type "dict"
 |.dw _ _ _ _=>.type "dict"
 |.fn _ _ _=>.type "dict"
noncomputable def isiW(K:PySem.W.Frag)(cv:Value):W->Option W
 |.exc (.ref D)=>if excClsIn K D=true then(kitOne K (.ref D) cv).map .bl else none
 |.exc _=>none
 |.dic _=>none
 |.dw _ _ _ _=>none
 |.fn _ _ _=>none
 |w=>(kitOne K (tyW w) cv).map .bl
theorem y49{pins:List (Addr×Obj)}{b:Bool}{Q:VK}(I:Inv X pins σ H s)(sg:Same G H)(p:Rep X.K G w v)(r:RelV v u)(h:isiW X.K cv w=some (.bl b))(q:Q (.bl b) H):
  wpAny (model X.prog X.w) X.A (call (.builtin "isinstance") [u,cv]) (EP X pins σ Q) X.xe s:=by
 have fin:∀tk,EP X pins σ Q (.bool b) {s with toks:=tk}:=fun tk=>⟨.bl b,H,I.tok _,rfl,q⟩
 have kit:∀{t:Value},(kitOne X.K t cv).map W.bl=some (.bl b)->kitOne X.K t cv=some b:=fun z=>by
  obtain⟨y,h1,h2⟩:=w0c.mp z;cases h2;exact h1
 cases w with
 |non=>cases p;cases r;exact kia_one PySem.W.kitx_none I.kIn True.intro (kit h) (fun z=>nomatch z) fin
 |bl y=>cases p;cases r;exact kia_one PySem.W.kitx_bool I.kIn True.intro (kit h) (fun z=>nomatch z) fin
 |int y=>cases p;obtain⟨t,rfl⟩:=r;exact kia_one PySem.W.kitx_int I.kIn True.intro (kit h) (fun z=>nomatch z) fin
 |str y=>cases p;obtain⟨t,rfl⟩:=r;exact kia_one PySem.W.kitx_str I.kIn True.intro (kit h) (fun z=>nomatch z) fin
 |tup ws=>
  obtain⟨a,xs,rfl,hq,_⟩:=p;cases r;obtain⟨its,_,⟨o,h1,h2,_⟩,_⟩:=I.tuple (sg.tup hq);exact kia_one PySem.W.kitx_tuple I.kIn ⟨o,h1,h2⟩ (kit h) (fun z=>nomatch z) fin
 |lst ws=>
  obtain⟨a,xs,rfl,hq,_⟩:=p;cases r;obtain⟨its,_,⟨o,n,h1,h2,_⟩,_⟩:=I.list (sg.seq hq);exact kia_one PySem.W.kitx_list I.kIn ⟨o,h1,h2⟩ (kit h) (fun z=>nomatch z) fin
 |dic c=>simp[isiW]at h
 |dw _ _ _ _=>simp[isiW]at h
 |fn _ _ _=>simp[isiW]at h
 |exc c=>
  obtain⟨e,rfl,he⟩:=p;cases r;unfold isiW at h;split at h
  ·rename_i D heq;cases heq;split at h
   ·rename_i hC;obtain⟨⟨o,vs,h1,h2,h3⟩,_⟩:=(show ObjOk X.prog X.w H s.heap e (excO e (.ref D))from I.hok e _ (sg _ _ he));exact kia_one (y1n (ExcCls.of hC)) I.kIn ⟨o,vs,h1,h2,h3⟩ (kit h) (fun z=>nomatch z) fin
   ·cases h
  all_goals first|(cases h;done)|(rename_i h1 h2 h3 h4 h5;exact absurd rfl (h2 c))|(rename_i h1 h2 h3 h4;exact absurd rfl (h2 c))|(rename_i h1 h2 h3;exact absurd rfl (h2 c))|(rename_i h1 h2;exact absurd rfl (h2 c))
noncomputable def dIsi(K:PySem.W.Frag)(cv:Value)(d:Den W):Den W:=fun e=>(d e).bind fun w e1=>match isiW K cv w with
 |some (.bl b)=>.ok (.bl b) e1
 |_=>.no
theorem x9r{c:V}(hc:ClsV c cv):CallR X (.builtin "isinstance") (fun xs H Q=>∃x G w b,xs=[x,c]/\Same G H/\Rep X.K G w x/\isiW X.K cv w=some (.bl b)/\Q (.bl b) H):=by
 intro pins s σ H xs us Q I r h;obtain⟨x,G,w,b,rfl,sg,p,hi,q⟩:=h;obtain⟨u,u2,rfl,rx,rc⟩:=vals2 r
 have ec:u2=cv:=by
  cases c with
  |ty n=>exact(show u2=Value.type n from rc).trans (show cv=Value.type n from hc).symm
  |ref a=>exact(show u2=Value.ref a from rc).trans (show cv=Value.ref a from hc).symm
  |_=>exact hc.elim
 subst ec;exact y49 I sg p rx hi q
theorem q8i{c0:V}(hc:ClsV c0 cv)(hcl:PE X c (tC c0))(hm:X.mg "isinstance"=none)(he:DE Z X EE e da)(hg:Gl X "isinstance":=by rfl)(hs:starEach [e,c] X.env=(false,eval e X.env)::starEach [c] X.env:=by rfl)(hs2:starEach [c] X.env=(false,eval c X.env)::starEach [] X.env:=by rfl)(hpl:(backTo pos (starEach [c] X.env)).any (·.1)=false:=by rfl):
  DE Z X EE (.Call (.Name "isinstance" p) [e,c] [] pos) (dIsi X.K cv da):=by
 refine PE.mono (q7m (x9r hc) hg hm PyProof.Rows.Boot.«isinstance» (q0o he (q0o hcl q1n hs2) hs) (by decide) (by decide) hs hpl) ?_;rintro σ H Q ⟨G,e,rel,h⟩;simp only[dIsi,R.holds_bind]at h;refine⟨G,e,rel,h.imp (fun w e1 h G1 v1 H1 r1 s1 p1=>?_) fun _ _ h=>h⟩
 split at h
 ·rename_i b hb;exact⟨v1,G1,w,b,rfl,r1.sub,p1,hb,h G1 _ H1 r1 s1 rfl⟩
 ·exact h.elim
theorem q61{n:Str}{T:String}(hv:bootBuiltins n=some (.type T))(hm:X.mg n=none)(hg:Gl X n:=by rfl)(hn:n≠"__name__":=by decide)(hd:(n==("__debug__":Str))=false:=by decide):PE X (.Name n pos) (tC (.ty T)):=y4f (v:=.ty T) hg hm hv rfl hn hd
noncomputable def tup1:List W->Option W
 |[.lst ws]=>some (.tup ws)
 |[.tup ws]=>some (.tup ws)
 |_=>none
theorem y81:OpN K (fun xs H Q=>∃p ys,xs=[.ref p]/\((SqL K H p ys/\∀l,H l=none->Q (.ref l) (upd H l (.tup ys)))\/(SqT K H p ys/\Q (.ref p) H))) tup1:=by
 intro G H xs ws w Q s pr hf h;unfold tup1 at hf;split at hf
 ·cases hf;obtain⟨x,r,rfl,px,pr⟩:=pr;cases(show r=[]from pr);obtain⟨a,ys,rfl,ha,ra⟩:=px;refine⟨a,ys,rfl,.inl ⟨s.seq ha,fun l hl=>?_⟩⟩
  have g:=Grow.laid s hl (.tup ys);exact h _ _ _ g ⟨l,ys,rfl,SqT.of q0g,Reps.mono g.gg _ ra⟩
 ·cases hf;obtain⟨x,r,rfl,px,pr⟩:=pr;cases(show r=[]from pr);obtain⟨a,ys,rfl,ha,ra⟩:=px;exact⟨a,ys,rfl,.inr ⟨s.tup ha,h G _ H (.refl s) ⟨a,ys,rfl,ha,ra⟩⟩⟩
 ·cases hf
theorem q7p(hm:X.mg "tuple"=none)(ha:DA Z X EE [e] dA)(hg:Gl X "tuple":=by rfl)(he:starEach [e] X.env=(false,eval e X.env)::starEach [] X.env:=by rfl)(hpl:(backTo pos (starEach [] X.env)).any (·.1)=false:=by rfl):DE Z X EE (.Call (.Name "tuple" p) [e] [] pos) (dFn tup1 dA):=
 x9f x3b y81 PyProof.Rows.Boot.«tuple» hm ha hg (by decide) (by decide) he hpl
theorem q4r(hm:X.mg "len"=none)(ha:DA Z X EE [e] dA)(hg:Gl X "len":=by rfl)(he:starEach [e] X.env=(false,eval e X.env)::starEach [] X.env:=by rfl)(hpl:(backTo pos (starEach [] X.env)).any (·.1)=false:=by rfl):DE Z X EE (.Call (.Name "len" p) [e] [] pos) (dFn len1 dA):=
 q8d q9x x9k PySem.boot_len hm ha hg (by decide) (by decide) he hpl
theorem q52(i:Nat)(hm:X.mg "len"=none)(hN:X.N[i]?=some x:=by rfl)(hvis:Vis X.env.scope x:=by walk_at "1")(hd:(x==("__debug__":Str))=false:=by decide)(hcd:(x==("__classdict__":Str))=false:=by decide)
  (hg:Gl X "len":=by rfl)(hs:starEach [.Name x p] X.env=(false,eval (.Name x p) X.env)::starEach [] X.env:=by rfl)(hpl:(backTo pos (starEach [] X.env)).any (·.1)=false:=by rfl):DE Z X EE (.Call (.Name "len" pn) [.Name x p] [] pos) (dFnV i len1):=
 y8z i q9x x9k PySem.boot_len hm hN hvis hd hcd hg (by decide) (by decide) hs hpl
noncomputable def lst1:List W->Option (List W)
 |[.lst ws]=>some ws
 |[.tup ws]=>some ws
 |_=>none
noncomputable def dList(dA:Den (List W)):Den (List W):=fun e=>(dA e).bind fun ws e1=>ofOpt (lst1 ws) e1
theorem x6x(hm:X.mg "list"=none)(ha:DA Z X EE [e] dA)(hg:Gl X "list":=by rfl)(he:starEach [e] X.env=(false,eval e X.env)::starEach [] X.env:=by rfl)(hpl:(backTo pos (starEach [] X.env)).any (·.1)=false:=by rfl):DF Z X EE (.Call (.Name "list" p) [e] [] pos) (dList dA):=by
 refine PE.mono (x2s x4a hg hm PyProof.Rows.Boot.«list» ha (by decide) (by decide) he hpl) ?_;rintro σ H Q ⟨G,e,rel,h⟩;simp only[dList,R.holds_bind,ofOpt_holds]at h;refine⟨G,e,rel,h.imp (fun ws e1 h G1 vs H1 r1 s1 p1=>?_) fun _ _ h=>h⟩
 obtain⟨out,hf,h⟩:=h;unfold lst1 at hf;split at hf
 ·cases hf;obtain⟨y,r,rfl,py,pr⟩:=p1;cases(show r=[]from pr);obtain⟨a,ys,rfl,hq,rq⟩:=py;exact⟨a,ys,rfl,.inl (r1.sub.seq hq),q91 r1 s1 rq h⟩
 ·cases hf;obtain⟨y,r,rfl,py,pr⟩:=p1;cases(show r=[]from pr);obtain⟨a,ys,rfl,hq,rq⟩:=py;exact⟨a,ys,rfl,.inr (r1.sub.tup hq),q91 r1 s1 rq h⟩
 ·cases hf
end
section
variable{P:Program}{w:World}{mg:Str->Option Value}{base:Heap}
theorem x9s(hF:∀ws,F ws=.no){vs:List V}{Q:VK}{E:XK}(h:spF K F vs H Q E):False:=by
 obtain⟨G,ws,hn,_⟩:=q8h h;exact hn (hF ws)
noncomputable def spLaw(K:PySem.W.Frag):Sp:=fun vs H Q _=>∃(a:Addr)(ns:List Int),vs=[.ref a]/\SqL K H a (ns.map V.int)/\ns.length<=63/\∀H',Q (.bl true) H'
theorem x2w:∀(ns:List Int),Reps K G (ns.map W.int) (ns.map V.int)
 |[]=>rfl
 |n::ns=>⟨_,_,rfl,rfl,x2w ns⟩
theorem y1z(hF:∀ns:List Int,ns.length<=63->F [.lst (ns.map .int)]=.ok (.fr (.bl true))){vs:List V}{Q:VK}{E:XK}(h:spLaw K vs H Q E):spF K F vs H Q E:=by
 obtain⟨a,ns,rfl,hS,hl,q⟩:=h;refine⟨fun b=>if b=a then H a else none,[.lst (ns.map .int)],fun b o z=>?_,⟨.ref a,[],rfl,⟨a,ns.map V.int,rfl,?_,x2w ns⟩,rfl⟩,?_⟩
 ·by_cases hb:b=a
  ·subst hb;simpa using z
  ·simp[hb]at z
 ·rcases hS with(h|⟨o,h⟩)|h
  ·exact .inl (.inl (by simpa using h))
  ·exact .inl (.inr ⟨o,by simpa using h⟩)
  ·exact .inr h
 ·rw[hF ns hl];intro G' H' v g sl;obtain⟨u,h1,h2⟩:=sl;cases h1;cases(show v=V.bl true from h2);exact q H'
theorem y82{P:Program}{w:World}{e:Value}{s':Shared}(z:CX1 P w [] H s (fun _ _ _=>False) e s'):False:=by
 obtain⟨_,_,_,_,_,_,_,_,_,_,h⟩:=z;exact h
theorem con0{st:Stmt}{ps:List Str}(A:At K mg x st ps)(hF:∀ws,F ws=.no:=by intro _;rfl):Cal P w K mg base 0 x ps (spF K F):=by
 obtain⟨f,fd,F0,m,b⟩:=A.ex;exact⟨f,fd,⟨fun vs H Q E h=>(x9s hF h).elim,fun A outer s H args us vs Q E _ _ _ _ h=>(x9s hF h).elim⟩,m,F0.kp,b⟩
end
section
variable{e:Expr}{d:Den Str}
def DFm(Z:Zt)(X:Cx)(EE:L2.St->XK)(n:Nat)(es:List Expr)(d:Den Str):Prop:=PF X es (fun acc σ H Q=>acc.length+n*1000001<=16777216/\∃G e,Rel X.K Z G σ H e/\(d e).holds (fun y e'=>∀G' H',Rel X.K Z G' σ H' e'->Same G G'->Q (acc++y) H') (XH X.K Z EE σ G))
end
section
variable{β:Type}{c:Prop} [Decidable c]{a:α}{e':List S}{k:α->List S->R β}{ks:α->List S->SR}{x y:R α}{s t:SR}{v:Value}{st:S}
theorem y5a:(R.ok a e).bind k=k a e:=rfl
theorem y5b:(R.ex v e:R α).bind k=.ex v e:=rfl
theorem y5c:(R.no:R α).bind k=.no:=rfl
theorem y10:(if c then x else y).bind k=if c then x.bind k else y.bind k:=by split<;>rfl
theorem y83:(R.ok a e).stm ks=ks a e:=rfl
theorem y84:(R.ex v e:R α).stm ks=.ex v e:=rfl
theorem y85:(R.no:R α).stm ks=.no:=rfl
theorem y5d:(if c then x else y).stm ks=if c then x.stm ks else y.stm ks:=by split<;>rfl
noncomputable def SR.seq:SR->(List S->SR)->SR
 |.nx e,b=>b e
 |r,_=>r
theorem y86{p:List S->SR}:dSeq p q e=(p e).seq q:=by
 unfold dSeq SR.seq;cases p e<;>rfl
theorem y87:(SR.nx e).seq q=q e:=rfl
theorem y88:(SR.rt st e).seq q=.rt st e:=rfl
theorem y89:(SR.ex v e).seq q=.ex v e:=rfl
theorem y9a:(SR.bk e).seq q=.bk e:=rfl
theorem y9b:(SR.ct e).seq q=.ct e:=rfl
theorem y9c:(SR.no).seq q=.no:=rfl
theorem y5e:(if c then s else t).seq q=if c then s.seq q else t.seq q:=by split<;>rfl
theorem z1t:(SR.nx e).fn=.ok (.fr .non):=rfl
theorem z1u:(SR.rt st e).fn=.ok st:=rfl
theorem z1v:(SR.ex v e).fn=.ex v:=rfl
theorem z1w:(SR.no).fn=.no:=rfl
theorem y9d:(if c then s else t).fn=if c then s.fn else t.fn:=by split<;>rfl
theorem x7z:ofOpt (some a) e=.ok a e:=rfl
theorem x70:ofOpt (none:Option α) e=.no:=rfl
theorem x9t{o p:Option α}:ofOpt (if c then o else p) e=if c then ofOpt o e else ofOpt p e:=by split<;>rfl
noncomputable def varS(i:Nat)(e:List S):Option S->R W
 |some (.fr w)=>.ok w e
 |some (.own none ws)=>.ok (.lst ws) (e.set i (.fr (.lst ws)))
 |some (.x k)=>match k.plain with
  |some w=>.ok w e
  |none=>.no
 |_=>.no
theorem y9e:dVar i e=varS i e e[i]?:=by
 unfold dVar varS;cases e[i]? with
 |none=>rfl
 |some s=>cases s with
  |own b ws=>cases b<;>rfl
  |_=>rfl
theorem y5f:varS i e (some (.x (.old w)))=.ok w e:=rfl
theorem y5g:varS i e (some (.x (.new w)))=.ok w e:=rfl
theorem y9f:varS i e (some (.fr w))=.ok w e:=rfl
theorem y5h:varS i e (some (.own none ws))=.ok (.lst ws) (e.set i (.fr (.lst ws))):=rfl
theorem dC_s:dC w e=.ok w e:=rfl
theorem z1x{f:W->W->Option W}:dOp f da db e=(da e).bind fun x e1=>(db e1).bind fun y e2=>ofOpt (f x y) e2:=rfl
noncomputable def testW(e:List S):W->R Bool
 |.bl k=>.ok k e
 |_=>.no
theorem y5i:dTest da e=(da e).bind fun x e1=>testW e1 x:=rfl
theorem y5j:testW e (.bl b)=.ok b e:=rfl
theorem y9g:dTru da e=(da e).bind fun x e1=>ofOpt (truW x) e1:=rfl
theorem y9h{p q:Den Bool}:dAnd p q e=(p e).bind fun x e1=>if x=true then q e1 else .ok false e1:=rfl
theorem z1y{p q:Den Bool}:dOr p q e=(p e).bind fun x e1=>if x=true then .ok true e1 else q e1:=rfl
theorem y9i{p:Den Bool}:dNot p e=(p e).bind fun x e1=>.ok (!x) e1:=rfl
noncomputable def andK(q:Den W)(e:List S):W->R W
 |.bl true=>q e
 |.bl false=>.ok (.bl false) e
 |_=>.no
theorem y5k{p q:Den W}:dAndV p q e=(p e).bind fun x e1=>andK q e1 x:=rfl
theorem y9j{q:Den W}:andK q e (.bl b)=if b=true then q e else .ok (.bl false) e:=by cases b<;>rfl
noncomputable def notK(e:List S):W->R W
 |.bl k=>.ok (.bl (!k)) e
 |_=>.no
theorem y5l{p:Den W}:dNotV p e=(p e).bind fun x e1=>notK e1 x:=rfl
theorem y9k:notK e (.bl b)=.ok (.bl (!b)) e:=rfl
theorem z1z{p:Den Bool}{q q':Den W}:dIf p q q' e=(p e).bind fun x e1=>if x=true then q e1 else q' e1:=rfl
theorem y9l:dNil e=.ok [] e:=rfl
theorem y5m{p:Den W}{q:Den (List W)}:dCons p q e=(p e).bind fun x e1=>(q e1).bind fun xs e2=>.ok (x::xs) e2:=rfl
theorem y9m:dTup p e=(p e).bind fun xs e1=>if xs.length<=16777216 then .ok (.tup xs) e1 else .no:=rfl
theorem y9n:dLst p e=(p e).bind fun xs e1=>if xs.length<=16777216 then .ok xs e1 else .no:=rfl
theorem z14:dFz p e=(p e).bind fun xs e1=>.ok (.lst xs) e1:=rfl
theorem z15:dFn f p e=(p e).bind fun xs e1=>ofOpt (f xs) e1:=rfl
theorem y5n:dList p e=(p e).bind fun xs e1=>ofOpt (lst1 xs) e1:=rfl
theorem z16:dNx e=.nx e:=rfl
theorem y9o:dRet d e=(d e).stm fun w e'=>.rt (.fr w) e':=rfl
theorem y5o{d:Den (List W)}:dRetF d e=(d e).stm fun w e'=>.rt (.own none w) e':=rfl
noncomputable def retS(e:List S):Option S->SR
 |some (.own none ws)=>.rt (.own none ws) e
 |some (.fr w)=>.rt (.fr w) e
 |_=>.no
theorem y5p:dRetO i e=retS e e[i]?:=by
 unfold dRetO retS;cases e[i]? with
 |none=>rfl
 |some s=>cases s with
  |own b ws=>cases b<;>rfl
  |_=>rfl
theorem y5q:retS e (some (.own none ws))=.rt (.own none ws) e:=rfl
theorem y9p:retS e (some (.fr w))=.rt (.fr w) e:=rfl
theorem y9q{p:Den Bool}{q':List S->SR}:dIfS p q q' e=(p e).stm fun x e1=>if x=true then q e1 else q' e1:=rfl
theorem y9r:dSet i d e=(d e).stm fun w e'=>.nx (e'.set i (.fr w)):=rfl
theorem y5r{d:Den (List W)}:dSetO i d e=(d e).stm fun w e'=>.nx (e'.set i (.own none w)):=rfl
noncomputable def callR(e:List S):FR->R W
 |.ok (.fr w)=>.ok w e
 |.ok (.own none ws)=>.ok (.lst ws) e
 |.ok (.dic kvs)=>.ok (.dic kvs) e
 |.ok (.thr us ws vs)=>.ok (.tup (us++.lst ws::vs)) e
 |.ok (.x (.new w))=>.ok w e
 |.ok (.x (.tn us wss))=>.ok (.tup (us++[.lst (wss.map .lst)])) e
 |.ex c=>.ex c e
 |_=>.no
theorem y11{us vs:List W}:callR e (.ok (.thr us ws vs))=.ok (.tup (us++.lst ws::vs)) e:=rfl
theorem y12:callR e (.ok (.x (.new w)))=.ok w e:=rfl
theorem y13{kvs:Dd}:callR e (.ok (.dic kvs))=.ok (.dic kvs) e:=rfl
theorem y5s{d:Den (List W)}:dCall F d e=(d e).bind fun ws e1=>callR e1 (F ws):=by
 unfold dCall;congr 1
theorem y5t:callR e (.ok (.fr w))=.ok w e:=rfl
theorem y14:callR e (.ok (.own none ws))=.ok (.lst ws) e:=rfl
theorem y5u:callR e (.ex v)=.ex v e:=rfl
theorem y5v:callR e .no=.no:=rfl
theorem y15{f g:FR}:callR e (if c then f else g)=if c then callR e f else callR e g:=by split<;>rfl
noncomputable def callF(e:List S):FR->R (List W)
 |.ok (.own none ws)=>.ok ws e
 |.ex c=>.ex c e
 |_=>.no
theorem x9u:callF e (.ok (.own none ws))=.ok ws e:=rfl
theorem y16:callF e (.ex v)=.ex v e:=rfl
theorem x9v{f g:FR}:callF e (if c then f else g)=if c then callF e f else callF e g:=by split<;>rfl
noncomputable def forW(i:Nat)(b:List S->SR)(e:List S):Option (List W)->SR
 |some ws=>forD i b ws e
 |none=>.no
theorem y9s{b:List S->SR}:dFor i d b e=(d e).stm fun w e1=>forW i b e1 (seqW w):=by
 unfold dFor;congr 1
theorem y5w{g:List W->Option (List W)}{d:Den (List W)}{b:List S->SR}:dForR i g d b e=(d e).stm fun w e1=>forW i b e1 (g w):=by
 unfold dForR;congr 1
theorem x9w{b:List S->SR}:forW i b e (some ws)=forD i b ws e:=rfl
noncomputable def SR.turn:SR->(List S->SR)->SR
 |.nx e,k=>k e
 |.ct e,k=>k e
 |.bk e,_=>.nx e
 |.rt s e,_=>.rt s e
 |.ex c e,_=>.ex c e
 |.no,_=>.no
theorem q97{b:List S->SR}:forD i b (w::ws) e=(b (e.set i (.fr w))).turn (forD i b ws):=by
 show(match b (e.set i (.fr w))with|.nx e'=>forD i b ws e'|.ct e'=>forD i b ws e'|.bk e'=>.nx e'|.rt s e'=>.rt s e'|.ex c e'=>.ex c e'|.no=>.no)=_;cases b (e.set i (.fr w))<;>rfl
theorem q9a:(SR.nx e).turn q=q e:=rfl
theorem y5x:(SR.ct e).turn q=q e:=rfl
theorem y5y:(SR.bk e).turn q=.nx e:=rfl
theorem y5z:(SR.rt st e).turn q=.rt st e:=rfl
theorem y50:(SR.ex v e).turn q=.ex v e:=rfl
theorem y51:(SR.no).turn q=.no:=rfl
theorem y17:(if c then s else t).turn q=if c then s.turn q else t.turn q:=by split<;>rfl
theorem x6y{p:Den Bool}{b:List S->SR}:whileD p b (n+1) e=(p e).stm fun x e1=>if x=true then(b e1).turn (whileD p b n)else .nx e1:=by
 show(p e).stm _=_;congr 1;funext x e1
 split
 ·cases b e1<;>rfl
 ·rfl
noncomputable def look1(k:W->R W):Option W->R W
 |none=>.no
 |some w=>k w
theorem y9t:dIxV i d e=look1 (fun _=>(d e).bind fun k e1=>look1 (fun w=>ofOpt (ixW w k) e1) (e1[i]?.bind S.look)) (e[i]?.bind S.look):=by
 unfold dIxV look1;cases e[i]?.bind S.look with
 |none=>rfl
 |some w=>
  dsimp only;try congr 1
theorem x9x{k:W->R W}:look1 k (some w)=k w:=rfl
theorem z17:S.look (.fr w)=some w:=rfl
theorem y9u:S.look (.x (.old w))=some w:=rfl
theorem y9v:S.look (.x (.new w))=some w:=rfl
theorem y9w:S.look (.x (.acc ws))=some (.lst ws):=rfl
theorem y9x{b:Option Nat}:S.look (.own b ws)=some (.lst ws):=rfl
noncomputable def fnV2(e:List S)(y:Option W):Option S->R W
 |some (.fr _)=>ofOpt y e
 |_=>match y with
  |none=>.no
  |some v=>if scalW v=true then .ok v e else .no
theorem y9y:dFnV i f e=look1 (fun w=>fnV2 e (f [w]) e[i]?) (e[i]?.bind S.look):=by
 unfold dFnV look1;cases q:e[i]? with
 |none=>rfl
 |some s=>
  cases s with
  |no=>rfl
  |dic _=>rfl
  |thr _ _ _=>rfl
  |nest _=>rfl
  |x k=>
   show(match k.look with|none=>R.no|some w=>match f [w]with|none=>R.no|some v=>if scalW v=true then R.ok v e else R.no)=look1 (fun w=>fnV2 e (f [w]) (some (.x k))) k.look
   cases k.look with
   |none=>rfl
   |some w=>
    show(match f [w]with|none=>R.no|some v=>if scalW v=true then R.ok v e else R.no)=fnV2 e (f [w]) (some (.x k));generalize f [w]=y;cases y<;>rfl
  |dw _ _ _=>rfl
  |fr w=>
   show(match f [w]with|none=>R.no|some v=>R.ok v e)=fnV2 e (f [w]) (some (.fr w));generalize f [w]=y;cases y<;>rfl
  |own b ws=>
   show(match f [W.lst ws]with|none=>R.no|some v=>if scalW v=true then R.ok v e else R.no)=fnV2 e (f [W.lst ws]) (some (.own b ws));generalize f [W.lst ws]=y;cases y<;>rfl
theorem y9z{y:Option W}:fnV2 e y (some (.fr w))=ofOpt y e:=rfl
theorem z18{k:SK}{v:W}:fnV2 e (some v) (some (.x k))=if scalW v=true then .ok v e else .no:=rfl
theorem y52{b:Option Nat}{v:W}:fnV2 e (some v) (some (.own b ws))=if scalW v=true then .ok v e else .no:=rfl
noncomputable def appK(i:Nat)(e:List S):List W->Option S->SR
 |[w],some (.own b xs)=>if xs.length<16777216 then .nx (e.set i (.own b (xs++[w])))else .no
 |_,_=>.no
noncomputable def ownQ(k:SR):Option S->SR
 |some (.own _ _)=>k
 |_=>.no
theorem y90{d:Den (List W)}:dApp i d e=ownQ ((d e).stm fun ws e1=>appK i e1 ws e1[i]?) e[i]?:=by
 unfold dApp ownQ;cases e[i]? with
 |none=>rfl
 |some s=>cases s with
  |own b xs=>
   dsimp only;try congr 1
  |_=>rfl
theorem z19{k:SR}{b:Option Nat}:ownQ k (some (.own b ws))=k:=rfl
theorem z2a{b:Option Nat}{xs:List W}:appK i e [w] (some (.own b xs))=if xs.length<16777216 then .nx (e.set i (.own b (xs++[w])))else .no:=rfl
noncomputable def popK(i:Nat)(e:List S)(b:Option Nat)(ws:List W):Option W->R W
 |some w=>.ok w (e.set i (.own b ws.dropLast))
 |none=>.no
noncomputable def popS(i:Nat)(e:List S):Option S->R W
 |some (.own b ws)=>popK i e b ws ws[ws.length-1]?
 |_=>.no
theorem y91:dPop i e=popS i e e[i]?:=by
 unfold dPop popS;cases e[i]? with
 |none=>rfl
 |some s=>cases s with
  |own b ws=>
   show(match ws[ws.length-1]? with|some w=>_|none=>_)=popK i e b ws ws[ws.length-1]?;cases ws[ws.length-1]?<;>rfl
  |_=>rfl
theorem y53{b:Option Nat}:popS i e (some (.own b (ws++[w])))=.ok w (e.set i (.own b ws)):=by
 show popK i e b (ws++[w]) (ws++[w])[(ws++[w]).length-1]?=_;have:(ws++[w])[(ws++[w]).length-1]?=some w:=by simp
 rw[this];show R.ok w (e.set i (.own b (ws++[w]).dropLast))=_;rw[List.dropLast_concat]
theorem z2b{dl dh:Den (Option Int)}:dSl d dl dh e=(d e).bind fun w e1=>(dl e1).bind fun lo e2=>(dh e2).bind fun hi e3=>ofOpt (slW w lo hi) e3:=rfl
theorem x9y:dNoPart e=.ok none e:=rfl
noncomputable def partK(e:List S):W->R (Option Int)
 |.int i=>.ok (some i) e
 |_=>.no
theorem y54:dPart d e=(d e).bind fun w e1=>partK e1 w:=rfl
theorem y18{i:Int}:partK e (.int i)=.ok (some i) e:=rfl
noncomputable def isiK(e:List S):Option W->R W
 |some (.bl b)=>.ok (.bl b) e
 |_=>.no
theorem y92:dIsi K cv d e=(d e).bind fun w e1=>isiK e1 (isiW K cv w):=by
 unfold dIsi;congr 1
theorem y93:isiK e (some (.bl b))=.ok (.bl b) e:=rfl
theorem x6z{b:Int}{k:Bool}(h:kitOne K (.type "int") cv=some k):isiW K cv (.int b)=some (.bl k):=by show(kitOne K (.type "int") cv).map W.bl=_;rw[h];rfl
theorem x60{b:List W}{k:Bool}(h:kitOne K (.type "tuple") cv=some k):isiW K cv (.tup b)=some (.bl k):=by show(kitOne K (.type "tuple") cv).map W.bl=_;rw[h];rfl
theorem y55{b:List W}{k:Bool}(h:kitOne K (.type "list") cv=some k):isiW K cv (.lst b)=some (.bl k):=by show(kitOne K (.type "list") cv).map W.bl=_;rw[h];rfl
noncomputable def compR(e:List S):Option (List W)->R (List W)
 |some out=>.ok out e
 |none=>.no
theorem y56:compK js cc d ws e=if ws.length<=16777216 then compR (frzs js e) (compD cc d (pjS js (frzs js e)) ws)else .no:=by
 unfold compK compR;split
 ·cases compD cc d (pjS js (frzs js e)) ws<;>rfl
 ·rfl
noncomputable def compW(js:List Nat)(cc:Den Bool)(d:Den W)(e:List S):Option (List W)->R (List W)
 |some ws=>compK js cc d ws e
 |none=>.no
theorem y57{di:Den W}:dComp js di cc d e=(di e).bind fun w e1=>compW js cc d e1 (seqW w):=by
 unfold dComp;congr 1
theorem y19{g:List W->Option (List W)}{di:Den (List W)}:dCompR g js di cc d e=(di e).bind fun w e1=>compW js cc d e1 (g w):=by
 unfold dCompR;congr 1
theorem x71:compW js cc d e (some ws)=compK js cc d ws e:=rfl
theorem x72{out:List W}:compR e (some out)=.ok out e:=rfl
theorem y94:dYes e=.ok true e:=rfl
theorem y58(h:e[j]?=some (.fr w)):frz1 e j=e:=by unfold frz1;rw[h]
theorem y2a:frzs [] e=e:=rfl
theorem x9z:frzs (j::js) e=frzs js (frz1 e j):=rfl
theorem y59:pjS [] e=[]:=rfl
theorem y2b:pjS (j::js) e=pj1 e j::pjS js e:=rfl
theorem y95(h:e[j]?=some (.fr w)):pj1 e j=.fr w:=by unfold pj1;rw[h]
theorem x4i{g:W->W}:∀(ws:List W),(∀w∈ws,∃e',d (.fr w::pe)=.ok (g w) e')->compD dYes d pe ws=some (ws.map g)
 |[],_=>rfl
 |w::ws,h=>by
  obtain⟨e',he⟩:=h w (by simp);show(match d (.fr w::pe)with|.ok y _=>(compD dYes d pe ws).map (y::·)|_=>none)=_;rw[he,x4i ws fun u hu=>h u (by simp[hu])]
  rfl
theorem x2x:compD cc d pe (w::ws)=(match cc (.fr w::pe)with
  |.ok true e1=>(match d e1 with|.ok y _=>(compD cc d pe ws).map (y::·)|_=>none)
  |.ok false _=>compD cc d pe ws
  |_=>none):=rfl
end
section
variable{i j:Int}{c:Bool}{us:List W}
theorem y96:addW (.int i) (.int j)=some (.int (i+j)):=rfl
theorem y97:addW (.str x) (.str y)=if x.length+y.length<=16777216 then some (.str (x++y))else none:=rfl
theorem y98:addW (.lst ws) (.lst us)=if ws.length+us.length<=16777216 then some (.lst (ws++us))else none:=rfl
theorem y99:subW (.int i) (.int j)=some (.int (i-j)):=rfl
theorem z0a:mulW (.int i) (.int j)=if(-18446744073709551616<i/\i<18446744073709551616)\/(-18446744073709551616<j/\j<18446744073709551616)then some (.int (i*j))else none:=rfl
theorem y6a:fdivW (.int i) (.int j)=if 0<j/\j<1073741824 then some (.int (i / j))else none:=rfl
theorem z0b:modW (.int i) (.int j)=if 0<j then some (.int (i%j))else none:=rfl
theorem z2c:ltW (.int i) (.int j)=some (.bl (decide (i<j))):=rfl
theorem z2d:leW (.int i) (.int j)=some (.bl (decide (i<=j))):=rfl
theorem z2e:gtW (.int i) (.int j)=some (.bl (decide (j<i))):=rfl
theorem z2f:geW (.int i) (.int j)=some (.bl (decide (j<=i))):=rfl
theorem z2g:eq2 (.int i) (.int j)=some (.bl (decide (i=j))):=by
 show some (W.bl (i==j))=_;congr 2
theorem z2h:eq2 (.str x) (.str y)=some (.bl (decide (x=y))):=by
 show some (W.bl (x==y))=_;congr 2
theorem z2i:eq2 (.bl b) (.bl c)=some (.bl (decide (b=c))):=by
 show some (W.bl (b==c))=_;congr 2
theorem z2j:ne2 (.int i) (.int j)=some (.bl (!decide (i=j))):=by
 show some (W.bl (!(i==j)))=_;congr 2
theorem z2k:ne2 (.str x) (.str y)=some (.bl (!decide (x=y))):=by
 show some (W.bl (!(x==y)))=_;congr 2
theorem z2l:ne2 (.bl b) (.bl c)=some (.bl (!decide (b=c))):=by
 show some (W.bl (!(b==c)))=_;congr 2
theorem z2m:isW (.bl b) (.bl c)=some (.bl (decide (b=c))):=by
 show some (W.bl (b==c))=_;congr 2
theorem z2n:isW .non .non=some (.bl true):=rfl
theorem z2o:isW (.bl b) .non=some (.bl false):=rfl
theorem z2p:isW (.int i) .non=some (.bl false):=rfl
theorem z2q:isW (.str x) .non=some (.bl false):=rfl
theorem z2r:isW (.tup ws) .non=some (.bl false):=rfl
theorem z2s:isW (.lst ws) .non=some (.bl false):=rfl
theorem ix_t:ixW (.tup ws) (.int i)=atI ws i:=rfl
theorem ix_l:ixW (.lst ws) (.int i)=atI ws i:=rfl
theorem z2t:len1 [.tup ws]=some (.int ws.length):=rfl
theorem z2u:len1 [.lst ws]=some (.int ws.length):=rfl
theorem z2v:tup1 [.lst ws]=some (.tup ws):=rfl
theorem z2w:tup1 [.tup ws]=some (.tup ws):=rfl
theorem z2x:lst1 [.lst ws]=some ws:=rfl
theorem z2y:lst1 [.tup ws]=some ws:=rfl
theorem z2z:truW (.bl b)=some b:=rfl
theorem z20:truW (.int i)=some (i != 0):=rfl
theorem z21:truW .non=some false:=rfl
theorem z22:truW (.tup ws)=some (!ws.isEmpty):=rfl
theorem z23:truW (.lst ws)=some (!ws.isEmpty):=rfl
theorem z24:seqW (.tup ws)=some ws:=rfl
theorem z25:seqW (.lst ws)=some ws:=rfl
theorem sc_i:scalW (.int i)=true:=rfl
theorem sc_b:scalW (.bl b)=true:=rfl
theorem sc_s:scalW (.str x)=true:=rfl
theorem sc_n:scalW .non=true:=rfl
theorem sl_l{lo hi:Option Int}:slW (.lst ws) lo hi=some (.lst (cutW ws lo hi)):=rfl
theorem at0{xs:List α}:atI xs 0=xs[0]?:=by
 cases xs with
 |nil=>rfl
 |cons a l=>exact q44 (j:=0) rfl
theorem at1{xs:List α}:atI xs 1=xs[1]?:=by
 cases xs with
 |nil=>rfl
 |cons a l=>
  cases l with
  |nil=>rfl
  |cons b l=>exact q44 (j:=1) rfl
theorem at2{xs:List α}:atI xs 2=xs[2]?:=by
 cases xs with
 |nil=>rfl
 |cons a l=>
  cases l with
  |nil=>rfl
  |cons b l=>
   cases l with
   |nil=>rfl
   |cons c l=>exact q44 (j:=2) rfl
theorem z0c{xs:List α}{k:Int}(h0:0<=k):atI xs k=xs[k.toNat]?:=by
 unfold atI ixN;rw[if_pos h0]
 by_cases h:k<xs.length
 ·rw[if_pos h];rfl
 ·rw[if_neg h];exact(w1w (by omega)).symm
theorem x4j{a b:String}(h:Str.ofString a=Str.ofString b):a=b:=by
 rw[Str.ofString_eq_toList,Str.ofString_eq_toList]at h;have h1:(a.toList.map Char.toNat).toArray=(b.toList.map Char.toNat).toArray:=congrArg Str.cps h;have h2:a.toList.map Char.toNat=b.toList.map Char.toNat:=by simpa using congrArg Array.toList h1
 have h3:a.toList=b.toList:=by
  have inj:∀c d:Char,c.toNat=d.toNat->c=d:=fun c d e=>by
   apply Char.ext;exact UInt32.toNat_inj.mp e
  exact(List.map_inj_right inj).mp h2
 exact String.toList_inj.mp h3
theorem z0d{a b:String}:(Str.ofString a=Str.ofString b)=(a=b):=propext ⟨x4j,fun h=>by rw[h]⟩
end
noncomputable def tuprevW:W->Option W
 |.lst ws=>some (.tup ws.reverse)
 |_=>none
noncomputable def boolsW:List W->Option (List Bool)
 |[]=>some []
 |.bl b::ws=>(boolsW ws).map (b::·)
 |_=>none
noncomputable def all1:List W->Option W
 |[.lst ws]=>(boolsW ws).map fun bs=>.bl (bs.all id)
 |_=>none
noncomputable def int1:List W->Option W
 |[.int i]=>some (.int i)
 |[.bl b]=>some (.int (if b then 1 else 0))
 |_=>none
noncomputable def eqS(y x:W):Bool:=(eqW y x).getD false
noncomputable def ninW:W->W->Option W
 |x,.tup ws=>if scalW x=true/\ws.all scalW=true then some (.bl (!ws.any fun y=>eqS y x))else none
 |x,.lst ws=>if scalW x=true/\ws.all scalW=true then some (.bl (!ws.any fun y=>eqS y x))else none
 |_,_=>none
theorem q8j(h:scalW w=true)(p:Rep K G w v):flatV v=true:=by
 cases w with
 |non=>cases p;rfl
 |bl b=>cases p;rfl
 |int b=>cases p;rfl
 |str b=>cases p;rfl
 |_=>cases h
theorem y6b{u:W}{x:V}(h:scalW w=true)(h':scalW u=true)(p:Rep K G w v)(q:Rep K G u x):eqV v x=eqS w u:=by
 cases w<;>cases u<;>first|(cases p;cases q;rfl)|exact absurd (show false=true from h') w0s|exact absurd (show false=true from h) w0s
theorem q98{u:W}{x:V}(hu:scalW u=true)(q:Rep K G u x):∀{ws:List W}{xs:List V},ws.all scalW=true->Reps K G ws xs->xs.all flatV=true/\inV x xs=ws.any fun y=>eqS y u
 |[],xs,_,r=>by cases r;exact⟨rfl,rfl⟩
 |w::ws,xs,h,r=>by
  obtain⟨y,r',rfl,p,r⟩:=r;rw[w2m,w0t]at h;obtain⟨i1,i2⟩:=q98 hu q h.2 r;refine⟨by rw[w2m,q8j h.1 p,i1];rfl,?_⟩;show(eqV y x||inV x r')=(eqS w u||ws.any _);rw[y6b h.1 hu p q,i2]
theorem z0e:Op2 K (rIn K true) ninW:=by
 intro G H x y wx wy w Q s px py hf h;cases wy with
 |tup ws=>
  simp only[ninW]at hf;split at hf
  ·rename_i hc;cases hf;obtain⟨a,xs,rfl,ha,ra⟩:=py;obtain⟨i1,i2⟩:=q98 hc.1 px hc.2 ra;refine⟨a,xs,rfl,.inr (s.tup ha),q8j hc.1 px,i1,?_⟩;rw[i2];exact h G _ H (.refl s) rfl
  ·cases hf
 |lst ws=>
  simp only[ninW]at hf;split at hf
  ·rename_i hc;cases hf;obtain⟨a,xs,rfl,ha,ra⟩:=py;obtain⟨i1,i2⟩:=q98 hc.1 px hc.2 ra;refine⟨a,xs,rfl,.inl (s.seq ha),q8j hc.1 px,i1,?_⟩;rw[i2];exact h G _ H (.refl s) rfl
  ·cases hf
 |_=>simp[ninW]at hf
theorem x02:∀{ws:List W}{bs:List Bool},boolsW ws=some bs->ws=bs.map .bl
 |[],bs,h=>by cases h;rfl
 |.bl b::ws,bs,h=>by
  obtain⟨cs,h1,rfl⟩:=w0c.mp (show(boolsW ws).map (b::·)=some bs from h);rw[x02 h1];rfl
 |.non::ws,bs,h=>by cases h
 |.int _::ws,bs,h=>by cases h
 |.str _::ws,bs,h=>by cases h
 |.tup _::ws,bs,h=>by cases h
 |.lst _::ws,bs,h=>by cases h
 |.exc _::ws,bs,h=>by cases h
theorem x03:∀{bs:List Bool}{xs:List V},Reps K G (bs.map W.bl) xs->xs=bs.map V.bl
 |[],xs,h=>h
 |b::bs,xs,h=>by
  obtain⟨x,r,rfl,h1,h2⟩:=h;rw[x03 h2,show x=V.bl b from h1];rfl
theorem z0f:OpN K (fun xs H Q=>∃p ys,xs=[.ref p]/\SqL K H p ys/\(∀y∈ys,∃b,y=.bl b)/\Q (.bl (ys.all fun y=>decide (y=.bl true))) H) all1:=by
 intro G H xs ws w Q s pr hf h;unfold all1 at hf;split at hf
 ·obtain⟨bs,hb,rfl⟩:=w0c.mp hf;have:=x02 hb;subst this;obtain⟨x,r,rfl,px,pr⟩:=pr;cases(show r=[]from pr);obtain⟨a,ys,rfl,ha,ra⟩:=px;have:=x03 ra;subst this;refine⟨a,_,rfl,s.seq ha,fun y hy=>?_,h G _ H (.refl s) ?_⟩
  ·obtain⟨b,_,rfl⟩:=w1x.mp hy;exact⟨b,rfl⟩
  ·show V.bl _=V.bl _;congr 1;rw[List.all_map];congr 1;funext b
   cases b<;>rfl
 ·cases hf
theorem z0g:OpN K (fun xs H Q=>(∃i,xs=[.int i]/\Q (.int i) H)\/∃k,xs=[.bl k]/\Q (.int (if k then 1 else 0)) H) int1:=by
 intro G H xs ws w Q s pr hf h;unfold int1 at hf;split at hf
 ·cases hf;obtain⟨x,r,rfl,px,pr⟩:=pr;cases(show r=[]from pr);cases px;exact .inl ⟨_,rfl,h G _ H (.refl s) rfl⟩
 ·cases hf;obtain⟨x,r,rfl,px,pr⟩:=pr;cases(show r=[]from pr);cases px;exact .inr ⟨_,rfl,h G _ H (.refl s) rfl⟩
 ·cases hf
section
variable{a b c e:Expr}{p pos1 pos2:Pos}
theorem z0h(hu:X.A.units+150<cLine)(ha:DE Z X EE a da)(hb:DE Z X EE b db)(hm:behindInMarks .NotIn b=false:=by with_unfolding_all rfl):DT Z X EE (.Compare a [.NotIn] [b] pos) (dTest (dOp ninW da db)):=q59 x39 z0e ha hb hm
theorem x90(hc:X.calm=true)(hm:X.mg "all"=none)(ha:DA Z X EE [e] dA)(hg:Gl X "all":=by rfl)(he:starEach [e] X.env=(false,eval e X.env)::starEach [] X.env:=by rfl)(hpl:(backTo pos (starEach [] X.env)).any (·.1)=false:=by rfl):DE Z X EE (.Call (.Name "all" p) [e] [] pos) (dFn all1 dA):=
 q8d (y1l hc) z0f PyProof.Rows.Boot.«all» hm ha hg (by decide) (by decide) he hpl
theorem y6c(hm:X.mg "int"=none)(ha:DA Z X EE [e] dA)(hg:Gl X "int":=by rfl)(he:starEach [e] X.env=(false,eval e X.env)::starEach [] X.env:=by rfl)(hpl:(backTo pos (starEach [] X.env)).any (·.1)=false:=by rfl):DE Z X EE (.Call (.Name "int" p) [e] [] pos) (dFn int1 dA):=
 x9f x82 z0g PyProof.Rows.Boot.«int» hm ha hg (by decide) (by decide) he hpl
end
theorem y2c:tuprevW (.lst ws)=some (.tup ws.reverse):=rfl
theorem z26{i:Int}:int1 [.int i]=some (.int i):=rfl
theorem z27:int1 [.bl b]=some (.int (if b then 1 else 0)):=rfl
theorem cast0:((0:Nat):Int)=0:=rfl
theorem cast1:((1:Nat):Int)=1:=rfl
theorem x91{b:List S->SR}(I:Nat->List S->Prop):∀(ws:List W)(k:Nat)(e:List S),I k e->(∀(j:Nat)(w:W)(e:List S),ws[j]?=some w->I (k+j) e->∃e',b (e.set i (.fr w))=.nx e'/\I (k+j+1) e')->∃e',forD i b ws e=.nx e'/\I (k+ws.length) e'
 |[],k,e,h0,_=>⟨e,rfl,h0⟩
 |w::ws,k,e,h0,h=>by
  obtain⟨e1,h1,h2⟩:=h 0 w e rfl h0
  obtain⟨e2,h3,h4⟩:=x91 I ws (k+1) e1 h2 fun j u e hu hI=>by
   have z:=h (j+1) u e (by simpa using hu) (by rw[show k+(j+1)=k+1+j by omega];exact hI);rw[show k+(j+1)+1=k+1+j+1 by omega]at z;exact z
  refine⟨e2,?_,?_⟩
  ·rw[q97,h1,q9a,h3]
  ·rw[w0q,show k+(ws.length+1)=k+1+ws.length by omega];exact h4
theorem mem_range(h:w∈rangeW lo hi):∃k:Nat,w=.int (lo+k)/\(k:Int)<hi-lo:=by
 unfold rangeW at h;obtain⟨k,h1,rfl⟩:=w1x.mp h;rw[w1i]at h1;exact⟨k,rfl,by omega⟩
theorem len_range:(rangeW lo hi).length=(hi-lo).toNat:=by simp[rangeW]
theorem x92(h:(rangeW lo hi)[j]?=some w):w=.int (lo+j)/\j<(hi-lo).toNat:=by
 unfold rangeW at h;rw[w0f]at h;obtain⟨k,h1,rfl⟩:=w0c.mp h;obtain⟨h2,h3⟩:=w0a.mp h1;simp at h2 h3;subst h3;exact⟨rfl,by omega⟩
theorem x04{b:List S->SR}(n:Nat)(hn:(hi-lo).toNat=n)(I:Nat->List S->Prop)(e:List S)(h0:I 0 e)(h:∀(j:Nat)(e:List S),j<n->I j e->∃e',b (e.set i (.fr (.int (lo+j))))=.nx e'/\I (j+1) e'):∃e',forD i b (rangeW lo hi) e=.nx e'/\I n e':=by
 obtain⟨e',h1,h2⟩:=x91 (b:=b) (i:=i) I (rangeW lo hi) 0 e h0 fun j w e hw hI=>by
  obtain⟨rfl,hj⟩:=x92 hw;rw[w4a]at hI |-
  exact h j e (by omega) hI
 rw[len_range,hn,w4a]at h2;exact⟨e',h1,h2⟩
structure TabK(P:Program)(w:World)(K:PySem.W.Frag)(d:Addr)(tb:List (Str×Int)):Prop where
 tab:∀h,K.In h->PyProof.Rows.StrTab P w h d (PySem.W.kdpD tb)
 obj:∃o,K.lookup d=some o/\o.cls=.type "dict" /\ o.dict=none
noncomputable def extB(i:Nat)(e:List S)(b:Option Nat)(xs:List W):Option (List W)->SR
 |some ys=>if xs.length+ys.length<=16777216 then .nx (e.set i (.own b (xs++ys)))else .no
 |none=>.no
theorem x93{b:Option Nat}{xs ys:List W}:extB i e b xs (some ys)=if xs.length+ys.length<=16777216 then .nx (e.set i (.own b (xs++ys)))else .no:=rfl
noncomputable def compP(c:Den Bool)(d:Den W)(pe:List S):List (W×W)->Option (List W)
 |[]=>some []
 |p::ps=>match c (.fr p.1::.fr p.2::pe)with
  |.ok true e1=>match d e1 with
   |.ok y _=>(compP c d pe ps).map (y::·)
   |_=>none
  |.ok false _=>compP c d pe ps
  |_=>none
noncomputable def compPK(js:List Nat)(c:Den Bool)(d:Den W)(ps:List (W×W))(e1:List S):R (List W):=
 if ps.length<=16777216 then(match compP c d (pjS js (frzs js e1)) ps with
  |some out=>.ok out (frzs js e1)
  |none=>.no)else .no
noncomputable def dCompP(js:List Nat)(di:Den (List (W×W)))(c:Den Bool)(d:Den W):Den (List W):=fun e=>(di e).bind fun ps e1=>compPK js c d ps e1
structure Walk2(K:PySem.W.Frag)(G1:Hp)(J:It)(ps:List (W×W)):Prop where
 go:∀(i:Nat)(G H:Hp),Same G1 G->Same G H->i<ps.length->J.go i H
 yld:∀(i:Nat)(G H:Hp)(x:V)(H':Hp),Same G1 G->Same G H->J.yld i H x H'->∀u v,ps[i]?=some (u,v) ->
  Grow G H G H'/\∀(m n:Nat)(σ:St)(Q:St->Hp->Prop),(∀y z,Rep K G u y->Rep K G v z->Q ((σ.set m (some y)).set n (some z)) H')->gTup K 2 (gCons (gName m) (gCons (gName n) gNil)) x σ H' Q
 stop:∀(i:Nat)(G H:Hp),Same G1 G->Same G H->ps.length<=i->J.stop i H
def liftI(K:PySem.W.Frag)(Z:Zt)(EE:L2.St->XK)(d:Den (List (W×W))):TI:=fun σ H R=>AtG K Z σ H fun G e=>(d e).holds (fun ps e1=>∀G1 H1 J,Rel K Z G1 σ H1 e1->Same G G1->Walk2 K G1 J ps->R J H1) (XH K Z EE σ G)
def DI(Z:Zt)(X:Cx)(EE:L2.St->XK)(tg iter:Expr)(d:Den (List (W×W))):Prop:=PI X tg iter (liftI X.K Z EE d)
theorem PI.mono{tg iter:Expr}{wi wi':TI}(h:PI X tg iter wi)(m:∀σ H R,wi' σ H R->wi σ H R):PI X tg iter wi':=fun pins s σ H R I q=>h pins s σ H R I (m σ H R q)
theorem x73{k:Nat}{p:W×W}(h:ps[k]?=some p):ps.drop k=p::ps.drop (k+1):=by
 obtain⟨h1,h2⟩:=w0a.mp h;rw[w2h h1,h2]
theorem Rel.block2(r:Rel K Z G σ H e)(js:List Nat){u:W}{y x:V}(q:Rep K G u y)(p:Rep K G w x):Rel K ⟨H,G,[]⟩ G (some y::some x::pj js σ) H (.fr u::.fr w::pjS js e):=by
 have b:=r.block js p
 have hfr:∀(i:Nat)(s:S),(S.fr w::pjS js e)[i]?=some s->s=.no\/∃u,s=.fr u:=fun i s h=>by
  cases i with
  |zero=>cases h;exact .inr ⟨w,rfl⟩
  |succ k=>
   rw[w0p]at h;unfold pjS at h;rw[w0f]at h;obtain⟨j,h1,h2⟩:=w0c.mp h;unfold pj1 at h2;split at h2
   ·subst h2;exact .inr ⟨_,rfl⟩
   ·subst h2;exact .inl rfl
 refine⟨b.sub,fun i s h=>?_,?_,fun i j b1 b2 w1 w2 a h1 h2 _ _=>?_,b.ent,b.ion,b.gen⟩
 ·cases i with
  |zero=>cases h;exact⟨y,rfl,q⟩
  |succ i=>
   rw[w0p]at h;have z:=b.slot i s h;rcases hfr i s h with rfl|⟨u',rfl⟩
   ·trivial
   ·obtain⟨v,z1,z2⟩:=b.fr h;exact⟨v,by rw[w0p,z1];rfl,z2⟩
 ·have:=b.len;simp only[w0q]at this |-
  omega
 ·cases i with
  |zero=>cases h1
  |succ i=>
   rw[w0p]at h1;rcases hfr i _ h1 with z|⟨u',z⟩<;>cases z
theorem y2d{J:It}{out:List W}{Q:VK}{G0 H1:Hp}{e1:List S}(W0:Walk2 K G1 J ps)(r1:Rel K Z G1 σ H1 e1)(s1:Same G0 G1)(hl:ps.length<=16777216)
  (hz:∀p,H1 p=none->p∉Z.io)(hc:compP c d (pjS js e1) ps=some out)
  (h:∀G' a xs H',Rel K Z G' σ H' e1->Same G0 G'->H' a=some (.lst xs)->G' a=none->Z.H a=none->Free σ e1 a->Reps K G' out xs->Q (.ref a) H'):
  ∀D,H1 D=none->∃W:Nat->Nat->Hp->Prop,(∃m,W 0 m (upd H1 D (.lst [])))/\∀i m H2,W i m H2 ->
   (J.stop i H2/\Q (.ref D) H2)\/(J.go i H2/\∀x H3,J.yld i H2 x H3->gTup K 2 (gCons (gName 0) (gCons (gName 1) gNil)) x (List.replicate 2 none++pj js σ) H3 fun σ4 H4=>Kp (List.replicate 2 none++pj js σ) σ4/\cT K c σ4 H4 fun b H5=>
    if b=true then cE K d σ4 H5 fun y H6=>∃ys,H6 D=some (.lst ys)/\ys.length<sizeLine/\∃m',m'<m/\W (i+1) m' (upd H6 D (.lst (ys++[y])))else ∃m',m'<m/\W (i+1) m' H5):=by
 intro D hD
 refine⟨fun i m H2=>m=ps.length-i/\i<=ps.length/\∃G2 ys done rest,Rel K Z G2 σ H2 e1/\Same G1 G2/\H2 D=some (.lst ys)/\G2 D=none/\Reps K G2 done ys/\done.length<=i/\compP c d (pjS js e1) (ps.drop i)=some rest/\done++rest=out,
  ⟨ps.length,by omega,w1f _,G1,[],[],out,r1.grow (Grow.hid r1.sub hD _),.refl _,q0g,r1.sub.free hD,rfl,w0g _,hc,rfl⟩,?_⟩
 rintro i m H2 ⟨rfl,hi,G2,ys,done,rest,r2,s2,hd2,hg2,rp2,hdl,hc2,ho⟩;have hfree:Free σ e1 D:=q7o r1 hD;have hzh:Z.H D=none:=q5p r1 hD
 by_cases hlt:i<ps.length
 ·refine .inr ⟨W0.go i G2 H2 s2 r2.sub hlt,fun x H3 hy=>?_⟩
  have hp:ps[i]?=some ((ps[i]).1,(ps[i]).2):=by rw[w0b hlt]
  obtain⟨g3,hgo⟩:=W0.yld i G2 H2 x H3 s2 r2.sub hy _ _ hp;have r2':=r2.grow g3;have hd3:H3 D=some (.lst ys):=g3.hh _ _ hd2;rw[x73 hp]at hc2;refine hgo 0 1 _ _ fun yv zv py pz=>⟨Kp.two,⟨H3,G2,[]⟩,G2,.fr (ps[i]).1::.fr (ps[i]).2::pjS js e1,r2'.block2 js py pz,?_⟩
  unfold compP at hc2;cases qc:c (.fr (ps[i]).1::.fr (ps[i]).2::pjS js e1)with
  |no=>rw[qc]at hc2;cases hc2
  |ex _ _=>rw[qc]at hc2;cases hc2
  |ok k e2=>
   rw[qc]at hc2;intro G3 H5 r3 s3;have g3:=r3.toGrow s3;cases k with
   |false=>
    exact⟨ps.length-(i+1),by omega,rfl,hlt,G3,ys,done,rest,r2'.grow g3,s2.trans s3,g3.hh _ _ hd3,by rw[g3.new D (by rw[hd3];simp)];exact hg2,Reps.mono s3 _ rp2,by omega,hc2,ho⟩
   |true=>
    refine⟨⟨H3,G2,[]⟩,G3,e2,r3,?_⟩;dsimp only at hc2;cases qd:d e2 with
    |no=>rw[qd]at hc2;cases hc2
    |ex _ _=>rw[qd]at hc2;cases hc2
    |ok y e3=>
     rw[qd]at hc2;intro G4 v H6 r4 s4 p4;have g4:=r4.toGrow (s3.trans s4);obtain⟨rest',hr,rfl⟩:=w0c.mp hc2;have hd6:H6 D=some (.lst ys):=g4.hh _ _ hd3;have hg6:G4 D=none:=by rw[g4.new D (by rw[hd3];simp)];exact hg2
     refine⟨ys,hd6,?_,ps.length-(i+1),by omega,rfl,hlt,G4,ys++[v],done++[y],rest',(r2'.grow g4).mutFree hg6 hzh (hz D hD) hfree hd6,s2.trans (s3.trans s4),q0g,hg6,(Reps.mono (s3.trans s4) _ rp2).append (.one p4),by simp;omega,hr,by rw[w2g];exact ho⟩;rw[rp2.length,sizeLine_eq];omega
 ·have:i=ps.length:=by omega
  subst this;rw[w2r]at hc2;cases hc2;rw[w1p]at ho;subst ho;exact .inl ⟨W0.stop _ G2 H2 s2 r2.sub (by omega),h G2 D ys H2 r2 (s1.trans s2) hd2 hg2 hzh hfree rp2⟩
section
variable{elt iter e a:Expr}{body:List Stmt}{ifs:List Expr}{scope sc:Scope}{pt p3:Pos}{Nf N:List Str}{di:Den (List (W×W))}{d0:Den W}{s1:List S->SR}
theorem x74:∀σ H Q,liftF K Z EE (dCompP js di c d) σ H Q->tComp (liftI K Z EE di) 2 js (gTup K 2 (gCons (gName 0) (gCons (gName 1) gNil))) (cT K c) (cE K d) σ H Q:=by
 rintro σ H Q ⟨G,e,rel,h⟩;simp only[dCompP,R.holds_bind]at h;refine⟨G,e,rel,h.imp (fun ps e1 h G1 H1 J r1 s1 W0=>?_) fun _ _ h=>h⟩
 unfold compPK at h;split at h
 ·rename_i hl;split at h
  ·rename_i out ho;obtain⟨G2,s2,r2⟩:=r1.frzs js;have W1:Walk2 K G2 J ps:=⟨fun i G H a=>W0.go i G H (s2.trans a),fun i G H x H' a=>W0.yld i G H x H' (s2.trans a),fun i G H a=>W0.stop i G H (s2.trans a)⟩
   exact y2d W1 r2 (s1.trans s2) hl (ionone r2) ho h
  ·exact h.elim
 ·exact h.elim
theorem q99(hc:X.calm=true)(hi:DI Z X EE (.Tuple [.Name x p1,.Name y p2] kt p3) iter di)(ok:compOk sc scope N Nf js=true)
  (ht:∀Z' cl C s₀ H₀ ex,DTs Z' (X.cp ([x,y]++Nf) scope cl C s₀ H₀ ex) (fun _=>E0) ifs c)(he:∀Z' cl C s₀ H₀ ex,DE Z' (X.cp ([x,y]++Nf) scope cl C s₀ H₀ ex) (fun _=>E0) elt d)
  (hg:∀cl C s₀ H₀ ex,PG (X.cp ([x,y]++Nf) scope cl C s₀ H₀ ex) (.Tuple [.Name x p1,.Name y p2] kt p3) (gTup X.K 2 (gCons (gName 0) (gCons (gName 1) gNil))))
  (hsc:X.env.scope=sc:=by rfl)(hN:X.N=N:=by rfl)(hs:∀x,foldedSetIterable iter X.env x=pure x:=by intro _;rfl):
  DF Z X EE (.ListComp elt [⟨.Tuple [.Name x p1,.Name y p2] kt p3,iter,ifs,0⟩] scope pos) (dCompP js di c d):=by
 exact PE.mono (q90 (Nl:=[x,y]) (tc:=cT X.K c) (te:=cE X.K d) hc hi ok hg (x3p ht) (x3q he) hsc hN hs) x74
noncomputable def pairsW:List W->Option (List (W×W))
 |[]=>some []
 |.tup [u,v]::ws=>(pairsW ws).map ((u,v)::·)
 |_=>none
noncomputable def srcP(d:Den W):Den (List (W×W)):=fun e=>(d e).bind fun w e1=>match seqW w with
 |some ws=>ofOpt (pairsW ws) e1
 |none=>.no
theorem x2y:∀{ws:List W}{ps:List (W×W)},pairsW ws=some ps->ws.length=ps.length/\∀(i:Nat) u v,ps[i]?=some (u,v)->ws[i]?=some (.tup [u,v])
 |[],ps,h=>by cases h;exact⟨rfl,fun i u v z=>by simp at z⟩
 |w::ws,ps,h=>by
  unfold pairsW at h;split at h
  ·rename_i z;cases z
  ·rename_i u v ws' z;cases z;obtain⟨q,hq,rfl⟩:=w0c.mp h;obtain⟨h1,h2⟩:=x2y hq;refine⟨by simp[h1],fun i u' v' z=>?_⟩
   cases i with
   |zero=>simp at z;simp[z.1,z.2]
   |succ i=>simp only[w0p]at z |-;exact h2 i _ _ z
  ·cases h
theorem x2z{J:It}{SQ:Hp->Prop}(W0:Walk J xs SQ)(rp:Reps K G1 ws xs)(hp:pairsW ws=some ps)(hSQ:∀G' H',Same G1 G'->Same G' H'->SQ H'):Walk2 K G1 J ps:=by
 obtain⟨hl,hg⟩:=x2y hp;have hx:=rp.length;refine⟨fun i G H a b h=>W0.go i H (hSQ G H a b) (by omega),fun i G H x H' a b hy u v h=>?_,fun i G H a b h=>W0.stop i H (hSQ G H a b) (by omega)⟩
 have hlt:i<ps.length:=(w0a.mp h).1;obtain⟨rfl,hx'⟩:=W0.yld i H x H' (hSQ G H a b) hy (by omega);refine⟨Grow.refl b,fun m n σ Q hQ=>?_⟩
 obtain⟨w,hw,pw⟩:=rp.getV hx';rw[hg i u v h]at hw;cases hw;have pw:=Rep.mono a _ pw;obtain⟨c,ys,rfl,hq,y1,q1,rfl,p1,y2,q2,rfl,p2,rfl⟩:=pw;exact⟨c,[y1,y2],rfl,b.tup hq,rfl,y1,[y2],rfl,y2,[],rfl,rfl,hQ y1 y2 p1 p2⟩
theorem x0a{tg l:Expr}(hl:DE Z X EE l d0):DI Z X EE tg l (srcP d0):=by
 refine PI.mono (q8g hl) ?_;rintro σ H RR ⟨G,e,rel,h⟩;simp only[srcP,R.holds_bind]at h;refine⟨G,e,rel,h.imp (fun w e1 h G1 v1 H1 r1 s1 p1=>?_) fun _ _ h=>h⟩
 split at h
 ·rename_i ws hw;obtain⟨ps,hp,h⟩:=ofOpt_holds.mp h;cases w with
  |tup us=>
   cases hw;obtain⟨a,xs,rfl,hq,rp⟩:=p1;exact⟨a,rfl,.inr ⟨⟨xs,r1.sub.tup hq⟩,h _ _ _ r1 s1 (x2z x9n rp hp fun G' H' s s'=>Same.tup s' (Same.tup s hq))⟩⟩
  |lst us=>
   cases hw;obtain⟨a,xs,rfl,hq,rp⟩:=p1;exact⟨a,rfl,.inl ⟨⟨xs,r1.sub.seq hq⟩,h _ _ _ r1 s1 (x2z x9m rp hp fun G' H' s s'=>Same.seq s' (Same.seq s hq))⟩⟩
  |_=>cases hw
 ·exact h.elim
end
theorem x4k{p3:Pos}(hN:X.N.Nodup)(hc:X.calm=true)
  (hi:X.N[0]?=some x:=by rfl)(hx:Loc X.env.scope x:=by walk_at "3")(hf:X.fn x=true\/X.env.scope.names.lookup x=some .local:=by walk_at "2")
  (hj:X.N[1]?=some y:=by rfl)(hy:Loc X.env.scope y:=by walk_at "3")(hf':X.fn y=true\/X.env.scope.names.lookup y=some .local:=by walk_at "2")
  (hn:(assignEach [.Name x p1,.Name y p2] X.env).length=2:=by rfl)(hst:(assignEach [.Name x p1,.Name y p2] X.env).findIdx? (·.1)=none:=by rfl)
  (g1:(assignEach [.Name x p1,.Name y p2] X.env).map (·.2)=assign (.Name x p1) X.env::(assignEach [.Name y p2] X.env).map (·.2):=by rfl)(g2:(assignEach [.Name y p2] X.env).map (·.2)=assign (.Name y p2) X.env::(assignEach [] X.env).map (·.2):=by rfl):
  PG X (.Tuple [.Name x p1,.Name y p2] kt p3) (gTup X.K 2 (gCons (gName 0) (gCons (gName 1) gNil))):=
 y8e hc (x32 (q4c 0 hN hi hx hf) (x32 (q4c 1 hN hj hy hf') y4i g2) g1) hn hst
section
variable{di:Den (List (W×W))}{b:List S->SR}{c:Prop} [Decidable c]{s t:SR}{k:List S->SR}{v:Value}{st:S}
noncomputable def srcPW(e:List S):Option (List W)->R (List (W×W))
 |some ws=>ofOpt (pairsW ws) e
 |none=>.no
theorem z0i:srcP d e=(d e).bind fun w e1=>srcPW e1 (seqW w):=by
 unfold srcP;congr 1
theorem x75:srcPW e (some ws)=ofOpt (pairsW ws) e:=rfl
theorem y2e:compPK js cc d ps e=if ps.length<=16777216 then compR (frzs js e) (compP cc d (pjS js (frzs js e)) ps)else .no:=by
 unfold compPK compR;split
 ·cases compP cc d (pjS js (frzs js e)) ps<;>rfl
 ·rfl
theorem y2f:dCompP js di cc d e=(di e).bind fun ps e1=>compPK js cc d ps e1:=rfl
theorem x76{p:W×W}:compP cc d pe (p::ps)=(match cc (.fr p.1::.fr p.2::pe)with
  |.ok true e1=>(match d e1 with|.ok y _=>(compP cc d pe ps).map (y::·)|_=>none)
  |.ok false _=>compP cc d pe ps
  |_=>none):=rfl
end
noncomputable def intsW:List W->Option (List Int)
 |[]=>some []
 |.int x::r=>(intsW r).map (x::·)
 |_=>none
theorem q7q:∀{ws:List W}{ys:List Int}{xs:List V},intsW ws=some ys->Reps K G ws xs->xs=ys.map V.int
 |[],ys,xs,h,r=>by cases h;cases(show xs=[]from r);rfl
 |w::ws,ys,xs,h,r=>by
  unfold intsW at h;split at h
  ·rename_i z;cases z
  ·rename_i y r' z;cases z;obtain⟨ys',h1,rfl⟩:=w0c.mp h;obtain⟨v,vs,rfl,p1,p2⟩:=r;cases(show v=V.int y from p1);rw[q7q h1 p2];rfl
  ·cases h
section
variable{prog:Program}{w:World}{E:Value->Shared->Prop}
structure Apart(z I O i j a b:Addr):Prop where
 Iz:I≠z
 Oz:O≠z
 iz:i≠z
 jz:j≠z
 IO:I≠O
 Ii:I≠i
 Ij:I≠j
 Oi:O≠i
 Oj:O≠j
 ij:i≠j
 az:a≠z
 aO:a≠O
 ai:a≠i
 aj:a≠j
 bz:b≠z
 bO:b≠O
 bi:b≠i
 bj:b≠j
end
theorem x61:∀ns:List Int,intsW (ns.map .int)=some ns
 |[]=>rfl
 |n::ns=>by rw[w0v];show(intsW (ns.map .int)).map (n::·)=_;rw[x61 ns];rfl
noncomputable def hide1:S->S
 |.own _ ws=>.fr (.lst ws)
 |.dic kvs=>.fr (.dic kvs)
 |.thr us ws vs=>.fr (.tup (us++.lst ws::vs))
 |.nest wss=>.fr (.lst (wss.map W.lst))
 |.x (.old w)=>.fr w
 |.x (.new w)=>.fr w
 |.x (.acc ws)=>.fr (.lst ws)
 |.x (.thro us ws vs)=>.fr (.tup (us++.lst ws::vs))
 |.x (.tn us wss)=>.fr (.tup (us++[.lst (wss.map W.lst)]))
 |.x (.pt _ _ _)=>.no
 |.dw sh ks ws=>.fr (.dw false sh ks ws)
 |s=>s
theorem NestIn.reps{G':Hp}(sg:Same G G')(hf:∀l o ys,FzAt Z G H l o ys->G' l=some (.frz o (.lst ys))):∀{ls:List Addr}{wss:List (List W)},NestIn K Z G H ls wss->Reps K G' (wss.map W.lst) (ls.map V.ref)
 |[],[],_=>rfl
 |l::ls,ws::wss,⟨⟨o,ys,h1,h4⟩,h⟩=>⟨.ref l,ls.map V.ref,rfl,⟨l,ys,rfl,.inl (.inr ⟨o,hf l o ys h1⟩),Reps.mono sg ws h4⟩,h.reps sg hf⟩
 |[],_::_,h=>h.elim
 |_::_,[],h=>h.elim
noncomputable def hideS(e:List S):List S:=e.map hide1
noncomputable def borrowT(e:List S):R Bool->R Bool
 |.ok b _=>.ok b e
 |.ex c _=>.ex c e
 |.no=>.no
noncomputable def dBorrowT(d:Den Bool):Den Bool:=fun e=>borrowT e (d (hideS e))
theorem Rel.hide(r:Rel K Z G σ H e):Rel K ⟨H,H,[]⟩ H σ H (hideS e):=by
 have g:∀(i:Nat)(s:S),(hideS e)[i]?=some s->∃s0,e[i]?=some s0/\s=hide1 s0:=fun i s h=>by
  unfold hideS at h;rw[w0f]at h;obtain⟨s0,h1,h2⟩:=w0c.mp h;exact⟨s0,h1,h2.symm⟩
 refine⟨.refl _,fun i s h=>?_,by unfold hideS;rw[w0d];exact r.len,fun i j b b' ws ws' a h1 _ _ _=>?_,fun a o h _=>h,(fun a h=>nomatch h),fun a _=>rfl⟩
 ·obtain⟨s0,h0,rfl⟩:=g i s h;have q:=r.slot i s0 h0;cases s0 with
  |no=>trivial
  |fr w=>
   obtain⟨u,q1,q2⟩:=q;exact⟨u,q1,Rep.mono r.sub w q2⟩
  |own b ws=>
   obtain⟨a,xs,q1,q2,q3,q4,q5⟩:=q;exact⟨.ref a,q1,a,xs,rfl,SqL.of q2,Reps.mono r.sub ws q5⟩
  |dic kvs=>
   obtain⟨a,q1,q2,_⟩:=q;exact⟨.ref a,q1,a,rfl,q2⟩
  |thr us ws vs=>
   obtain⟨t,l,o,xs,ys,zs,q1,q2,q3,_,_,q6,q7,q8⟩:=q;exact⟨.ref t,q1,t,_,rfl,SqT.of (r.sub _ _ q2),(Reps.mono r.sub us q6).append ⟨.ref l,zs,rfl,⟨l,ys,rfl,.inl (.inr ⟨o,q3⟩),Reps.mono r.sub ws q7⟩,Reps.mono r.sub vs q8⟩⟩
  |nest wss=>
   obtain⟨a,ls,q1,q2,_,q4⟩:=q;exact⟨.ref a,q1,a,_,rfl,SqL.of (r.sub _ _ q2),q4.reps r.sub fun l o ys z=>z.1⟩
  |x k=>
   cases k with
   |old w=>obtain⟨u,q1,_,q2⟩:=q;exact⟨u,q1,Rep.mono r.sub w q2⟩
   |new w=>obtain⟨u,q1,q2⟩:=q;exact⟨u,q1,Rep.mono r.sub w (RepN.rep w q2)⟩
   |acc ws=>obtain⟨a,o,xs,q1,q2,q3⟩:=q;exact⟨.ref a,q1,a,xs,rfl,.inl (.inr ⟨o,q2.1⟩),Reps.mono r.sub ws (RepNs.reps ws q3)⟩
   |thro us ws vs=>
    obtain⟨t,l,o,xs,ys,zs,q1,_,q2,q3,_,q6,q7,q8⟩:=q;exact⟨.ref t,q1,t,_,rfl,SqT.of (r.sub _ _ q2),(Reps.mono r.sub us q6).append ⟨.ref l,zs,rfl,⟨l,ys,rfl,.inl (.inr ⟨o,q3.1⟩),Reps.mono r.sub ws q7⟩,Reps.mono r.sub vs q8⟩⟩
   |tn us wss=>
    obtain⟨t,l,o,ls,xs,q1,q2,q3,_,q5,q6⟩:=q;exact⟨.ref t,q1,t,_,rfl,SqT.of (r.sub _ _ q2),(Reps.mono r.sub us q5).append ⟨.ref l,[],rfl,⟨l,_,rfl,.inl (.inr ⟨o,q3.1⟩),q6.reps r.sub fun l o ys z=>z.1⟩,rfl⟩⟩
   |pt _ _ _=>trivial
  |dw sh ks ws=>
   obtain⟨a,kvs,kas,q1,q2,_,_,q5,q6,q7⟩:=q;exact⟨.ref a,q1,a,kvs,kas,rfl,q2,q5,q6.mono r.sub,Reps.mono r.sub ws q7⟩
 ·obtain⟨s0,_,h2⟩:=g i _ h1;cases s0 with
  |x k=>cases k<;>cases h2
  |_=>cases h2
theorem Rel.back{G2 H2:Hp}{e2:List S}(r:Rel K Z G σ H e)(r2:Rel K ⟨H,H,[]⟩ G2 σ H2 e2):Rel K Z G σ H2 e:=by
 have hh:Same H H2:=fun a o h=>r2.ent a o h (fun z=>nomatch z)
 exact r.grow ⟨hh,.refl _,fun a o h=>hh a o (r.sub a o h),fun _ _=>rfl⟩
theorem x4l{G':Hp}(h:scalW w=true)(p:Rep K G w v):Rep K G' w v:=by
 cases w with
 |non=>exact p
 |bl b=>exact p
 |int b=>exact p
 |str b=>exact p
 |_=>cases h
section
variable{e:Expr}
theorem x94(he:∀Z',DT Z' X EE e c):DT Z X EE e (dBorrowT c):=by
 intro pins s σ H Q I hq;obtain⟨G,e0,rel,h⟩:=hq;refine he ⟨H,H,[]⟩ pins s σ H Q I ⟨H,hideS e0,rel.hide,?_⟩;unfold dBorrowT borrowT at h;cases q:c (hideS e0)with
 |ok w e2=>
  rw[q]at h;intro G2 H2 r2 s2;exact h G H2 (rel.back r2) (.refl _)
 |ex k e2=>
  rw[q]at h;intro G2 H2 r2 s2;exact h G H2 (rel.back r2) (.refl _)
 |no=>rw[q]at h;exact h.elim
end
section
variable{e':List S}{v:Value}{k:Bool}{s:S}{p:Prop} [Decidable p]
theorem x77{d:Den Bool}:dBorrowT d e=borrowT e (d (hideS e)):=rfl
theorem x78:borrowT e (.ok k e')=.ok k e:=rfl
theorem x79:borrowT e (.ex v e')=.ex v e:=rfl
theorem x58{x y:R Bool}:borrowT e (if p then x else y)=if p then borrowT e x else borrowT e y:=by split<;>rfl
theorem y2g:hideS []=[]:=rfl
theorem x95:hideS (s::e)=hide1 s::hideS e:=rfl
theorem y2h{b:Option Nat}:hide1 (.own b ws)=.fr (.lst ws):=rfl
theorem y6d:hide1 (.fr w)=.fr w:=rfl
theorem y6e:hide1 .no=.no:=rfl
end
end D
namespace L2
open PySem PySem.Spec PyProof.Rows
structure FlyA(outer:List Env)(H H':Hp)(h h':Heap)(e:Addr)(cls:Value)(B:Heap):Prop where
 stay:B.StaysIn h'
 bare:B.get? e=none
 ff:h'.FunFrames B outer
 tr:∃a0 fl,h'.TracedAtW B e cls a0 fl
 old:∀b o,h.get? b=some o->H b=none->b∉frs outer->B.get? b=some o
 trk:∀b u o,H' b=some u->h'.get? b=some o->B.get? b=some o
 all:∀b o,h.get? b=some o->b∈frs outer\/∃o',B.get? b=some o'
 new:h.get? e=none
end L2
namespace D
open PySem L2
variable{e:List S}
noncomputable def compX(c:Den Bool)(d:Den W)(pe:List S):List W->Option (Value ⊕ List W)
 |[]=>some (.inr [])
 |w::ws=>match c (.fr w::pe)with
  |.ok true e1=>match d e1 with
   |.ok y _=>(compX c d pe ws).map (Sum.map id (y::·))
   |.ex k _=>some (.inl k)
   |.no=>none
  |.ok false _=>compX c d pe ws
  |.ex k _=>some (.inl k)
  |.no=>none
noncomputable def compXR(e:List S):Option (Value ⊕ List W)->R (List W)
 |some (.inr out)=>.ok out e
 |some (.inl k)=>.ex k e
 |none=>.no
noncomputable def compKX(js:List Nat)(c:Den Bool)(d:Den W)(ws:List W)(e1:List S):R (List W):=
 if ws.length<=16777216 then compXR (frzs js e1) (compX c d (pjS js (frzs js e1)) ws)else .no
theorem y2i{js:List Nat}{cc:Den Bool}{d:Den W}{ws:List W}:compKX js cc d ws e=if ws.length<=16777216 then compXR (frzs js e) (compX cc d (pjS js (frzs js e)) ws)else .no:=rfl
theorem x96{out:List W}:compXR e (some (.inr out))=.ok out e:=rfl
theorem x97{k:Value}:compXR e (some (.inl k))=.ex k e:=rfl
section
variable{X:Cx}{Z:Zt}{EE:L2.St->XK}{elt iter a b:Expr}{ifs:List Expr}{scope sc:Scope}{pos pt:Pos}{x:Str}{Nf N:List Str}{js:List Nat}{di:Den W}{dA:Den (List W)}{c:Den Bool}{d:Den W}
theorem z0j{ws:List W}{P:List W->List S->Prop}{Ex:Value->List S->Prop}{e1:List S}(h:(compKX js c d ws e1).holds P Ex):ws.length<=16777216/\∃out,compX c d (pjS js (frzs js e1)) ws=some out/\Sum.elim (fun k=>Ex k (frzs js e1)) (fun o=>P o (frzs js e1)) out:=by
 unfold compKX at h;split at h
 ·rename_i hl;cases ho:compX c d (pjS js (frzs js e1)) ws with
  |none=>rw[ho]at h;exact h.elim
  |some out=>rw[ho]at h;exact⟨hl,out,rfl,by cases out<;>exact h⟩
 ·exact h.elim
end
end D
namespace L2
open PySem PySem.Spec PyProof.Rows
variable{A:Around}{prog:Program}{s:Shared}{E:Value->Shared->Prop}{w:World}
def Rise(t:SetTable):Prop:=t.place.toList.Pairwise (·<·)/\t.dummies=#[]
noncomputable def valI:Value->Int
 |.int n _=>n
 |_=>0
structure SetData(prog:Program)(w:World)(es:Array (Int×Value))(t:SetTable)(S:List Int):Prop where
 el:ElemsOf (intKind prog w) es.toList
 sz:es.size<scanBound
 fit:t.fits es.size=true
 rise:Rise t
 led:t.led=!w.params.followText "set-order"
 whole:∀e∈es.toList,∃n k,e.2=Value.int n k
 perm:(es.toList.map fun e=>valI e.2).Perm S
namespace SI
theorem own:Manifest.owners.lookup (String.ofList ['r','o','t','a','r','e','t','i','_','t','e','s'].reverse)=some Manifest.sig_set_iterator:=by kernel_rfl
theorem next:Slot "set_iterator" "__next__" "set_iterator.__next__":=.of (owner:="set_iterator") (n:="__next__") (by rw[typeLookup_type,builtinLookup_eq_fast];kernel_rfl) (by decide +kernel) (by decide +kernel) (by decide +kernel) (by first|exact .inl (by decide +kernel)|exact .inr (by decide +kernel)) (by rw[isSubtype_type];kernel_rfl)
theorem iter:Slot "set_iterator" "__iter__" "set_iterator.__iter__":=.of (owner:="set_iterator") (n:="__iter__") (by rw[typeLookup_type,builtinLookup_eq_fast];kernel_rfl) (by decide +kernel) (by decide +kernel) (by decide +kernel) (by first|exact .inl (by decide +kernel)|exact .inr (by decide +kernel)) (by rw[isSubtype_type];kernel_rfl)
end SI
open PySem PySem.Spec PyProof.Rows
end L2
namespace D
open PySem L2
variable{X:Cx}{dA:Den (List W)}{a e:Expr}{EE:L2.St->XK}{p pos:Pos}{Z:Zt}
def rCat0(K:PySem.W.Frag):R2:=fun x y H Q=>∃a b ys,x=.ref a/\y=.ref b/\SqT K H a []/\SqT K H b ys/\Q (.ref b) H
open PyProof.Rows in
theorem op_cat0:OpR X (binaryOp .Add) (rCat0 X.K):=by
 intro pins s σ H x y v u Q I rx ry h;obtain⟨a,b,ys,rfl,rfl,ha,hb,q⟩:=h;cases rx;cases ry;obtain⟨its,r1,p1,_⟩:=I.tuple ha;obtain⟨its2,r2,p2,_⟩:=I.tuple hb;cases r1;obtain⟨⟨cls,dd,data,sl⟩,ho,hc,n,hd⟩:=id p1;obtain⟨⟨cls2,dd2,data2,sl2⟩,ho2,hc2,n2,hd2⟩:=id p2;simp only at hc hd hc2 hd2;subst hc hd hc2 hd2;exact concat_meets ⟨_,ho,rfl⟩ ⟨_,ho2,rfl⟩ noFill_tuple_add seq_tuple_add PySem.F.slot_tuple_add PySem.F.entry_tuple_add (PySem.F.args_tuple_add_2 _ _) (tuple_addW0 a b _ _ n n2 dd dd2 sl sl2 rfl) ⟨ho,ho2,.ref b,H,I,rfl,q⟩
noncomputable def addX:W->W->Option W
 |.tup xs,.tup ys=>if xs.length+ys.length<=16777216 then some (.tup (xs++ys))else none
 |x,y=>addW x y
theorem y6f{xs ys:List W}:addX (.tup xs) (.tup ys)=if xs.length+ys.length<=16777216 then some (.tup (xs++ys))else none:=rfl
theorem y6g{i j:Int}:addX (.int i) (.int j)=some (.int (i+j)):=rfl
theorem y6h{xs ys:List W}:addX (.lst xs) (.lst ys)=if xs.length+ys.length<=16777216 then some (.lst (xs++ys))else none:=rfl
theorem y6i{x y:Str}:addX (.str x) (.str y)=if x.length+y.length<=16777216 then some (.str (x++y))else none:=rfl
theorem y6j{K:PySem.W.Frag}:Op2 K (fun x y H Q=>rCat0 K x y H Q\/(rI0 (fun i j=>.int (i+j)) x y H Q\/((∃i j,x=.str i/\y=.str j/\i.length+j.length<=sizeLine/\Q (.str (i++j)) H)\/(rCatT K x y H Q\/rCatS K x y H Q)))) addX:=by
 intro G H x y wx wy w Q s px py hf h;unfold addX at hf;split at hf
 ·rename_i xs ys;split at hf
  ·rename_i hl
   by_cases h0:xs=[]
   ·subst h0;cases hf;obtain⟨a,vs,rfl,hq,rp⟩:=px;obtain⟨b,us,rfl,hq2,rp2⟩:=py;cases(show vs=[]from rp);exact .inl ⟨a,b,us,rfl,rfl,s.tup hq,s.tup hq2,h G _ H (.refl s) ⟨b,us,rfl,hq2,rp2⟩⟩
   ·exact .inr (x9j G H x y (.tup xs) (.tup ys) w Q s px py (by show(if xs≠[]/\xs.length+ys.length<=16777216 then some (W.tup (xs++ys))else none)=some w;rw[if_pos ⟨h0,hl⟩];exact hf) h)
  ·cases hf
 ·exact .inr (x9j G H x y _ _ w Q s px py hf h)
section
variable{b:Expr}{da db:Den W}
theorem q2c(ha:DE Z X EE a da)(hb:DE Z X EE b db):DE Z X EE (.BinOp a .Add b pos) (dOp addX da db):=x0x (op_cat0.or (op_add.or (op_add_str.or (op_catT.or y45)))) y6j ha hb
end
noncomputable def minL:Int->List Int->Int
 |x,[]=>x
 |x,y::ys=>minL (if y<x then y else x) ys
theorem x1x:∀(ys:List Int)(x:Int),(minL x ys=x\/minL x ys∈ys)/\minL x ys<=x/\∀y∈ys,minL x ys<=y
 |[],x=>⟨.inl rfl,Int.le_refl _,fun y hy=>nomatch hy⟩
 |y::ys,x=>by
  obtain⟨h1,h2,h3⟩:=x1x ys (if y<x then y else x);have e:minL x (y::ys)=minL (if y<x then y else x) ys:=rfl;rw[e];refine⟨?_,?_,fun z hz=>?_⟩
  ·rcases h1 with h|h
   ·by_cases hq:y<x
    ·rw[if_pos hq]at h |-;rw[h];exact .inr (by simp)
    ·rw[if_neg hq]at h |-;exact .inl h
   ·exact .inr (by simp[h])
  ·have:(if y<x then y else x)<=x:=by split<;>omega
   omega
  ·rcases w0i.mp hz with rfl|hz
   ·have:(if z<x then z else x)<=z:=by split<;>omega
    omega
   ·exact h3 z hz
theorem q53{l:List Int}{i:Nat}(h:i<l.length):l.getD i 0=l[i]:=by
 unfold List.getD;rw[w0b h];rfl
theorem x98(hc:X.calm=true):CallR X (.builtin "min") (fun xs H Q=>∃p n ns,xs=[.ref p]/\SqL X.K H p ((n::ns).map V.int)/\Q (.int (minL n ns)) H):=by
 intro pins s σ H xs us Q I r h;obtain⟨p,n,ns,rfl,hq,q⟩:=h;obtain⟨u,rfl,rx⟩:=vals1 r;cases rx;obtain⟨its,r',pl,hz⟩:=I.list hq;have hl:=pl.isList;have hlt:p<s.heap.objs.size:=by obtain⟨_,e,_⟩:=hl;exact Heap.lt_size e
 have hh:X.A.in1.handled=none:=I.ok.hd hc;have hlen:its.length=(n::ns).length:=by have:=r'.length;rw[w0d]at this;exact this.symm
 have hval:∀(i:Nat)(v:Value),its.toArray[i]?=some v->∃t,v=Value.int ((n::ns).getD i 0) t:=fun i v hv=>by
  have hv':its[i]?=some v:=by simpa using hv
  have hi:i<(n::ns).length:=by rw[<- hlen];exact(w0a.mp hv').1
  obtain⟨u,hu,ru⟩:=r'.get (i:=i) (x:=V.int ((n::ns).getD i 0)) (by rw[w0f,w0b hi,q53 hi];rfl);rw[hv']at hu;cases hu;exact ru
 refine call_min_walk (wpAny_pyIter_list hl ⟨s.heap.objs.size,[s.heap.objs.size,p],[s.heap.objs.size],_,_,_,_,rfl,Walks.list hh s.heap.objs.size p (w0r hlt) its.toArray,⟨⟨_,Heap.get?_push_size _ rfl,rfl,rfl⟩,hl.push _⟩,fun b hb=>?_,by rw[w0e,hlen];simp,CmpOf.ints_lt (fun i=>(n::ns).getD i 0) hval,fun v h' tk hP hk=>?_⟩)
 ·show b<(s.heap.push _).objs.size;rw[Heap.size_push];rcases w0i.mp hb with e|hb
  ·rw[e];exact w1h _
  ·rw[w0m.mp hb];exact w1s hlt
 ·obtain⟨t,rfl⟩:=hval _ _ hP;obtain⟨b1,b2⟩:=argBest_lt (fun i=>(n::ns).getD i 0) (its.toArray.size-1)
  have e:(n::ns).getD (argBest (fun i j=>decide ((n::ns).getD i 0<(n::ns).getD j 0)) (its.toArray.size-1)) 0=minL n ns:=by
   obtain⟨m1,m2,m3⟩:=x1x ns n;have hsz:its.toArray.size=ns.length+1:=by rw[w0e,hlen];simp
   generalize argBest (fun i j=>decide ((n::ns).getD i 0<(n::ns).getD j 0)) (its.toArray.size-1)=k at b1 b2
   have hk:k<(n::ns).length:=by simp;omega
   have ge:minL n ns<=(n::ns).getD k 0:=by
    rw[q53 hk];rcases w0i.mp (w1r hk)with z|z
    ·rw[z];exact m2
    ·exact m3 _ z
   have le:(n::ns).getD k 0<=minL n ns:=by
    have:∃j,j<=ns.length/\(n::ns).getD j 0=minL n ns:=by
     rcases m1 with z|z
     ·exact⟨0,w1f _,by simp[z]⟩
     ·obtain⟨j,hj,ej⟩:=w1m.mp z;exact⟨j+1,by omega,by simp[List.getD,hj,ej]⟩
    obtain⟨j,hj,ej⟩:=this;have:=b2 j (by omega);rw[ej]at this;exact this
   omega
  rw[e];refine⟨.int (minL n ns),H,I.kept (t':=tk) fun b o hbo=>hk b o (fun z=>?_) (Heap.get?_push_of_some _ hbo),⟨t,rfl⟩,q⟩
  rw[w0m]at z;exact absurd (Heap.lt_size hbo) (by rw[z];exact w1j _)
noncomputable def min1:List W->Option W
 |[.lst ws]=>match intsW ws with
  |some (n::ns)=>some (.int (minL n ns))
  |_=>none
 |_=>none
theorem y6k{K:PySem.W.Frag}:OpN K (fun xs H Q=>∃p n ns,xs=[.ref p]/\SqL K H p ((n::ns).map V.int)/\Q (.int (minL n ns)) H) min1:=by
 intro G H xs ws w Q s pr hf h;unfold min1 at hf;split at hf
 ·obtain⟨x,r,rfl,px,pr⟩:=pr;cases(show r=[]from pr);split at hf
  ·rename_i n ns hns;cases hf;obtain⟨a,cs,rfl,hq,rp⟩:=px;have:=q7q hns rp;subst this;exact⟨a,n,ns,rfl,s.seq hq,h G _ H (.refl s) rfl⟩
  ·cases hf
 ·cases hf
theorem y6l(hc:X.calm=true)(hm:X.mg "min"=none)(ha:DA Z X EE [e] dA)(hg:Gl X "min":=by rfl)(he:starEach [e] X.env=(false,eval e X.env)::starEach [] X.env:=by rfl)(hpl:(backTo pos (starEach [] X.env)).any (·.1)=false:=by rfl):DE Z X EE (.Call (.Name "min" p) [e] [] pos) (dFn min1 dA):=
 q8d (x98 hc) y6k PyProof.Rows.Boot.«min» hm ha hg (by decide) (by decide) he hpl
theorem z0k{n:Int}{ns:List Int}:min1 [.lst ((n::ns).map .int)]=some (.int (minL n ns)):=by
 show(match intsW ((n::ns).map .int)with|some (n::ns)=>some (W.int (minL n ns))|_=>none)=_;rw[x61]
open PySem L2 PySem.Spec PyProof.Rows
end D
namespace Att
open PySem PySem.W PySem.Calls PyProof.Rows
end Att
namespace L2
open PySem PySem.Spec PyProof.Rows
end L2
namespace D
open PySem L2
end D
namespace L2
open PySem PySem.Spec PyProof.Rows
section
variable{κ:Type} [DecidableEq κ]
noncomputable def valV(kvs:List (κ×V))(k:κ):Option V:=(kvs.find? fun kv=>decide (kv.1=k)).map (·.2)
noncomputable def putK(kvs:List (κ×V))(k:κ)(v:V):List (κ×V):=
 if(kvs.any fun kv=>decide (kv.1=k))=true then kvs.map (fun kv=>if kv.1=k then(kv.1,v)else kv)else kvs++[(k,v)]
theorem x0b{p:κ×V}{r:List (κ×V)}{k:κ}(e:p.1=k):valV (p::r) k=some p.2:=by simp[valV,w2a,e]
theorem x0c{p:κ×V}{r:List (κ×V)}{k:κ}(e:¬p.1=k):valV (p::r) k=valV r k:=by simp[valV,w2a,e]
theorem x0d(k:κ):∀kvs:List (κ×V),(kvs.any fun kv=>decide (kv.1=k))=(valV kvs k).isSome
 |[]=>rfl
 |p::r=>by
  rw[w2f]
  by_cases e:p.1=k
  ·simp only[x0b e,decide_eq_true e,Bool.true_or,Option.isSome_some]
  ·rw[x0c e,decide_eq_false e,Bool.false_or];exact x0d k r
theorem q9k(kvs:List (κ×V))(k:κ)(v:V):(putK kvs k v).length<=kvs.length+1:=by
 unfold putK;split
 ·rw[w0d];omega
 ·rw[w0h,w0q,w1g];omega
theorem x4m{kvs:List (κ×V)}{k:κ}(v:V)(h:valV kvs k=none):putK kvs k v=kvs++[(k,v)]:=by
 unfold putK;rw[x0d,h];exact if_neg (by decide)
theorem RelO.isSome_eq{o:Option V}{u:Option Value}(r:RelO o u):o.isSome=u.isSome:=by
 cases o with
 |none=>cases u with
  |none=>rfl
  |some _=>exact(show False from r).elim
 |some _=>cases u with
  |none=>exact(show False from r).elim
  |some _=>rfl
theorem KV.val{kvs:List (κ×V)}{vs:List (κ×Value)}(r:KV kvs vs)(k:κ):RelO (valV kvs k) (valueAt vs k):=by
 unfold KV at r
 induction r with
 |nil=>exact True.intro
 | @cons p q ps qs h t ih=>
  obtain⟨h1,h2⟩:=h
  by_cases e:p.1=k
  ·have e':q.1=k:=h1.symm.trans e;have b:valueAt (q::qs) k=some q.2:=by simp[valueAt,w2a,e']
   rw[x0b e,b];exact h2
  ·have e':¬q.1=k:=fun z=>e (h1.trans z)
   have b:valueAt (q::qs) k=valueAt qs k:=by simp[valueAt,w2a,e']
   rw[x0c e,b];exact ih
theorem KV.any{kvs:List (κ×V)}{vs:List (κ×Value)}(r:KV kvs vs)(k:κ):(kvs.any fun kv=>decide (kv.1=k))=vs.any fun kv=>decide (kv.1=k):=by
 unfold KV at r
 induction r with
 |nil=>rfl
 |cons h t ih=>rw[w2f,w2f,ih,h.1]
theorem KV.repl{kvs:List (κ×V)}{vs:List (κ×Value)}(r:KV kvs vs)(k:κ){y:V}{u:Value}(ry:RelV y u):
  KV (kvs.map fun kv=>if kv.1=k then(kv.1,y)else kv) (vs.map fun kv=>if kv.1=k then(kv.1,u)else kv):=by
 unfold KV at r |-
 induction r with
 |nil=>exact .nil
 | @cons p q ps qs h t ih=>
  rw[w0v,w0v];refine .cons ?_ ih;obtain⟨h1,h2⟩:=h
  by_cases e:p.1=k
  ·rw[if_pos e,if_pos (h1.symm.trans e)];exact⟨h1,ry⟩
  ·rw[if_neg e,if_neg (fun z=>e (h1.trans z))];exact⟨h1,h2⟩
theorem KV.put{kvs:List (κ×V)}{vs:List (κ×Value)}(r:KV kvs vs)(k:κ){y:V}{u:Value}(ry:RelV y u):KV (putK kvs k y) (stored vs k u):=by
 unfold putK stored;rw[r.any k]
 by_cases e:(vs.any fun kv=>decide (kv.1=k))=true
 ·rw[if_pos e,if_pos e];exact r.repl k ry
 ·rw[if_neg e,if_neg e];exact Paired.snoc r ⟨rfl,ry⟩
theorem KV.length{kvs:List (κ×V)}{vs:List (κ×Value)}(r:KV kvs vs):kvs.length=vs.length:=Paired.length r
end
variable{a b:Addr}{A:Around}{X:Cx}{H H':Hp}{pins:List (Addr×Obj)}{xs:List (Kx×Addr×Value)}{kvs:List (Kx×V)}{kas:List Addr}{pos:Pos}{P:Program}{sh:Sh}{s:Shared}{σ:St}{v y:V}{u:Value}{E:Value->Shared->Prop}{w:World}
theorem x8a{k:Key}(r:RelV (kV k) u):(mixKind P w).is k u=true:=by
 cases k with
 |inl i=>obtain⟨t,e⟩:=(show ∃t,u=Value.int i t from r);subst e;exact x55 P w i t
 |inr x=>obtain⟨t,e⟩:=(show ∃t,u=Value.str x t from r);subst e;exact x56 P w x t
abbrev KT(sh:Sh)(H:Hp):List (Kx×V)->List (Kx×Addr×Value)->Prop:=Paired fun p q=>p.1=q.1/\(KRep H p.1 (.ref q.2.1)/\Conf p.1 sh/\p.1.depth<=7)/\RelV p.2 q.2.2
theorem KT.val(r:KT sh H kvs xs)(k:Kx):RelO (valV kvs k) ((atKey xs k).map (·.2)):=by
 induction r with
 |nil=>exact True.intro
 | @cons p q ps qs h t ih=>
  obtain⟨h1,_,h2⟩:=h
  by_cases e:p.1=k
  ·have e':q.1=k:=h1.symm.trans e;have b:atKey (q::qs) k=some q.2:=by simp[atKey,w2a,e']
   rw[x0b e,b];exact h2
  ·have e':¬q.1=k:=fun z=>e (h1.trans z)
   have b:atKey (q::qs) k=atKey qs k:=by simp[atKey,w2a,e']
   rw[x0c e,b];exact ih
theorem KT.repl(r:KT sh H kvs xs)(k:Kx)(ry:RelV y u):
  KT sh H (kvs.map fun kv=>if kv.1=k then(kv.1,y)else kv) (xs.map (putAt k u)):=by
 induction r with
 |nil=>exact .nil
 | @cons p q ps qs h t ih=>
  rw[w0v,w0v];refine .cons ?_ ih;obtain⟨h1,h2,h3⟩:=h;unfold putAt
  by_cases e:p.1=k
  ·rw[if_pos e,if_pos (h1.symm.trans e)];exact⟨h1,h2,ry⟩
  ·rw[if_neg e,if_neg (fun z=>e (h1.trans z))];exact⟨h1,h2,h3⟩
theorem KT.put(r:KT sh H kvs xs)(k:Kx)(hb:KRep H k (.ref b)/\Conf k sh/\k.depth<=7)(ry:RelV y u):
  KT sh H (putK kvs k y) (storedH xs k b u):=by
 have e:(kvs.any fun kv=>decide (kv.1=k))=(atKey xs k).isSome:=by
  rw[x0d,(r.val k).isSome_eq,w3b]
 unfold putK storedH;rw[e]
 by_cases q:(atKey xs k).isSome=true
 ·rw[if_pos q,if_pos q];exact r.repl k ry
 ·rw[if_neg q,if_neg q];exact Paired.snoc r ⟨rfl,hb,ry⟩
noncomputable def putAd(kvs:List (Kx×V))(kas:List Addr)(k:Kx)(b:Addr):List Addr:=if(valV kvs k).isSome=true then kas else kas++[b]
theorem KT.putAd(r:KT sh H kvs xs)(ka:xs.map (·.2.1)=kas)(k:Kx):(storedH xs k b u).map (·.2.1)=L2.putAd kvs kas k b:=by
 unfold storedH L2.putAd;rw[(r.val k).isSome_eq,w3b]
 by_cases q:(atKey xs k).isSome=true
 ·rw[if_pos q,if_pos q,w2j,<- ka];refine w3t fun x _=>?_
  show(putAt k u x).2.1=x.2.1;unfold putAt;split<;>rfl
 ·rw[if_neg q,if_neg q,w0n,ka];rfl
theorem KT.keeps(r:KT sh H kvs xs)(ht:∀b u,TupLike u->H b=some u->H' b=some u):KT sh H' kvs xs:=
 Paired.mapP r fun _ _ z=>⟨z.1,⟨KRep.keeps ht _ z.2.1.1,z.2.1.2⟩,z.2.2⟩
section
variable{h:Heap}
theorem y39{u:HO}(ok:HOk P w H h)(e:Rd H a u):ObjOk P w H h a u:=e.ok ok
theorem x3s{kvs:List (Key×V)}(ok:HOk P w H h)(e:Rd H a (.dK kvs)):kvs.length<=sizeLine/\(a==sysModules)=false/\∃vs,KV kvs vs/\h.DictOf (mixKind P w) a vs:=
 show ObjOk P w H h a (.dK kvs)from y39 ok e
theorem z28{kvs:List (Key×V)}(ok:HOk P w H h)(e:H a=some (.dK kvs)):kvs.length<=sizeLine/\(a==sysModules)=false/\∃vs,KV kvs vs/\h.DictOf (mixKind P w) a vs:=x3s ok (.inl e)
theorem IsTup.seq{h:Heap}{its:List Value}(p:IsTup h a its.toArray):∃o n,h.get? a=some o/\o.cls=.type "tuple" /\ o.data=.seq its.toArray n:=by
 obtain⟨o,h1,h2,n,h3⟩:=p;exact⟨o,n,h1,h2,h3⟩
mutual
theorem KRep.is(ok:HOk P w H h):∀(k:Kx){x:V}{v:Value},KRep H k x->RelV x v->KIs h k v
 |.non,x,v,e,r=>by cases(show x=.non from e);exact r
 |.bl b,x,v,e,r=>by cases(show x=.bl b from e);exact r
 |.int b,x,v,e,r=>by cases(show x=.int b from e);exact r
 |.str b,x,v,e,r=>by cases(show x=.str b from e);exact r
 |.tup ks,x,v,e,r=>by
  obtain⟨a,xs,rfl,q,rs⟩:=e;cases(show v=Value.ref a from r);obtain⟨_,its,rv,p,_⟩:=(show ObjOk P w H h a (.tup xs)from Rd.ok q ok);obtain⟨o,n,h1,h2,h3⟩:=IsTup.seq p;exact⟨a,o,its.toArray,n,rfl,h1,h2,h3,by simpa using KReps.are ok ks rs rv⟩
theorem KReps.are(ok:HOk P w H h):∀(ks:List Kx){xs:List V}{vs:List Value},KReps H ks xs->Vals xs vs->KAre h ks vs
 |[],xs,vs,e,r=>by
  cases(show xs=[]from e);cases r;rfl
 |k::ks,xs,vs,e,r=>by
  obtain⟨x,r0,rfl,h1,h2⟩:=e;cases r with
  |cons q t=>exact⟨_,_,rfl,KRep.is ok k h1 q,KReps.are ok ks h2 t⟩
end
theorem x05{k:Kx}(ok:HOk P w H h)(e:KRep H k (.ref a)/\Conf k sh/\k.depth<=7):(treeKind P w sh).is h k a:=⟨KRep.is ok k e.1 rfl,e.2⟩
theorem x3t(ok:HOk P w H h)(e:Rd H a (.dT sh kvs kas)):kvs.length<=sizeLine/\(a==sysModules)=false /\
  ∃xs,KT sh H kvs xs/\xs.map (·.2.1)=kas/\h.DictOfH (treeKind P w sh) a xs:=by
 obtain⟨z,y,xs,r,ka,o,es,ep,h1,h2,h3,h4,h5⟩:=(show ObjOk P w H h a (.dT sh kvs kas)from y39 ok e);refine⟨z,y,xs,r,ka,o,es,ep,h1,h2,h3,h4,fun x hx=>?_,h5⟩
 have all:∀{l:List (Kx×V)}{m:List (Kx×Addr×Value)},KT sh H l m->∀x∈m,(treeKind P w sh).is h x.1 x.2.1:=by
  intro l m q
  induction q with
  |nil=>intro x hx;exact nomatch hx
  | @cons p q ps qs hq t ih=>
   intro x hx;rcases w0i.mp hx with e|hx
   ·subst e;exact x05 ok (by rw[<- hq.1];exact hq.2.1)
   ·exact ih x hx
 exact all r x hx
theorem z29(ok:HOk P w H h)(e:H a=some (.dT sh kvs kas)):kvs.length<=sizeLine/\(a==sysModules)=false /\
  ∃xs,KT sh H kvs xs/\xs.map (·.2.1)=kas/\h.DictOfH (treeKind P w sh) a xs:=x3t ok (.inl e)
end
def DGet(H:Hp)(a:Addr)(y:V)(r:Option V):Prop:=
 (∃kvs k,Rd H a (.dK kvs)/\y=kV k/\r=valV kvs k)\/∃sh kvs kas k b,Rd H a (.dT sh kvs kas)/\y=.ref b/\(KRep H k (.ref b)/\Conf k sh/\k.depth<=7)/\r=valV kvs k
def DPut(H:Hp)(a:Addr)(y v:V)(H':Hp):Prop:=
 (∃kvs k,H a=some (.dK kvs)/\y=kV k/\kvs.length<sizeLine/\H'=upd H a (.dK (putK kvs k v))) \/
 ∃sh kvs kas k b,H a=some (.dT sh kvs kas)/\y=.ref b/\(KRep H k (.ref b)/\Conf k sh/\k.depth<=7)/\kvs.length<sizeLine/\H'=upd H a (.dT sh (putK kvs k v) (putAd kvs kas k b))
theorem DGet.t{k:Kx}(e:Rd H a (.dT sh kvs kas))(eb:KRep H k (.ref b)/\Conf k sh/\k.depth<=7):DGet H a (.ref b) (valV kvs k):=.inr ⟨sh,kvs,kas,k,b,e,rfl,eb,rfl⟩
theorem DPut.k{kvs:List (Key×V)}{k:Key}(e:H a=some (.dK kvs))(hl:kvs.length<sizeLine):DPut H a (kV k) v (upd H a (.dK (putK kvs k v))):=.inl ⟨kvs,k,e,rfl,hl,rfl⟩
theorem DPut.t{k:Kx}{v:V}(e:H a=some (.dT sh kvs kas))(eb:KRep H k (.ref b)/\Conf k sh/\k.depth<=7)(hl:kvs.length<sizeLine):
  DPut H a (.ref b) v (upd H a (.dT sh (putK kvs k v) (putAd kvs kas k b))):=.inr ⟨sh,kvs,kas,k,b,e,rfl,eb,hl,rfl⟩
section
variable{r:Value}{o:Option V}
theorem Inv.big(I:Inv X pins σ H s):sysModules<s.heap.objs.size:=by
 have h:mainGlobals<s.heap.objs.size:=(I.mod.glob.keeps I.bk).lt;exact Nat.lt_trans (by decide) h
theorem x0e(hu:A.units+20<cLine):(treeKind P w sh).room A.in1:=by
 show A.in1.units+8<cLine;rw[Around.in1_units];omega
theorem x99{Q:Value->Shared->Prop}(hu:A.units+20<cLine)(I:Inv X pins σ H s)(g:DGet H a y (some v))(ry:RelV y u)(h:∀w' s',Inv X pins σ H s'->RelV v w'->Q w' s'):
  wpAny (model X.prog X.w) A (getItem (.ref a) u) Q E s:=by
 rcases g with⟨kvs,k,e,ey,l⟩|⟨sh,kvs,kas,k,b,e,ey,eb,l⟩
 ·subst ey;obtain⟨z,hd,vs,rel,dd⟩:=x3s I.hok e;obtain⟨w',hw,rw'⟩:=RelO.some_of (v:=v) (o:=valueAt vs k) (by rw[l];exact rel.val k);exact wpAny_getItem_of (x8a ry) dd.mapOf hw (h w' _ (I.tok _) rw')
 ·subst ey;cases(show u=Value.ref b from ry);obtain⟨z,hd,xs,rel,_,dd⟩:=x3t I.hok e;obtain⟨w',hw,rw'⟩:=RelO.some_of (v:=v) (o:=(atKey xs k).map (·.2)) (by rw[l];exact rel.val k);obtain⟨p,hp,hp2⟩:=w0c.mp hw;refine wpAny_getItem_heap (x0e hu) (x05 I.hok eb) dd hp ?_;rw[hp2];exact h w' _ (I.tok _) rw'
theorem y6m{Q:Value->Shared->Prop}(hu:A.units+20<cLine)(I:Inv X pins σ H s)(g:DGet H a y o)(ry:RelV y u)(h:∀s',Inv X pins σ H s'->Q (.bool (!o.isSome)) s'):
  wpAny (model X.prog X.w) A (compareOp .NotIn u (.ref a)) Q E s:=by
 rcases g with⟨kvs,k,e,ey,l⟩|⟨sh,kvs,kas,k,b,e,ey,eb,l⟩
 ·subst ey;obtain⟨z,hd,vs,rel,dd⟩:=x3s I.hok e;refine wpAny_notIn_of (x8a ry) hd dd.mapOf ?_;rw[<- (rel.val k).isSome_eq,<- l];exact h _ (I.tok _)
 ·subst ey;cases(show u=Value.ref b from ry);obtain⟨z,hd,xs,rel,_,dd⟩:=x3t I.hok e;refine wpAny_notIn_heap (x0e hu) (x05 I.hok eb) hd dd ?_;have q:=(rel.val k).isSome_eq;rw[w3b]at q;rw[<- q,<- l];exact h _ (I.tok _)
theorem x62{h':Heap}{t':Nat}{ob:HO}(I:Inv X pins σ H s)(mu:Mut (H a))(hs:Heap.SameBut a s.heap h')(he:∃q,h'.get? a=some q)(new:ObjOk X.prog X.w (upd H a ob) h' a ob):
  Inv X pins σ (upd H a ob) {s with heap:=h',toks:=t'}:=
 I.write (x:=a) (e:=a) mu (.inl rfl) (fun b q hb z=>(hs.2 b hb).trans z) he new
theorem z0l{h':Heap}{kvs:List (Key×V)}{vs:List (Key×Value)}(z:kvs.length<=sizeLine)(hd:(a==sysModules)=false)(rel:KV kvs vs)(dd:h'.DictOf (mixKind P w) a vs):
  ObjOk P w H' h' a (.dK kvs):=⟨z,hd,vs,rel,dd⟩
theorem y0a{Q:Unit->Shared->Prop}(hu:A.units+20<cLine)(I:Inv X pins σ H s)(g:DPut H a y v H')(ry:RelV y u)(rv:RelV v r)(h:∀s',Inv X pins σ H' s'->Q () s'):
  wpAny (model X.prog X.w) A (setItem (.ref a) u r) Q E s:=by
 rcases g with⟨kvs,k,e,ey,l,eH⟩|⟨sh,kvs,kas,k,b,e,ey,eb,l,eH⟩
 ·subst ey eH;obtain⟨z,hd,vs,rel,dd⟩:=z28 I.hok e;have hz:vs.length<=sizeLine:=by rw[<- rel.length];exact z
  have hl:(putK kvs k v).length<=sizeLine:=by have:=q9k kvs k v;omega
  refine wpAny_setItem_pairs (hsz:=hz) (x8a ry) dd fun h' dd' hs=>h _ ?_
  have he:∃q,h'.get? a=some q:=let ⟨q,_,_,hq,_⟩:=dd';⟨q,hq⟩;exact x62 I (by rw[e];exact True.intro) hs he (z0l hl hd (rel.put k rv) dd')
 ·subst ey eH;cases(show u=Value.ref b from ry);obtain⟨z,hd,xs,rel,ka,dd⟩:=z29 I.hok e;have hz:xs.length<=sizeLine:=by rw[<- Paired.length rel];exact z
  have hl:(putK kvs k v).length<=sizeLine:=by have:=q9k kvs k v;omega
  refine wpAny_setItem_heap (hsz:=hz) (x0e hu) (x05 I.hok eb) dd fun h' dd' hs=>h _ ?_
  obtain⟨q,es,ep,hq,h2,h3,h4,_,h5⟩:=dd';refine x62 I (by rw[e];exact True.intro) hs ⟨q,hq⟩ ⟨hl,hd,_,(rel.put k eb rv).keeps fun c u ys ec=>?_,rel.putAd ka k,q,es,ep,hq,h2,h3,h4,h5⟩
  rw[q0d (q06 ec e (fun z=>by subst z;exact ys))]
  exact ec
end
def NoSl(i:Expr):Prop:=∀ov iv,subscripted i false ov iv=operate [ov,iv] (getItem ov iv)
theorem y6n{prog:Program}{env:Env}{value slice:Expr}{T id:String}{Q:Value->Shared->Prop}
  (hl:typeLookup (.type T) "__getitem__"=pure (some (.builtin id)))(hs:NoSl slice)
  (h:wpAny (model prog w) A (eval value env) (fun o s₁=>wpAny (model prog w) A (eval slice env) (fun i s₂=>s₂.TypeIs o T/\wpAny (model prog w) A (getItem o i) Q E s₂) E s₁) E s):
  wpAny (model prog w) A (eval (.Subscript value slice pos) env) Q E s:=by
 refine Subscript_ (wpAny_mono h (fun o s₁ h₁=>wpAny_mono h₁ (fun i s₂ h₂=>?_) fun _ _ x=>x) fun _ _ x=>x)
 obtain⟨hT,h₂⟩:=h₂;unfold subscriptTail;refine wpAny_bind ?_;rw[getitemInPython_of_ne hT.not_modules];refine wpAny_bind (wpAny_specialOf hT hl ?_)
 have fin:wpAny (model prog w) A (subscripted slice false o i) (fun r s₃=>wpAny (model prog w) A (letTemporaryGo value o r >>= fun _=>pure r) Q E s₃) E s₂:=by
  rw[hs o i];exact wpAny_operating (wpAny_mono h₂ (fun r s₃ h₃=>wpAny_bind (wpAny_letTemporaryGo (wpAny_pure h₃))) fun _ _ x=>x)
 first
  |exact wpAny_pure (wpAny_bind fin)
  |exact wpAny_bind (wpAny_pure (wpAny_bind fin))
  |exact wpAny_bind fin
theorem x59{o:Option V}(I:Inv X pins σ H s)(g:DGet H a y o):s.TypeIs (.ref a) "dict":=by
 rcases g with⟨kvs,k,e,_,_⟩|⟨sh,kvs,kas,k,b,e,_,_,_⟩
 ·obtain⟨_,_,vs,_,dd⟩:=x3s I.hok e;exact dd.typeIs
 ·obtain⟨_,_,xs,_,_,dd⟩:=x3t I.hok e;exact dd.typeIs
def tDGet(td ty:TE):TE:=fun σ H Q=>td σ H fun x H1=>ty σ H1 fun y H2=>∃a v,x=.ref a/\DGet H2 a y (some v)/\Q v H2
def tDNotIn(ty td:TE):TE:=fun σ H Q=>ty σ H fun y H1=>td σ H1 fun x H2=>∃a o,x=.ref a/\DGet H2 a y o/\Q (.bl (!o.isSome)) H2
def sDPut(td ty tv:TE):TS:=fun D σ H=>tv σ H fun v H1=>td σ H1 fun x H2=>ty σ H2 fun y H3=>∃a H4,x=.ref a/\DPut H3 a y v H4/\D.nx σ H4
section
variable{o i e value:Expr}{pos' tpos:Pos}{td ty tv:TE}
theorem x63(hu:X.A.units+20<cLine)(ho:PE X o td)(hi:PE X i ty)(hs:NoSl i):PE X (.Subscript o i pos) (tDGet td ty):=by
 intro pins s σ H Q I h;refine y6n PySem.F.slot_dict_getitem.lookup hs (thn (ho pins s σ H _ I h) fun u s1 ⟨x,H1,I1,rx,q1⟩=>thn (hi pins s1 σ H1 _ I1 q1) fun iv s2 ⟨y,H2,I2,ry,a,v,ex,g,q2⟩=>?_)
 subst ex;obtain rfl:u=Value.ref a:=rx;exact⟨x59 I2 g,x99 hu I2 g ry fun w' s3 I3 rw'=>⟨v,H2,I3,rw',q2⟩⟩
theorem x20(hu:X.A.units+20<cLine)(hi:PE X i ty)(ho:PE X o td):PC X .NotIn i o (tDNotIn ty td):=by
 intro pins s σ H Q I h;refine thn (hi pins s σ H _ I h) fun iv s1 ⟨y,H1,I1,ry,q1⟩=>thn (ho pins s1 σ H1 _ I1 q1) fun u s2 ⟨x,H2,I2,rx,a,ov,ex,g,q2⟩=>?_
 subst ex;obtain rfl:u=Value.ref a:=rx;exact y6m hu I2 g ry fun s3 I3=>⟨.bl (!ov.isSome),H2,I3,rfl,q2⟩
theorem x1y(hu:X.A.units+20<cLine)(ho:PE X o td)(hi:PE X i ty)(hv:PE X value tv)(hs:swapsWith value (some (.Subscript o i pos')) pos.line X.env=pure false):
  PS X (.Assign [.Subscript o i pos'] value pos) (sDPut td ty tv):=by
 intro pins s σ H D I h;refine wpAny_Assign_Subscript (thn (hv pins s σ H _ I h) fun r s1 ⟨v,H1,I1,rv,q1⟩=>thn (ho pins s1 σ H1 _ I1 q1) fun u s2 ⟨x,H2,I2,rx,q2⟩=>thn (hi pins s2 σ H2 _ I2 q2) fun iv s3 ⟨y,H3,I3,ry,a,H4,ex,g,q3⟩=>?_) hs
 subst ex;obtain rfl:u=Value.ref a:=rx;exact y0a hu I3 g ry rv fun s4 I4=>⟨σ,H4,I4,q3⟩
end
theorem y2j(h:Heap)(hb:sysModules<h.objs.size):ObjOk P w H (h.push {cls:=.type "dict", data:=.dict #[]}) h.objs.size (.dK []):=
 ⟨w1f _,beq_eq_false_iff_ne.mpr (Ne.symm (w0r hb)),[],.nil,Heap.DictOf.new h⟩
theorem y2k(h:Heap)(hb:sysModules<h.objs.size):ObjOk P w H (h.push {cls:=.type "dict", data:=.dict #[]}) h.objs.size (.dT sh [] []):=
 ⟨w1f _,beq_eq_false_iff_ne.mpr (Ne.symm (w0r hb)),[],.nil,rfl,_,#[],0,Heap.get?_push_size _ rfl,⟨rfl,rfl,rfl⟩,rfl,rfl,List.nodup_nil⟩
def tDNewK:TE:=fun _ H Q=>∀p,H p=none->Q (.ref p) (upd H p (.dK []))
def tDNewT(sh:Sh):TE:=fun _ H Q=>∀p,H p=none->Q (.ref p) (upd H p (.dT sh [] []))
theorem y2l:PE X (.Dict [] [] pos) tDNewK:=fun pins s σ H Q I h=>
 wpAny_Dict_empty ⟨.ref s.heap.objs.size,_,I.laid (a:=s.heap.objs.size) (o:=.dK []) (t':=s.toks) (fun _ _ q=>Heap.get?_push_of_some _ q) (w0g _) (y2j s.heap I.big),rfl,h _ (I.hok.fresh (w0g _))⟩
theorem x4n{sh:Sh}:PE X (.Dict [] [] pos) (tDNewT sh):=fun pins s σ H Q I h=>
 wpAny_Dict_empty ⟨.ref s.heap.objs.size,_,I.laid (a:=s.heap.objs.size) (o:=.dT sh [] []) (t':=s.toks) (fun _ _ q=>Heap.get?_push_of_some _ q) (w0g _) (y2k s.heap I.big),rfl,h _ (I.hok.fresh (w0g _))⟩
end L2
namespace D
open PySem L2 PySem.Spec PyProof.Rows
open PyProof.Rows (envOfC)
section
variable{P:Program}{w:World}{K:PySem.W.Frag}{mg:Str->Option Value}{base:Heap}
theorem conZ{x:Str}{st:Stmt}{N ps:List Str}{k:Nat}{F:List W->FR}(A:At K mg x st ps)(sc:FnScope N ps (defScope st))(len:∀ws,F ws≠.no->ws.length=ps.length)
  (hb:∀ws,F ws≠.no->∀(f:Addr)(cdv:Value)(A:Around)(outer:List Env)(s:Shared)(H:Hp)(E:XK)(Z:Zt),Room k (A.deeper (envOfC x (defScope st) s.heap.objs.size f cdv))->(Z.H=H/\Z.io=[]) ->
   ∃d,DSs Z (cxOf (CX1 P w) P w K mg base N x (defScope st) f cdv A outer s H E) (fun _=>E) (defBody st) d/\(d (init N.length ws)).fn=F ws):Cal P w K mg base (k+1) x ps (spF K F):=by
 refine A.cal sc (fun vs H Q E h=>?_) (fun f cdv A outer s H vs Q E hr h=>?_)
 ·obtain⟨G,ws,hn,r⟩:=q8h h;rw[r.length];exact len ws hn
 ·obtain⟨G,ws,sg,rp,h⟩:=h;have hn:F ws≠.no:=fun z=>by rw[z]at h;exact h
  obtain⟨d,hd,he⟩:=hb ws hn f cdv A outer s H E ⟨H,G,[]⟩ hr ⟨rfl,rfl⟩;exact⟨_,hd,G,init N.length ws,q6a sg rp,q87 he h⟩
theorem conFZ{x:Str}{st:Stmt}{N ps:List Str}{k:Nat}{F:List W->FR}{f:Addr}{fd:FuncData}(A:Fun K x x st f fd)(sc:FnScope N ps (defScope st))(len:∀ws,F ws≠.no->ws.length=ps.length)
  (hb:∀ws,F ws≠.no->∀(cdv:Value)(A:Around)(outer:List Env)(s:Shared)(H:Hp)(E:XK)(Z:Zt),Room k (A.deeper (PyProof.Rows.envOfC x (defScope st) s.heap.objs.size f cdv))->(Z.H=H/\Z.io=[]) ->
   ∃d,DSs Z (cxOf (CX1 P w) P w K mg base N x (defScope st) f cdv A outer s H E) (fun _=>E) (defBody st) d/\(d (init N.length ws)).fn=F ws):FnOk P w K mg base (CX1 P w) (k+1) f fd ps (spF K F):=by
 refine A.okX sc (fun vs H Q E h=>?_) (fun cdv A outer s H vs Q E hr h=>?_)
 ·obtain⟨G,ws,hn,r⟩:=q8h h;rw[r.length];exact len ws hn
 ·obtain⟨G,ws,sg,rp,h⟩:=h;have hn:F ws≠.no:=fun z=>by rw[z]at h;exact h
  obtain⟨d,hd,he⟩:=hb ws hn cdv A outer s H E ⟨H,G,[]⟩ hr ⟨rfl,rfl⟩;exact⟨_,hd,G,init N.length ws,q6a sg rp,q87 he h⟩
end
section
variable{X:Cx}{Z:Zt}{EE:L2.St->XK}{a b c e:Expr}{es:List Expr}{da db d:Den W}{dF dA:Den (List W)}{x:Str}{pos p tpos:Pos}
noncomputable def isT:S->Bool
 |.thr _ _ _=>true
 |.nest _=>true
 |.x (.acc _)=>true
 |.x (.thro _ _ _)=>true
 |.x (.tn _ _)=>true
 |.x (.pt _ _ _)=>true
 |_=>false
end
variable{X:Cx}{e:Expr}{EE:L2.St->XK}{Z:Zt}
mutual
noncomputable def flatW:W->Bool
 |.non=>true
 |.bl _=>true
 |.int _=>true
 |.str _=>true
 |.tup ws=>flatWs ws
 |_=>false
noncomputable def flatWs:List W->Bool
 |[]=>true
 |w::ws=>flatW w&&flatWs ws
end
mutual
theorem x4o{K:PySem.W.Frag}{G G':Hp}(hG:∀a xs,SqT K G a xs->SqT K G' a xs):∀(w:W){v:V},flatW w=true->Rep K G w v->Rep K G' w v
 |.non,_,_,p=>p
 |.bl _,_,_,p=>p
 |.int _,_,_,p=>p
 |.str _,_,_,p=>p
 |.tup ws,_,h,⟨a,xs,e,q,r⟩=>⟨a,xs,e,hG _ _ q,q4d hG ws h r⟩
 |.lst _,_,h,_=>by cases h
 |.exc _,_,h,_=>by cases h
 |.dic _,_,h,_=>by cases h
 |.dw _ _ _ _,_,h,_=>by cases h
 |.fn _ _ _,_,h,_=>by cases h
theorem q4d{K:PySem.W.Frag}{G G':Hp}(hG:∀a xs,SqT K G a xs->SqT K G' a xs):∀(ws:List W){vs:List V},flatWs ws=true->Reps K G ws vs->Reps K G' ws vs
 |[],_,_,p=>p
 |w::ws,_,h,⟨x,r,e,p,q⟩=>by
  have h:(flatW w&&flatWs ws)=true:=h;rw[w0t]at h;exact⟨x,r,e,x4o hG w h.1 p,q4d hG ws h.2 q⟩
end
noncomputable def keepT:HO->Bool
 |.tup _=>true
 |.frz _ (.tup _)=>true
 |_=>false
noncomputable def withT0(G G2:Hp):Hp:=fun a=>match G a with
 |some o=>some o
 |none=>match G2 a with
  |some o=>if keepT o=true then some o else none
  |none=>none
section
variable{e e':List S}{ws us vs:List W}{v:Value}
theorem y0b{wss:List (List W)}:hide1 (.nest wss)=.fr (.lst (wss.map W.lst)):=rfl
theorem y2m:hide1 (.thr us ws vs)=.fr (.tup (us++.lst ws::vs)):=rfl
end
end D
namespace L2
open PySem PySem.Spec PyProof.Rows
end L2
namespace D
open PySem L2 PySem.Spec PyProof.Rows
end D
namespace L2
open PySem PySem.Spec PyProof.Rows
end L2
namespace D
open PySem L2 PySem.Spec PyProof.Rows
open Classical
variable{a:Addr}{X:Cx}{G:Hp}{EE:L2.St->XK}{e:List S}{pos:Pos}{K:PySem.W.Frag}{x:Str}{w:W}{Z:Zt}
mutual
noncomputable def kxW:W->Option Kx
 |.non=>some .non
 |.bl b=>some (.bl b)
 |.int i=>some (.int i)
 |.str x=>some (.str x)
 |.tup ws=>(kxWs ws).map .tup
 |_=>none
noncomputable def kxWs:List W->Option (List Kx)
 |[]=>some []
 |w::ws=>match kxW w,kxWs ws with
  |some k,some ks=>some (k::ks)
  |_,_=>none
end
def NoTup(K:PySem.W.Frag):Prop:=∀a o,K.lookup a=some o->o.cls≠.type "tuple"
theorem SqT.rd{xs:List V}(hK:NoTup K)(q:SqT K G a xs):Rd G a (.tup xs):=by
 rcases q with q|⟨o,its,n,h1,h2,_⟩
 ·exact q
 ·exact absurd h2 (hK a o h1)
mutual
theorem y0c{K:PySem.W.Frag}{G H:Hp}(hK:NoTup K)(s:Same G H):∀(w:W){k:Kx}{v:V},kxW w=some k->Rep K G w v->KRep H k v
 |.bl b,k,v,e,r=>by cases e;exact r
 |.int b,k,v,e,r=>by cases e;exact r
 |.str b,k,v,e,r=>by cases e;exact r
 |.tup ws,k,v,e,r=>by
  have e:(kxWs ws).map Kx.tup=some k:=e;obtain⟨ks,h1,rfl⟩:=w0c.mp e;obtain⟨a,xs,rfl,q,rs⟩:=r;refine⟨a,xs,rfl,?_,x64 hK s ws h1 rs⟩;rcases SqT.rd hK q with z|⟨o,z⟩
  ·exact .inl (s _ _ z)
  ·exact .inr ⟨o,s _ _ z⟩
 |.non,k,v,e,r=>by cases e;exact r
 |.lst _,k,v,e,r=>by cases e
 |.exc _,k,v,e,r=>by cases e
 |.dic _,k,v,e,r=>by cases e
 |.dw _ _ _ _,k,v,e,r=>by cases e
 |.fn _ _ _,k,v,e,r=>by cases e
theorem x64{K:PySem.W.Frag}{G H:Hp}(hK:NoTup K)(s:Same G H):∀(ws:List W){ks:List Kx}{vs:List V},kxWs ws=some ks->Reps K G ws vs->KReps H ks vs
 |[],ks,vs,e,r=>by cases e;exact r
 |w::ws,ks,vs,e,r=>by
  have e:(match kxW w,kxWs ws with|some k,some ks=>some (k::ks)|_,_=>none)=some ks:=e;split at e
  ·rename_i k0 ks0 h1 h2;cases e;obtain⟨x,xs,rfl,r1,r2⟩:=r;exact⟨x,xs,rfl,y0c hK s w h1 r1,x64 hK s ws h2 r2⟩
  ·cases e
end
noncomputable def keyT:W->Option Kx
 |.tup ws=>(kxWs ws).map .tup
 |_=>none
theorem x4p{H:Hp}(hK:NoTup K)(s:Same G H){k:Kx}{v:V}(e:keyT w=some k)(r:Rep K G w v):∃b,v=.ref b/\KRep H k (.ref b):=by
 cases w with
 |tup ws=>
  have z:=y0c hK s (.tup ws) e r;obtain⟨a,xs,rfl,q,rs⟩:=r;exact⟨a,rfl,z⟩
 |_=>cases e
def fits(k:Kx)(sh:Sh):Prop:=Conf k sh/\k.depth<=7
noncomputable def lkW:List Kx->List W->Kx->Option W
 |k::ks,w::ws,x=>if k=x then some w else lkW ks ws x
 |_,_,_=>none
noncomputable def inT(w d:W):Option W:=match keyT w,d with
 |some k,.dw _ sh ks ws=>if fits k sh then some (.bl (lkW ks ws k).isSome)else none
 |_,_=>none
section
variable{a b e k o:Expr}{es:List Expr}{da db d dk:Den W}{dA:Den (List W)}{p tpos:Pos}{body:List Stmt}{s1:List S->SR}
theorem Rel.setS{H:Hp}{σ:L2.St}{e:List S}(r:Rel K Z G σ H e){i:Nat}{s:S}{v:V}(hs:∀b ws,s≠.own b ws)(q:SlotOk K Z G H s (some v)):Rel K Z G (σ.set i (some v)) H (e.set i s):=by
 refine⟨r.sub,fun j t z=>?_,by simpa using r.len,fun j k b1 b2 w1 w2 c z1 z2 z3 z4=>?_,r.ent,r.ion,r.gen⟩
 ·by_cases hj:j=i
  ·subst hj
   have hi:j<e.length:=by
    have:=(w0a.mp z).1;simpa using this
   rw[w0l hi]at z;cases z;rw[w0l (by rw[<- r.len];exact hi)];exact q
  ·rw[w0j (fun z=>hj z.symm)]at z |-
   exact r.slot j t z
 ·have old:∀(k:Nat)(bb:Option Nat)(ww:List W),(e.set i s)[k]?=some (.own bb ww)->k≠i/\e[k]?=some (.own bb ww):=fun k bb ww z=>by
   by_cases hk:k=i
   ·subst hk
    have hi:k<e.length:=by
     have:=(w0a.mp z).1;simpa using this
    rw[w0l hi]at z;cases z;exact absurd rfl (hs _ _)
   ·rw[w0j (fun z=>hk z.symm)]at z;exact⟨hk,z⟩
  obtain⟨n1,q1⟩:=old _ _ _ z1;obtain⟨n2,q2⟩:=old _ _ _ z2;rw[w0j (fun z=>n1 z.symm)]at z3
  rw[w0j (fun z=>n2 z.symm)]at z4
  exact r.dis _ _ _ _ _ _ _ q1 q2 z3 z4
end
noncomputable def maxL:Int->List Int->Int
 |x,[]=>x
 |x,y::ys=>maxL (if x<y then y else x) ys
theorem x65:∀(ys:List Int)(x:Int),(maxL x ys=x\/maxL x ys∈ys)/\x<=maxL x ys/\∀y∈ys,y<=maxL x ys
 |[],x=>⟨.inl rfl,Int.le_refl _,fun y hy=>nomatch hy⟩
 |y::ys,x=>by
  obtain⟨h1,h2,h3⟩:=x65 ys (if x<y then y else x);have e:maxL x (y::ys)=maxL (if x<y then y else x) ys:=rfl;rw[e];refine⟨?_,?_,fun z hz=>?_⟩
  ·rcases h1 with h|h
   ·by_cases hq:x<y
    ·rw[if_pos hq]at h |-;rw[h];exact .inr (by simp)
    ·rw[if_neg hq]at h |-;exact .inl h
   ·exact .inr (by simp[h])
  ·have:x<=(if x<y then y else x):=by split<;>omega
   omega
  ·rcases w0i.mp hz with rfl|hz
   ·have:z<=(if x<z then z else x):=by split<;>omega
    omega
   ·exact h3 z hz
section
variable{kw dflt:W}{sh:Sh}{ks:List Kx}{ws:List W}{i:Nat}{x:Kx}{fz:Bool}
theorem y6o:hide1 (.dw sh ks ws)=.fr (.dw false sh ks ws):=rfl
end
noncomputable def tupAt(K:PySem.W.Frag)(a:Addr):Bool:=match K.lookup a with
 |some o=>(match o.cls with
  |.type n=>n=="tuple"
  |_=>false)
 |none=>false
noncomputable def dropT(K:PySem.W.Frag):PySem.W.Frag:=K.filter fun p=>!tupAt K p.1
theorem q5m{q:Addr->Bool}:∀{K:PySem.W.Frag}{o:Obj},(K.filter fun p=>q p.1).lookup a=some o->K.lookup a=some o/\q a=true
 |[],_,h=>by cases h
 |(b,u)::K,o,h=>by
  by_cases hq:q b=true
  ·rw[w2n (p:=fun p:Addr×Obj=>q p.1) (a:=(b,u)) hq]at h
   by_cases e:a=b
   ·subst e;rw[show List.lookup a ((a,u)::(K.filter fun p=>q p.1))=some u by simp[List.lookup]]at h
    refine⟨?_,hq⟩;rw[<- h];simp[List.lookup]
   ·rw[show List.lookup a ((b,u)::(K.filter fun p=>q p.1))=List.lookup a (K.filter fun p=>q p.1) by simp only[List.lookup];rw[beq_eq_false_iff_ne.mpr e]]at h
    obtain⟨h1,h2⟩:=q5m h;refine⟨?_,h2⟩;rw[<- h1];simp only[List.lookup];rw[beq_eq_false_iff_ne.mpr e]
  ·rw[w3e (p:=fun p:Addr×Obj=>q p.1) (a:=(b,u)) hq]at h
   obtain⟨h1,h2⟩:=q5m h;have e:a≠b:=fun z=>hq (by rw[<- z];exact h2)
   refine⟨?_,h2⟩;rw[<- h1];simp only[List.lookup];rw[beq_eq_false_iff_ne.mpr e]
theorem y2n{h:Heap}(X:K.In h):(dropT K).In h:=fun a o e=>X a o (q5m (q:=fun a=>!tupAt K a) e).1
theorem y2o:NoTup (dropT K):=fun a o e z=>by
 obtain⟨h1,h2⟩:=q5m (q:=fun a=>!tupAt K a) e
 unfold tupAt at h2;rw[h1]at h2;simp[z]at h2
theorem q0j{o:Obj}(h:K.lookup a=some o)(t:tupAt K a=false):(dropT K).lookup a=some o:=by
 have gen:∀(l:PySem.W.Frag)(q:Addr->Bool),q a=true->l.lookup a=some o->(l.filter fun p=>q p.1).lookup a=some o:=by
  intro l q hq
  induction l with
  |nil=>intro h;cases h
  |cons p l ih=>
   obtain⟨b,u⟩:=p;intro h
   by_cases e:a=b
   ·subst e;rw[w2n (p:=fun p:Addr×Obj=>q p.1) (a:=(a,u)) hq]
    rw[show List.lookup a ((a,u)::l)=some u by simp[List.lookup]]at h;rw[<- h];simp[List.lookup]
   ·rw[show List.lookup a ((b,u)::l)=List.lookup a l by simp only[List.lookup];rw[beq_eq_false_iff_ne.mpr e]]at h
    by_cases hb:q b=true
    ·rw[w2n (p:=fun p:Addr×Obj=>q p.1) (a:=(b,u)) hb,<- ih h]
     simp only[List.lookup];rw[beq_eq_false_iff_ne.mpr e]
    ·rw[w3e (p:=fun p:Addr×Obj=>q p.1) (a:=(b,u)) hb]
     exact ih h
 exact gen K (fun a=>!tupAt K a) (by rw[t];rfl) h
theorem q0l{r:Option Value}(h:PySem.W.nsIn K a x=some r)(t:tupAt K a=false):PySem.W.nsIn (dropT K) a x=some r:=by
 unfold PySem.W.nsIn at h |-
 cases q:K.lookup a with
 |none=>rw[q]at h;cases h
 |some o=>rw[q0j q t];rw[q]at h;exact h
noncomputable def tupAtV(K:PySem.W.Frag):Value->Bool
 |.ref a=>tupAt K a
 |_=>false
theorem q0m{cd:Value}(h:PySem.W.codeIn K cd x=true)(t:tupAtV K cd=false):PySem.W.codeIn (dropT K) cd x=true:=by
 cases cd with
 |ref a=>
  unfold PySem.W.codeIn at h |-
  dsimp only at h |-
  cases q:K.lookup a with
  |none=>rw[q]at h;cases h
  |some o=>rw[q0j q t];rw[q]at h;exact h
 |_=>cases h
noncomputable def funAt(K:PySem.W.Frag)(a:Addr):Bool:=!tupAt K a&&(match K.lookup a with
 |some ⟨_,_,.func _,_⟩=>true
 |_=>false)
noncomputable def lk{κ:Type} [DecidableEq κ](kvs:List (κ×Sv))(x:κ):Option Sv:=(kvs.find? fun p=>decide (p.1=x)).map (·.2)
theorem hu1{n:Nat}(h:n+150<cLine):n+20<cLine:=Nat.lt_of_le_of_lt (Nat.add_le_add_left (by decide:20<=150) _) h
section
variable{kw:W}{kvs:List (Key×Sv)}
theorem y2p{dd:Dd}:hide1 (.dic dd)=.fr (.dic dd):=rfl
end
end D
namespace L2
open PySem PySem.Spec PyProof.Rows
theorem y0d{P:Program}{w:World}{K:PySem.W.Frag}{mg mb:Str->Option Value}{CX:CXT}{k:Nat}{fa a:Addr}{fd:FuncData}{x:Str}{sp:Sp}{s₁:Shared}{vs:List Value}{ns:List Int}{tabs:List (Addr×Str)}
  (KX:K.In s₁.heap)(hns:s₁.heap.Ns mainGlobals mg)(hb:s₁.heap.Ns builtinsNs mb)(hbb:∀x:Str,x≠"__name__"->mb x=bootBuiltins x)(hlim:s₁.heap.NoLimit)(hg:s₁.gens=#[])
  (ha:s₁.heap.get? a=some {cls:=.type "list", data:=.seq vs.toArray})(hi:IntsAre vs ns)(hl:ns.length<=sizeLine)(hr:Room k callerA)
  (F:∀base:Heap,K.In base->base.Ns mainGlobals mg->BMain base mg->FnOk P w K mg base CX k fa fd [x] sp)(hbind:∀(s:Shared)(u:Value),BindsTo s fd ⟨[u],[]⟩ [(x,u)])
  (hsp:∀H:Hp,SqL K H a (ns.map V.int)->sp [.ref a] H (fun v _=>v=.bl true) fun _ _ _=>False)
  (hCX:∀H e s',CX [] H s₁ (fun _ _ _=>False) e s'->False)
  (hBM:BMain s₁.heap mg)(hM:∀a q P,(a,markO P q)∈K->tabs.lookup P=some q)(hT:∀P q,tabs.lookup P=some q->s₁.heap.get? P=some (tabObj #[])/\isCodeTable s₁.heap P)(hKT:∀P q,tabs.lookup P=some q->K.lookup P=none):
  codeAny (model P w) callerA (.call (.ref fa) ⟨[.ref a],[]⟩) (fun r s'=>r=.ok (.ret (.bool true))/\OldK s₁.heap s'.heap/\s'.os=s₁.os/\AllBare s'.gens) s₁:=by
 have rv:=q79 hi;have lenV:=hi.length
 have aT:tabs.lookup a=none:=by
  cases q:tabs.lookup a with
  |none=>rfl
  |some t=>rw[(hT a t q).1]at ha;cases ha
 have core:∀H0:Hp,(∀b,H0 b=none\/∃o xs,H0 b=some (.frz o (.lst xs)))->SqL K H0 a (ns.map V.int)->HOk P w H0 s₁.heap->(∀b,H0 b≠none->b=a)->(H0 a≠none->K.lookup a=none) ->
   codeAny (model P w) callerA (.call (.ref fa) ⟨[.ref a],[]⟩) (fun r s'=>r=.ok (.ret (.bool true))/\OldK s₁.heap s'.heap/\s'.os=s₁.os/\AllBare s'.gens) s₁:=by
  intro H0 hO hS0 hok0 hA hK;obtain⟨H,hH⟩:∃H:Hp,H=fun b=>match tabs.lookup b with|some q=>some (.tbl #[.bool true,.str q 0])|none=>H0 b:=⟨_,rfl⟩
  have inT:∀b q,tabs.lookup b=some q->H b=some (.tbl #[.bool true,.str q 0]):=fun b q z=>by rw[hH];simp only[z]
  have outT:∀b,tabs.lookup b=none->H b=H0 b:=fun b z=>by rw[hH];simp only[z]
  have up:∀b u,H0 b=some u->H b=some u:=fun b u z=>by
   have:b=a:=hA b (by rw[z];simp);subst this;rw[outT b aT];exact z
  have hS:SqL K H a (ns.map V.int):=by
   rcases hS0 with(z|⟨o,z⟩)|z
   ·exact .inl (.inl (up _ _ z))
   ·exact .inl (.inr ⟨o,up _ _ z⟩)
   ·exact .inr z
  have hok:HOk P w H s₁.heap:=fun b u z=>by
   cases q:tabs.lookup b with
   |some t=>
    rw[inT b t q]at z;cases z;exact .inl ⟨t,#[],rfl,rfl,(hT b t q).1,trivial,fun pos cv z=>by cases z⟩
   |none=>
    rw[outT b q]at z;exact(hok0 b u z).stay (fun c v _ q=>q) (fun c q=>up c _ q) fun c v _ q=>up c v q
  have base_of:∀{b:Addr}{o:Obj},s₁.heap.get? b=some o->H b=none->(hidT s₁.heap H).get? b=some o:=fun e n=>x3y e n
  have free:∀{b:Addr}{o:Obj},s₁.heap.get? b=some o->o≠{cls:=.type "list", data:=.seq vs.toArray}->o≠tabObj #[]->H b=none:=fun {b o} e d1 d2=>by
   cases q:tabs.lookup b with
   |some t=>rw[(hT b t q).1]at e;cases e;exact absurd rfl d2
   |none=>
    rw[outT b q];cases q0:H0 b with
    |none=>rfl
    |some u=>
     have e':b=a:=hA b (by rw[q0];simp);subst e';rw[ha]at e;cases e;exact absurd rfl d1
  have nsK:∀{b:Addr}{m:Str->Option Value},s₁.heap.Ns b m->(hidT s₁.heap H).Ns b m:=fun {b m} ⟨o,es,ep,e,d,r⟩=>⟨o,es,ep,base_of e (free e (fun z=>by rw[z]at d;cases d) fun z=>by rw[z]at d;cases d),d,r⟩
  have hKb:K.In (hidT s₁.heap H):=fun b o e=>base_of (KX b o e) (by
   cases q:tabs.lookup b with
   |some t=>rw[hKT b t q]at e;cases e
   |none=>
    rw[outT b q];cases q0:H0 b with
    |none=>rfl
    |some u=>
     have e':b=a:=hA b (by rw[q0];simp);subst e';rw[hK (by rw[q0];simp)]at e;cases e)
  have hBb:BMain (hidT s₁.heap H) mg:=by
   obtain⟨bm,ob,b1,b2,b3,b4,b5,b6⟩:=hBM;exact⟨bm,ob,b1,b2,base_of b3 (free b3 (fun z=>by rw[z]at b4;simp at b4) fun z=>by rw[z]at b4;cases b4),b4,b5,b6⟩
  have hMd:Mod K mg (hidT s₁.heap H):=⟨hKb,nsK hns,⟨mb,nsK hb,hbb⟩,let ⟨mc,h1,h2⟩:=hlim;⟨mc,nsK h1,h2⟩⟩;have e0:Env0 P w K mg (hidT s₁.heap H) callerA [] s₁ H:=⟨rfl,hMd,fun b o e=>x6p e,Nat.le_of_eq (x2m _ _),trivial,fun b hb=>absurd (show b∈([]:List Addr)from hb) (by simp),hok,.of_eq hg,fun a q P m=>⟨_,inT P q (hM a q P m),rfl,rfl⟩⟩
  refine codeAny_mono ((F _ hKb (nsK hns) hBb).run callerA [] s₁ H ⟨[.ref a],[]⟩ [.ref a] [.ref a] _ _ hr e0 (hbind s₁ (.ref a)) (.cons rfl .nil) (hsp H hS)) fun r s' h=>?_
  cases r with
  |error e=>exact(hCX H e s' h).elim
  |ok fl=>
   cases fl with
   |next=>exact False.elim h
   |brk=>exact False.elim h
   |cont=>exact False.elim h
   |ret u=>
    obtain⟨v,H',os,bare,un,hok',r',q⟩:=h;have q':v=.bl true:=q;subst q';obtain rfl:u=Value.bool true:=r'
    have kp:∀b o,tabs.lookup b=none->s₁.heap.get? b=some o->s'.heap.get? b=some o:=fun b o z e=>by
     cases q:H b with
     |none=>exact un.keep b o e q (by intro z;exact absurd (show b∈([]:List Addr)from z) (by simp)) (by simp)
     |some u=>
      have q0:=q;rw[outT b z]at q0;rcases hO b with z|⟨ob,xs,z⟩
      ·rw[q0]at z;cases z
      ·rw[q0]at z;cases z;have z2:=un.frzs b ob _ q;obtain⟨e1,_⟩:=(show s₁.heap.get? b=some ob/\_ from hok b _ q);obtain⟨e2,_⟩:=(show s'.heap.get? b=some ob/\_ from hok' b _ z2);rw[e]at e1;cases e1;exact e2
    have gr:∀b t,tabs.lookup b=some t->∃qs,s'.heap.get? b=some (tabObj qs):=fun b t z=>by
     obtain⟨more,e⟩:=un.tbls b _ (inT b t z);have o1:ObjOk P w H' s'.heap b (.tbl (#[.bool true,.str t 0]++more)):=hok' b _ e;rcases o1 with⟨_,qs,_,_,g,_⟩|⟨_,_,_,_,_,_,p0,_⟩
     ·exact⟨qs,g⟩
     ·rw[w1n (by simp)]at p0;cases p0
    refine⟨rfl,⟨fun b o e=>?_,fun b o e=>?_⟩,os,bare⟩
    ·cases z:tabs.lookup b with
     |none=>exact .inl (kp b o z e)
     |some t=>
      obtain⟨qs,g⟩:=gr b t z;obtain⟨g1,g2⟩:=hT b t z;rw[e]at g1;cases g1;exact .inr (.inl ⟨g2,rfl,#[],qs,rfl,by rw[Array.empty_append];exact g⟩)
    ·cases z:tabs.lookup b with
     |none=>exact⟨o,kp b o z e⟩
     |some t=>
      obtain⟨qs,g⟩:=gr b t z;exact⟨_,g⟩
 cases hk:K.lookup a with
 |some o=>
  have e:=KX a o hk;rw[ha]at e;cases e;refine core (fun _=>none) (fun _=>.inl rfl) (.inr ⟨_,vs.toArray,_,hk,rfl,rfl,rfl,by rw[w0e,lenV];exact hl,by simpa using rv⟩) (fun b u z=>by have z':(none:Option HO)=some u:=z;cases z') (fun b z=>absurd rfl z) fun z=>absurd rfl z
 |none=>
  refine core (fun b=>if b=a then some (.frz {cls:=.type "list", data:=.seq vs.toArray} (.lst (ns.map V.int)))else none) (fun b=>?_) (.inl (.inr ⟨{cls:=.type "list", data:=.seq vs.toArray},if_pos rfl⟩)) (fun b u z=>?_) (fun b z=>?_) fun _=>hk
  ·by_cases hb:b=a
   ·exact .inr ⟨_,_,if_pos hb⟩
   ·exact .inl (if_neg hb)
  ·by_cases hb:b=a
   ·have z':=(if_pos hb).symm.trans z;cases z';subst hb;exact⟨ha,by rw[w0d];exact hl,vs,_,rv,ha⟩
   ·have z':=(if_neg hb).symm.trans z;cases z'
  ·by_cases hb:b=a
   ·exact hb
   ·exact absurd (if_neg hb) z
theorem y2q{l:PySem.W.OpenLaw}{n k:Nat}{q:Program}{loose:List Str}{XP:(Str->Option Value)->Heap->Prop}{YP:World->Heap->Prop}{d:DefRec}{K:Params->PySem.W.Frag}{CX:World->CXT}{sp:World->Sp}{x:Str}{tabs:List (Addr×Str)}
  (hn:l.most=some n)(hn2:n<=sizeLine)(hdf:d.params.defaults=[])(hr:Room k callerA)
  (hY:∀(w:World)(h:Heap),YP w h->(K w.params).In h)
  (F:∀(w:World)(mg:Str->Option Value)(fa:Addr)(h:Heap),(K w.params).In h->h.Ns mainGlobals mg->mg d.name=some (.ref fa) ->
   ∃fd:FuncData,(∀(s:Shared)(u:Value),BindsTo s fd ⟨[u],[]⟩ [(x,u)]) /\
    ∀base:Heap,(K w.params).In base->base.Ns mainGlobals mg->BMain base mg->FnOk l.prog w (K w.params) mg base (CX w) k fa fd [x] (sp w))
  (hsp:∀(w:World)(H:Hp)(a:Addr)(ns:List Int),ns.length<=n->SqL (K w.params) H a (ns.map V.int)->sp w [.ref a] H (fun v _=>v=.bl true) fun _ _ _=>False)
  (hCX:∀(w:World)(H:Hp)(s:Shared)(e:Value)(s':Shared),CX w [] H s (fun _ _ _=>False) e s'->False)
  (hM:∀(w:World) a q P,(a,markO P q)∈K w.params->tabs.lookup P=some q)(hT:∀(w:World)(h:Heap),YP w h->∀P q,tabs.lookup P=some q->h.get? P=some (tabObj #[])/\isCodeTable h P)(hKT:∀(w:World) P q,tabs.lookup P=some q->(K w.params).lookup P=none):
  PySem.W.WalkO q loose XP YP l.row.toRowW d [] (fun f vs=>PySem.call f vs):=by
 refine Att.attach_call hn hdf fun w s₀ s₁ mg mb fa o pm cd doc a vs ns G Y ho hd hcd hmg hobj hints hlen hg=>?_
 have KX:=hY w _ Y;obtain⟨fd,hb,hF⟩:=F w mg fa _ KX G.T.g hmg;exact y0d KX G.T.g G.T.b G.T.builtins G.T.nolimit hg hobj hints (w0z hlen hn2) hr hF hb (fun H hS=>hsp w H a ns hlen hS) (fun H e s'=>hCX w H s₁ e s') G.T.bmain (hM w) (hT w _ Y) (hKT w)
end L2
namespace D
open PySem L2
variable{X:Cx}{dA:Den (List W)}{e:Expr}{G H:Hp}{EE:L2.St->XK}{es:List Expr}{N ps:List Str}{F:List W->FR}{r:Nat->List W->FR}{p pos:Pos}{K:PySem.W.Frag}{x:Str}{Z:Zt}
mutual
noncomputable def noFn:W->Bool
 |.tup ws=>noFns ws
 |.lst ws=>noFns ws
 |.dw _ _ _ ws=>noFns ws
 |.fn _ _ _=>false
 |.non=>true
 |.bl _=>true
 |.int _=>true
 |.str _=>true
 |.exc _=>true
 |.dic _=>true
noncomputable def noFns:List W->Bool
 |[]=>true
 |w::ws=>noFn w&&noFns ws
end
section
variable{cs:Cs}
theorem Rd.rm{a:Addr}{u:HO}(c:CelsIn G cs)(h:Rd G a u)(n:∀o,u≠celO o)(n2:∀φ,u≠.ext φ):Rd (rmC G cs) a u:=by
 rcases h with h|⟨o,h⟩
 ·exact .inl (c.rm_some h n)
 ·exact .inr ⟨o,c.rm_some h fun o' z=>by cases z;exact n2 _ rfl⟩
theorem KeysG.rm(c:CelsIn G cs):∀{ks:List Kx}{bs:List Addr},KeysG G ks bs->KeysG (rmC G cs) ks bs
 |[],[],_=>trivial
 |k::ks,b::bs,h=>⟨KRep.keeps (fun _ _ t z=>c.rm_some z (q9h t)) k h.1,KeysG.rm c h.2⟩
 |[],_::_,h=>h.elim
 |_::_,[],h=>h.elim
mutual
theorem Rep.rm(c:CelsIn G cs):∀(w:W){v:V},noFn w=true->Rep K G w v->Rep K (rmC G cs) w v
 |.non,v,_,h=>h
 |.bl b,v,_,h=>h
 |.int i,v,_,h=>h
 |.str x,v,_,h=>h
 |.tup ws,v,n,h=>by
  obtain⟨a,xs,rfl,q,r⟩:=h;refine⟨a,xs,rfl,?_,Reps.rm c ws n r⟩;rcases q with q|q
  ·exact .inl (Rd.rm c q (fun o z=>nomatch z) fun φ z=>nomatch z)
  ·exact .inr q
 |.lst ws,v,n,h=>by
  obtain⟨a,xs,rfl,q,r⟩:=h;refine⟨a,xs,rfl,?_,Reps.rm c ws n r⟩;rcases q with q|q
  ·exact .inl (Rd.rm c q (fun o z=>nomatch z) fun φ z=>nomatch z)
  ·exact .inr q
 |.exc e,v,_,h=>by
  obtain⟨a,rfl,q⟩:=h;exact⟨a,rfl,c.rm_some q fun o z=>by unfold excO at z;cases z⟩
 |.dic kvs,v,_,h=>by
  obtain⟨a,rfl,q⟩:=h;exact⟨a,rfl,c.rm_some q fun o z=>by cases kvs;cases z⟩
 |.dw fz sh ks ws,v,n,h=>by
  obtain⟨a,kvs,kas,rfl,h1,h2,h3,h4⟩:=h;refine⟨a,kvs,kas,rfl,?_,h2,KeysG.rm c h3,Reps.rm c ws n h4⟩;cases fz with
  |true=>obtain⟨o,h1⟩:=h1;exact⟨o,c.rm_some h1 fun o z=>nomatch z⟩
  |false=>exact c.rm_some h1 fun o z=>nomatch z
 |.fn _ _ _,v,n,_=>by cases n
theorem Reps.rm(c:CelsIn G cs):∀(ws:List W){xs:List V},noFns ws=true->Reps K G ws xs->Reps K (rmC G cs) ws xs
 |[],xs,_,h=>h
 |w::ws,xs,n,h=>by
  obtain⟨x,r,rfl,h1,h2⟩:=h
  have n':noFn w=true/\noFns ws=true:=by
   have:(noFn w&&noFns ws)=true:=n
   rwa [w0t]at this
  exact⟨x,r,rfl,Rep.rm c w n'.1 h1,Reps.rm c ws n'.2 h2⟩
end
end
section
variable{G' H':Hp}{cs:Cs}
theorem x4q(h:∀b o,cs.lookup b=some o->H b=none):Same H (addC H cs):=fun b u e=>by
 cases q:cs.lookup b with
 |some o=>rw[h b o q]at e;cases e
 |none=>rw[q0u q];exact e
theorem x21(h:Same G H):Same (addC G cs) (addC H cs):=fun b u e=>by
 cases q:cs.lookup b with
 |some o=>rw[q29 q]at e |-;exact e
 |none=>rw[q0u q]at e |-;exact h b u e
theorem x4r(h:Same G H):Same (rmC G cs) (rmC H cs):=fun b u e=>by
 obtain⟨e1,e2⟩:=x7s e;rw[q1x e2];exact h b u e1
theorem Grow.lam(ch:CelsIn H cs)(cg:CelsIn G cs)(e1:Same (rmC H cs) H')(e2:Same (rmC G cs) G')(e3:Same G' H')(e4:∀a,rmC H cs a≠none->G' a=rmC G cs a):Grow G H (addC G' cs) (addC H' cs) where
 hh:=fun b u e=>by
  cases q:cs.lookup b with
  |some o=>rw[q29 q];rw[ch b o q]at e;exact e
  |none=>rw[q0u q];exact e1 b u (by rw[q1x q];exact e)
 gg:=fun b u e=>by
  cases q:cs.lookup b with
  |some o=>rw[q29 q];rw[cg b o q]at e;exact e
  |none=>rw[q0u q];exact e2 b u (by rw[q1x q];exact e)
 sub:=x21 e3
 new:=fun a ha=>by
  cases q:cs.lookup a with
  |some o=>rw[q29 q,cg a o q]
  |none=>
   rw[q0u q,e4 a (by rw[q1x q];exact ha),q1x q]
theorem Grow.nocells(g:Grow (addC G cs) (addC H cs) G' H')(hn:∀b o,cs.lookup b=some o->H b=none)(sg:Same G H):Grow G H (rmC G' cs) (rmC H' cs) where
 hh:=fun b u e=>by
  cases q:cs.lookup b with
  |some o=>rw[hn b o q]at e;cases e
  |none=>rw[q1x q];exact g.hh b u (by rw[q0u q];exact e)
 gg:=fun b u e=>by
  cases q:cs.lookup b with
  |some o=>have:=sg b u e;rw[hn b o q]at this;cases this
  |none=>rw[q1x q];exact g.gg b u (by rw[q0u q];exact e)
 sub:=x4r g.sub
 new:=fun a ha=>by
  cases q:cs.lookup a with
  |some o=>exact absurd (hn a o q) ha
  |none=>rw[q1x q,g.new a (by rw[q0u q];exact ha),q0u q]
end
noncomputable def exprFR:R W->FR
 |.ok w _=>.ok (.fr w)
 |.ex c _=>.ex c
 |.no=>.no
def spV(K:PySem.W.Frag)(lams:Nat->Option Lm)(r:Nat->List W->FR):V->List V->Hp->VK->XK->Prop:=fun x vs H Q _=>∃G i l caps ws w,Same G H/\Rep K G (.fn i l caps) x/\Reps K G ws vs/\noFns ws=true/\noFns caps=true/\lams i=some l /\
 r i (ws++caps)=.ok (.fr w)/\∀G' H' v,Grow G H G' H'->Rep K G' w v->Q v H'
structure LamOk(P:Program)(w:World)(K:PySem.W.Frag)(mg:Str->Option Value)(base:Heap)(n:Nat)(l:Lm)(ps:List Str)(F:List W->FR):Prop where
 sc:LamScope ps l.nf l.scope
 bind:∀(cl:List (Str×Addr))(pm:Value)(c':Addr)(ctv:Value)(us:List Value),us.length=ps.length->bindArgs (PySem.W.kla_fn "<lambda>" l.qual l.params l.body l.scope cl pm (.ref c') ctv) ⟨us,[]⟩=pure (ps.zip us)
 len:∀ws,F ws≠.no->ws.length=ps.length+l.nf.length
 body:∀ws,F ws≠.no->∀(Z:Zt)(f:Addr)(cd:Value)(cl:List (Str×Addr))(A:Around)(outer:List Env)(s:Shared)(H:Hp),Room n (A.deeper (lamEnv l.qual l.scope f cd cl s)) ->
  ∃d,DE Z (cxLam P w K mg base (ps++l.nf) l.qual l.scope f cd cl A outer s H) (fun _=>E0) l.body d/\exprFR (d (ws.map .fr))=F ws
theorem z0m{P:Program}{w:World}{mg:Str->Option Value}{base:Heap}{n:Nat}{lams:Nat->Option Lm}(h:∀i l,lams i=some l->∃ps,LamOk P w K mg base n l ps (r i)):
  FnV P w K mg base (CX1 P w) (n+1) (spV K lams r):=by
 rintro x vs H Q E ⟨G,i,l,caps,ws,w',sg,rf,rv,nw,nc,hl,hr,q⟩;obtain⟨ps,L⟩:=h i l hl;obtain⟨f,cl,zs,cs,rfl,⟨pm,c',ctv,ef⟩,FC,rz⟩:=rf;have hn:r i (ws++caps)≠.no:=by rw[hr];exact fun z=>nomatch z
 have hlen:=L.len _ hn;have hz:zs.length=l.nf.length:=FC.len;have hcl:caps.length=l.nf.length:=by rw[<- rz.length];exact hz
 have hwl:ws.length=ps.length:=by rw[w0h,hcl]at hlen;omega
 have hvl:vs.length=ps.length:=by rw[rv.length];exact hwl
 have cg:CelsIn G cs:=fun b o e=>(FC.cel b o e).1
 have ch:CelsIn H cs:=fun b o e=>sg _ _ (cg b o e)
 refine⟨f,_,_,_,_,_,rfl,sg _ _ ef,fun A outer s us hR e0 ru=>?_⟩
 have hul:us.length=ps.length:=by rw[<- ru.length];exact hvl
 have FC2:LamCells cl l.nf l.scope zs s.heap cs:=⟨FC.inj,FC.has,FC.all,fun c o e=>⟨(show s.heap.get? c=some o/\_ from e0.hok c _ (ch c o e)).1,(FC.cel c o e).2⟩,FC.val⟩
 obtain⟨d,hd,he⟩:=L.body _ hn ⟨rmC H cs,rmC G cs,[]⟩ f (.ref c') cl A outer s (rmC H cs) (hR.deeper _);refine lam_run hR e0 (sg _ _ ef) L.sc ch FC2 (L.bind cl pm c' ctv us hul) hvl hz ru hd ?_;have sg':Same (rmC G cs) (rmC H cs):=x4r sg;have rr:Reps K (rmC G cs) (ws++caps) (vs++zs):=(Reps.rm cg ws nw rv).append (Reps.rm cg caps nc rz);have rel:=q6a (N:=ps++l.nf) sg' rr
 have e1:L2.start (ps++l.nf) (vs++zs)=vs.map some++zs.map some:=by
  unfold L2.start;rw[show(ps++l.nf).length-(vs++zs).length=0 by simp[hvl,hz],w3u,w1p,w0n]
 have e2:init (ps++l.nf).length (ws++caps)=(ws++caps).map .fr:=by
  unfold init;rw[show(ps++l.nf).length-(ws++caps).length=0 by simp[hwl,hcl],w3u,w1p]
 rw[e1,e2]at rel;refine⟨rmC G cs,_,rel,?_⟩;cases hde:d ((ws++caps).map .fr)with
 |ok w2 e'=>
  rw[hde,hr]at he;cases he;intro G' v H' r' sG rp hnone
  have hn':∀b o,cs.lookup b=some o->G' b=none:=fun b o z=>by
   cases q2:G' b with
   |none=>rfl
   |some u=>have:=r'.sub b u q2;rw[hnone b o z]at this;cases this
  exact q (addC G' cs) (addC H' cs) v (Grow.lam ch cg (fun b u e=>r'.ent b u e (fun z=>nomatch z)) sG r'.sub r'.gen) (Rep.mono (x4q hn') _ rp)
 |ex c e'=>rw[hde,hr]at he;cases he
 |no=>rw[hde,hr]at he;cases he
section
variable{k:Nat}{lams:Nat->Option Lm}
open Classical in
noncomputable def callVK(lams:Nat->Option Lm)(r:Nat->List W->FR)(j:Nat)(l:Lm)(caps:List W)(ws:List W)(e1:List S):R W:=
 if lams j=some l/\noFns ws=true/\noFns caps=true then(match r j (ws++caps)with
  |.ok (.fr w)=>.ok w e1
  |_=>.no)else .no
noncomputable def callV0(lams:Nat->Option Lm)(r:Nat->List W->FR)(dA:Den (List W))(e:List S):Option S->R W
 |some (.fr (.fn j l caps))=>(dA e).bind fun ws e1=>callVK lams r j l caps ws e1
 |_=>.no
end
noncomputable def capsOf:List Nat->List S->Option (List W)
 |[],_=>some []
 |j::js,e=>match e[j]? with
  |some (.fr w)=>(capsOf js e).map (w::·)
  |_=>none
theorem x22{σ:L2.St}{e:List S}(r:Rel K Z G σ H e):∀{js:List Nat}{caps:List W},capsOf js e=some caps->∃zs:List V,Reps K G caps zs/\zs.length=js.length/\∀(i j:Nat) z,js[i]?=some j->zs[i]?=some z->σ[j]?=some (some z)
 |[],caps,h=>by
  cases h;exact⟨[],rfl,rfl,fun i j z h _=>by simp at h⟩
 |j::js,caps,h=>by
  unfold capsOf at h;split at h
  ·rename_i w hw;obtain⟨cs,h1,rfl⟩:=w0c.mp h;obtain⟨zs,r1,r2,r3⟩:=x22 r h1;obtain⟨v,v1,v2⟩:=r.fr hw;refine⟨v::zs,⟨v,zs,rfl,v2,r1⟩,by simp[r2],fun i j' z g1 g2=>?_⟩
   cases i with
   |zero=>
    simp only[w1l,Option.some.injEq]at g1 g2;subst g1;subst g2;exact v1
   |succ i=>exact r3 i j' z (by simpa using g1) (by simpa using g2)
  ·cases h
noncomputable def noE:Expr:=.Name "" ⟨0,0,0,0⟩
noncomputable def stAt(i:Nat)(st:Stmt):Stmt:=(defBody st).getD i (.Pass ⟨0,0,0,0⟩)
noncomputable def stVal:Stmt->Expr
 |.Assign _ v _=>v
 |.Return (some v) _=>v
 |.For _ it _ _ _=>it
 |.Expr v _=>v
 |_=>noE
noncomputable def argAt(i:Nat):Expr->Expr
 |.Call _ as _ _=>as.getD i noE
 |_=>noE
noncomputable def lamParams:Expr->Arguments
 |.Lambda p _ _ _=>p
 |_=>default
noncomputable def lamBody:Expr->Expr
 |.Lambda _ b _ _=>b
 |_=>noE
noncomputable def lamScope:Expr->Scope
 |.Lambda _ _ s _=>s
 |_=>default
def MakK(K:PySem.W.Frag)(x:Str)(cdv:Value):Prop:=∃c P a,cdv=.ref c/\codeHdIn K c P=true/\(a,markO P ((x++".<locals>.")++"<lambda>"))∈K
section
variable{P:Program}{w:World}{mg:Str->Option Value}{base:Heap}
theorem z3a{CX:CXT}{scope:Scope}{f:Addr}{cdv:Value}{A:Around}{outer:List Env}{s:Shared}{E:XK}(h:MakK K x cdv)(b:BMain base mg):Maker (cxOf CX P w K mg base N x scope f cdv A outer s H E):=by
 obtain⟨c,P,a,rfl,h1,h2⟩:=h;exact⟨⟨c,P,a,rfl,h1,h2⟩,b⟩
theorem conM{st:Stmt}{k:Nat}(A:At K mg x st ps)(hm:∀f oc od fd sl,mg x=some (.ref f)->K.lookup f=some ⟨oc,od,.func fd,sl⟩->MakK K x fd.code)(sc:FnScope N ps (defScope st))(len:∀ws,F ws≠.no->ws.length=ps.length)
  (hb:∀ws,F ws≠.no->∀(f:Addr)(cdv:Value)(A:Around)(outer:List Env)(s:Shared)(H:Hp)(E:XK)(Z:Zt),Room k (A.deeper (PyProof.Rows.envOfC x (defScope st) s.heap.objs.size f cdv))->MakK K x cdv ->
   ∃d,DSs Z (cxOf (CX1 P w) P w K mg base N x (defScope st) f cdv A outer s H E) (fun _=>E) (defBody st) d/\(d (init N.length ws)).fn=F ws):Cal P w K mg base (k+1) x ps (spF K F):=by
 obtain⟨f,fd,F0,m,b⟩:=A.ex;have kp:=F0.kp;obtain⟨oc,od,kV,doc,pm,an,cdv,ct,osl,rfl,lk,hcd⟩:=F0.ex;have hk:MakK K x cdv:=hm f _ _ _ _ m lk;refine⟨f,_,y32 lk hcd sc (fun vs H Q E h=>?_) (fun A outer s H vs Q E hr h=>?_),m,kp,b⟩
 ·obtain⟨G,ws,hn,r⟩:=q8h h;rw[r.length];exact len ws hn
 ·obtain⟨G,ws,sg,rp,h⟩:=h;have hn:F ws≠.no:=fun z=>by rw[z]at h;exact h
  obtain⟨d,hd,he⟩:=hb ws hn f cdv A outer s H E ⟨H,G,[]⟩ hr hk;exact⟨_,hd,G,init N.length ws,q6a sg rp,q87 he h⟩
theorem fnV0{lams:Nat->Option Lm}(h:∀i ws,r i ws=.no:=by intro _ _;rfl):FnV P w K mg base (CX1 P w) 0 (spV K lams r):=by
 rintro x vs H Q E ⟨G,i,l,caps,ws,w',sg,rf,rv,nw,nc,hl,hr,q⟩;rw[h]at hr;cases hr
end
noncomputable def markT(K:PySem.W.Frag)(tabs:List (Addr×Str)):PySem.W.Frag:=K++tabs.map fun p=>(mainGlobals,markO p.1 p.2)
section
variable{tabs:List (Addr×Str)}{a:Addr}{o:Obj}
theorem q0t(h:K.lookup a=some o):(markT K tabs).lookup a=some o:=by
 unfold markT;rw[w3w,h];rfl
theorem x1z(hG:(K.lookup mainGlobals).isSome=true):(markT K tabs).lookup a=K.lookup a:=by
 unfold markT;rw[w3w];cases q:K.lookup a with
 |some o=>rfl
 |none=>
  have ne:a≠mainGlobals:=fun z=>by rw[<- z,q]at hG;cases hG
  have:∀l:List (Addr×Str),(l.map fun p=>(mainGlobals,markO p.1 p.2)).lookup a=none:=fun l=>by
   induction l with
   |nil=>rfl
   |cons p l ih=>rw[w0v,w0w,beq_eq_false_iff_ne.mpr ne];exact ih
  rw[this];rfl
theorem in_m{h:Heap}(hG:(K.lookup mainGlobals).isSome=true)(X:K.In h):(markT K tabs).In h:=fun b u e=>X b u (by rw[<- x1z (tabs:=tabs) hG];exact e)
theorem no_m(hG:(K.lookup mainGlobals).isSome=true)(n:NoTup K):NoTup (markT K tabs):=fun b u e=>n b u (by rw[<- x1z (tabs:=tabs) hG];exact e)
theorem ns_m{r:Option Value}(h:PySem.W.nsIn K a x=some r):PySem.W.nsIn (markT K tabs) a x=some r:=by
 unfold PySem.W.nsIn at h |-
 cases q:K.lookup a with
 |none=>rw[q]at h;cases h
 |some o=>rw[q0t q];rw[q]at h;exact h
theorem q0v{cd:Value}(h:PySem.W.codeIn K cd x=true):PySem.W.codeIn (markT K tabs) cd x=true:=by
 cases cd with
 |ref a=>
  unfold PySem.W.codeIn at h |-
  dsimp only at h |-
  cases q:K.lookup a with
  |none=>rw[q]at h;cases h
  |some o=>rw[q0t q];rw[q]at h;exact h
 |_=>cases h
theorem q0w(t:funAt K a=true):keepIn (markT (dropT K) tabs) (.ref a)=true:=by
 have h:=t;unfold funAt at t
 rw[w0t]at t;obtain⟨t1,t2⟩:=t;have t1:tupAt K a=false:=by simpa using t1
 unfold keepIn;dsimp only;split at t2
 ·rename_i q;rw[q0t (q0j q t1)]
 ·cases t2
theorem x8b(h:noMark K=true)(hd:tabs.all (fun p=>tabs.lookup p.1==some p.2)=true):∀a q P,(a,markO P q)∈markT K tabs->tabs.lookup P=some q:=fun a q P m=>by
 rcases w1k.mp m with m|m
 ·have:=w1c.mp h _ m;cases this
 ·obtain⟨p,hp,e⟩:=w1x.mp m;have e1:markO p.1 p.2=markO P q:=(Prod.mk.inj e).2;have e2:p.2=q:=by injection e1 with h1;injection h1
  have e3:p.1=P:=by
   injection e1 with _ _ h3
   injection h3 with h4
   have:=congrArg (fun a:Array Value=>a[0]?) h4
   simpa using this
  have:=w1c.mp hd p hp;rw[<- e2,<- e3]
  simpa using this
theorem x6a(h:noMark K=true):noMark (dropT K)=true:=w1c.mpr fun p hp=>w1c.mp h p (w3i.mp hp).1
theorem tabs_none(hG:(K.lookup mainGlobals).isSome=true)(h:tabs.all (fun p=>(K.lookup p.1).isNone)=true):∀P q,tabs.lookup P=some q->(markT K tabs).lookup P=none:=fun P q e=>by
 rw[x1z hG];have:=w1c.mp h _ (mem_look e)
 simpa using this
where
 mem_look:∀{l:List (Addr×Str)}{P:Addr}{q:Str},l.lookup P=some q->(P,q)∈l
 |[],_,_,e=>by cases e
 |(b,t)::l,P,q,e=>by
  rw[w0w]at e
  by_cases hb:(P==b)=true
  ·rw[hb]at e;cases e;rw[eq_of_beq hb];exact .head _
  ·rw[w1o.mpr hb]at e;exact .tail _ (mem_look e)
theorem y6p{h:Heap}(X:K.In h)(hT:∀P∈tabs.map (·.1),h.get? P=some (tabObj #[]))(hc:∀p∈tabs,∃c,codeHdIn K c p.1=true):∀P q,tabs.lookup P=some q->h.get? P=some (tabObj #[])/\isCodeTable h P:=fun P q e=>by
 have m:=tabs_none.mem_look e;obtain⟨c,hc⟩:=hc _ m;have g:=hT P (w1x.mpr ⟨_,m,rfl⟩);exact⟨g,((PySem.W.codeHd_of_K X hc).tab g).isCodeTable⟩
end
section
variable{e:List S}{ws caps:List W}{lams:Nat->Option Lm}{d:Den W}{i j:Nat}{l:Lm}{w:W}{js:List Nat}
theorem y0e:callV0 lams r dA e (some (.fr (.fn j l caps)))=(dA e).bind fun ws e1=>callVK lams r j l caps ws e1:=rfl
theorem y2r:capsOf [] e=some []:=rfl
end
end D
namespace L2
open PySem PySem.Spec PyProof.Rows
end L2
namespace D
open PySem L2
end D
namespace L2
open PySem PySem.Spec PyProof.Rows
end L2
namespace D
open PySem L2
end D
namespace L2
open PySem PySem.Spec PyProof.Rows
namespace RevT
end RevT
open PySem PySem.Spec PyProof.Rows
end L2
namespace D
open PySem L2
end D
namespace L2
open PySem PySem.Spec PyProof.Rows
end L2
namespace D
open PySem L2 PySem.Spec PyProof.Rows
open PyProof.Rows (envOfC)
variable{a l:Addr}{b:Bool}{X:Cx}{dA dF:Den (List W)}{da:Den W}{c:Expr}{G G' G0 G3 H H':Hp}{n:Int}{σ σ':L2.St}{EE:L2.St->XK}{L ka:List Addr}{es:List Expr}{e e':List S}{d:List S->SR}{ss:List Stmt}{vs xs:List V}{caps us ws:List W}{L' i m r:Nat}{p pos:Pos}{K:PySem.W.Frag}{x y:Str}{κ:Type}{v:V}{w:W}{E:XK}{Z:Zt}
mutual
theorem x23{K:PySem.W.Frag}{Z:Zt}{G:Hp}:∀(w:W){v:V},flatW w=true->Rep K G w v->RepN K Z G w v
 |.non,_,_,p=>p
 |.bl _,_,_,p=>p
 |.int _,_,_,p=>p
 |.str _,_,_,p=>p
 |.tup ws,_,h,⟨a,xs,e,q,r⟩=>⟨a,xs,e,q,q3w ws h r⟩
 |.lst _,_,h,_=>by cases h
 |.exc _,_,h,_=>by cases h
 |.dic _,_,h,_=>by cases h
 |.dw _ _ _ _,_,h,_=>by cases h
 |.fn _ _ _,_,h,_=>by cases h
theorem q3w{K:PySem.W.Frag}{Z:Zt}{G:Hp}:∀(ws:List W){vs:List V},flatWs ws=true->Reps K G ws vs->RepNs K Z G ws vs
 |[],_,_,p=>p
 |w::ws,_,h,⟨x,r,e,p,q⟩=>by
  have h:(flatW w&&flatWs ws)=true:=h;rw[w0t]at h;exact⟨x,r,e,x23 w h.1 p,q3w ws h.2 q⟩
end
theorem RepNs.get{K:PySem.W.Frag}{Z:Zt}{G:Hp}:∀{ws:List W}{xs:List V}{k:Nat}{w:W},RepNs K Z G ws xs->ws[k]?=some w->∃x,xs[k]?=some x/\RepN K Z G w x
 |[],_,_,_,_,q=>by cases q
 |_::_,_,0,_,⟨x,r,e,p,_⟩,q=>by cases e;cases q;exact⟨x,rfl,p⟩
 |_::_,_,k+1,_,⟨x,r,e,_,h⟩,q=>by cases e;exact RepNs.get (k:=k) h q
theorem RepNs.length(h:RepNs K Z G ws xs):ws.length=xs.length:=(RepNs.reps ws h).length.symm
theorem Rel.drop1(r:Rel K Z G σ H e)(i:Nat):Rel K Z G σ H (e.set i .no):=r.forget (by simp) fun k s z=>by
 by_cases hk:k=i
 ·subst hk
  have hi:k<e.length:=by
   have:=(w0a.mp z).1;simpa using this
  rw[w0l hi]at z;cases z;exact .inl rfl
 ·rw[w0j (fun z=>hk z.symm)]at z;exact .inr z
theorem Rel.give(r:Rel K Z G σ H e)(h:e[i]?=some (.own none ws)):∃a xs,σ[i]?=some (some (.ref a))/\Same G (upd G a (.lst xs))/\Z.H a=none/\Reps K G ws xs/\H a=some (.lst xs)/\Rel K Z (upd G a (.lst xs)) σ H (e.set i .no):=by
 obtain⟨a,xs,h1,h2,h3,h4,h5⟩:=r.own h;have h4:Z.H a=none:=h4
 have fr:Free σ (e.set i .no) a:=fun j b ws' z q=>by
  by_cases hj:j=i
  ·subst hj;have hi:j<e.length:=(w0a.mp h).1;rw[w0l hi]at z;cases z
  ·rw[w0j (fun z=>hj z.symm)]at z
   exact hj (r.dis _ _ _ _ _ _ _ z h q h1)
 obtain⟨sg,r2⟩:=(r.drop1 i).seen h2 h3 h4 fr;exact⟨a,xs,h1,sg,h4,h5,h2,r2⟩
section
variable{a b e:Expr}{db d:Den W}{dN:Den (List W)}{tpos p1 p2 p3:Pos}
noncomputable def appNK(i j:Nat)(e:List S):Option S->Option S->SR
 |some (.x (.acc us)),some (.own none ws)=>if(us.length<16777216/\flatWs ws=true)/\((e.set j .no).set i .no).all (fun s=>!isT s)=true then .nx ((e.set j .no).set i (.x (.acc (us++[.lst ws]))))else .no
 |_,_=>.no
end
section
variable(K:PySem.W.Frag)(Z:Zt)(EE:L2.St->XK)
def liftN(d:Den W):TE:=fun σ H Q=>AtG K Z σ H fun G e=>(d e).holds (fun w e'=>∀G' v H',Rel K Z G' σ H' e'->Same G G'->RepN K Z G' w v->Q v H') (XH K Z EE σ G)
def liftNA(d:Den (List W)):TA:=fun σ H Q=>AtG K Z σ H fun G e=>(d e).holds (fun ws e'=>∀G' vs H',Rel K Z G' σ H' e'->Same G G'->RepNs K Z G' ws vs->Q vs H') (XH K Z EE σ G)
end
def DN(Z:Zt)(X:Cx)(EE:L2.St->XK)(e:Expr)(d:Den W):Prop:=PE X e (liftN X.K Z EE d)
def DNA(Z:Zt)(X:Cx)(EE:L2.St->XK)(es:List Expr)(d:Den (List W)):Prop:=PA X es (liftNA X.K Z EE d)
section
variable{Z':Zt}{cs:Cs}
mutual
theorem RepN.rm(c:CelsIn G cs)(hz:∀a,Z.H a=none->Z'.H a=none):∀(w:W){v:V},RepN K Z G w v->RepN K Z' (rmC G cs) w v
 |.non,_,h=>h
 |.bl _,_,h=>h
 |.int _,_,h=>h
 |.str _,_,h=>h
 |.tup ws,_,⟨a,xs,e,q,r⟩=>by
  refine⟨a,xs,e,?_,RepNs.rm c hz ws r⟩;rcases q with q|q
  ·exact .inl (Rd.rm c q (fun o z=>nomatch z) fun φ z=>nomatch z)
  ·exact .inr q
 |.lst ws,_,⟨a,xs,e,q,n,r⟩=>⟨a,xs,e,c.rm_some q (fun o z=>nomatch z),hz a n,RepNs.rm c hz ws r⟩
 |.exc _,_,h=>h.elim
 |.dic _,_,h=>h.elim
 |.dw _ _ _ _,_,h=>h.elim
 |.fn _ _ _,_,h=>h.elim
theorem RepNs.rm(c:CelsIn G cs)(hz:∀a,Z.H a=none->Z'.H a=none):∀(ws:List W){xs:List V},RepNs K Z G ws xs->RepNs K Z' (rmC G cs) ws xs
 |[],_,h=>h
 |w::ws,_,⟨x,r,e,p,q⟩=>⟨x,r,e,RepN.rm c hz w p,RepNs.rm c hz ws q⟩
end
end
section
variable{a b e:Expr}{db d:Den W}{dN:Den (List W)}{tpos p1 p2 p3:Pos}
noncomputable def dFlat(d:Den W):Den W:=fun e=>(d e).bind fun w e1=>if flatW w=true then .ok w e1 else .no
theorem x10(he:DE Z X EE e d):DN Z X EE e (dFlat d):=by
 refine PE.mono he ?_;rintro σ H Q ⟨G,e,rel,h⟩;refine⟨G,e,rel,(R.holds_bind.mp h).imp (fun w e1 h G1 v H1 r1 s1 p1=>?_) fun _ _ h=>h⟩
 split at h
 ·rename_i hf;exact h G1 v H1 r1 s1 (x23 w hf p1)
 ·exact h.elim
noncomputable def nVarK(e:List S):Option S->R W
 |some (.x (.new w))=>.ok w e
 |_=>.no
noncomputable def nOwnK(i:Nat)(e:List S):Option S->R W
 |some (.own none ws)=>if flatWs ws=true then .ok (.lst ws) (e.set i .no)else .no
 |_=>.no
noncomputable def dNOwn(i:Nat):Den W:=fun e=>nOwnK i e e[i]?
theorem z0n(i:Nat)(hN:X.N[i]?=some x:=by rfl)(hv:Vis X.env.scope x:=by walk_at "1")(hd:(x==("__debug__":Str))=false:=by decide)(hcd:(x==("__classdict__":Str))=false:=by decide):DN Z X EE (.Name x pos) (dNOwn i):=by
 refine PE.mono (pv i hN hv hd hcd) ?_;rintro σ H Q ⟨G,e,r,h⟩;unfold dNOwn nOwnK at h;split at h
 ·rename_i ws he;split at h
  ·rename_i hfl;obtain⟨a,xs,hv,sg,hz,rps,hH,r2⟩:=r.give he;exact⟨.ref a,hv,h _ (.ref a) H r2 sg ⟨a,xs,rfl,q0g,hz,q3w ws hfl (Reps.mono sg ws rps)⟩⟩
  ·exact h.elim
 ·exact h.elim
theorem x11:DNA Z X EE [] dNil:=PA.mono q1n fun σ H Q ⟨G,e,r,h⟩=>h G [] H r (.refl _) rfl
theorem q5e(ha:DN Z X EE e da)(hr:DNA Z X EE es dA)(hs:starEach (e::es) X.env=(false,eval e X.env)::starEach es X.env:=by rfl):DNA Z X EE (e::es) (dCons da dA):=by
 refine PA.mono (q0o ha hr hs) ?_;rintro σ H Q ⟨G,e,rel,h⟩;simp only[dCons,R.holds_bind]at h;refine⟨G,e,rel,h.imp (fun x e1 h G1 v1 H1 r1 s1 p1=>?_) fun _ _ h=>h⟩
 refine⟨G1,e1,r1,h.imp (fun xs e2 h G2 vs H2 r2 s2 p2=>?_) fun _ _ h=>XH.trans s1 h⟩
 exact h G2 (v1::vs) H2 r2 (s1.trans s2) ⟨v1,vs,rfl,RepN.move s2 (fun _ _ _ z=>z) x p1,p2⟩
theorem x4s{x1}(h:DNA Z X EE es dA):DN Z X EE (.Tuple es x1 pos) (dTup dA):=by
 refine PE.mono (q55 h) ?_;rintro σ H Q ⟨G,e,rel,h⟩;simp only[dTup,R.holds_bind]at h;refine⟨G,e,rel,h.imp (fun ws e1 h G1 vs H1 r1 s1 p1=>?_) fun _ _ h=>h⟩
 split at h
 ·rename_i hl;refine⟨by rw[<- p1.length,sizeLine_eq];exact hl,fun p hp=>?_⟩
  have g:=Grow.laid r1.sub hp (.tup vs);exact(show ∀G' v H',_->_->RepN X.K Z G' (.tup ws) v->Q v H' from h) _ (.ref p) _ (r1.grow g) (s1.trans g.gg) ⟨p,vs,rfl,SqT.of q0g,RepNs.move g.gg (fun _ _ _ z=>z) ws p1⟩
 ·exact h.elim
noncomputable def dRetNw(d:Den W):List S->SR:=fun e=>(d e).stm fun w e1=>.rt (.x (.new w)) e1
theorem q5f(he:DN Z X EE e d):DS Z X EE (.Return (some e) pos) (dRetNw d):=by
 refine PS.mono (q5o he) ?_;rintro D σ H ⟨G,e,rel,h⟩;exact⟨G,e,rel,(q2r h).imp (fun w e1 h G1 v1 H1 r1 s1 p1=>h G1 σ v1 H1 r1 s1 ⟨v1,rfl,p1⟩) fun _ _ h=>h⟩
noncomputable def dSetNw(i:Nat)(d:Den W):List S->SR:=fun e=>(d e).stm fun w e1=>.nx (e1.set i (.x (.new w)))
theorem x4t(i:Nat){pos':Pos}(hN:X.N.Nodup)(he:DN Z X EE e d)(hi:X.N[i]?=some x:=by rfl)(hx:Loc X.env.scope x:=by walk_at "3")(hs:swapsWith e (some (.Name x pos')) pos.line X.env=pure false:=by rfl)(hf:X.fn x=true\/X.env.scope.names.lookup x=some .local:=by walk_at "2"):
  DS Z X EE (.Assign [.Name x pos'] e pos) (dSetNw i d):=by
 refine PS.mono (q6n i hN he hi hx hs hf) ?_;rintro D σ H ⟨G,e,rel,h⟩;exact⟨G,e,rel,(q2r h).imp (fun w e1 h G1 v1 H1 r1 q1 p1=>h G1 _ H1 (r1.setS (s:=.x (.new w)) (fun _ _ z=>nomatch z) ⟨v1,rfl,p1⟩) q1) fun _ _ h=>h⟩
end
noncomputable def callNK(e:List S):FR->R W
 |.ok (.x (.new w))=>.ok w e
 |.ex c=>.ex c e
 |_=>.no
noncomputable def dCallN(F:List W->FR)(dA:Den (List W)):Den W:=fun e=>(dA e).bind fun ws e1=>callNK e1 (F ws)
noncomputable def lamNRes(e1:List S):FR->R W
 |.ok (.x (.new w))=>.ok w e1
 |.ex c=>.ex c e1
 |_=>.no
noncomputable def lamNK(F:List W->FR)(j:Nat)(l:Lm)(w:W)(e1:List S):Option (List W)->R W
 |some caps=>lamNRes e1 (F [w,.fn j l caps])
 |none=>.no
noncomputable def dLamN(F:List W->FR)(j:Nat)(l:Lm)(js:List Nat)(d:Den W):Den W:=fun e=>(d e).bind fun w e1=>lamNK F j l w e1 (capsOf js e1)
section
variable{e body:Expr}{params:Arguments}{d:Den W}{lpos:Pos}{k:Nat}{ps N nf:List Str}{js:List Nat}{sc scope:Scope}{F:List W->FR}
theorem q6c(C:Cal X.prog X.w X.K X.mg X.base k x ps (spF X.K F))(hr:Room k X.A)(hx:PassX (CX1 X.prog X.w) X EE)(ha:DA Z X EE (e::es) dA)(hg:Gl X x:=by rfl)
  (hdb:(x==("__debug__":Str))=false:=by decide)(he:starEach (e::es) X.env=(false,eval e X.env)::starEach es X.env:=by rfl)(hpl:(backTo pos (starEach es X.env)).any (·.1)=false:=by rfl):
  DN Z X EE (.Call (.Name x p) (e::es) [] pos) (dCallN F dA):=by
 refine PE.mono (q6x C hr hx ha hg hdb he hpl) ?_;rintro σ H Q ⟨G,e,rel,h⟩;simp only[dCallN,R.holds_bind]at h;refine⟨G,e,rel,h.imp (fun ws e1 h G1 vs H1 r1 s1 p1=>?_) fun _ _ h=>h⟩
 refine⟨G1,ws,r1.sub,by rw[w1p];exact p1,?_⟩;cases q:F ws with
 |ok s=>
  rw[q]at h;intro G' H' v g sl;cases s with
  |x k=>
   cases k with
   |new w=>
    obtain⟨u,h1,h2⟩:=sl;cases h1;exact h G' _ H' (r1.grow g) (s1.trans g.gg) (RepN.move (.refl _) (fun a _ _ z=>q5p r1 z) w h2)
   |_=>exact h.elim
  |_=>exact h.elim
 |ex c=>
  rw[q]at h;exact x7v r1 s1 h
 |no=>rw[q]at h;exact h.elim
theorem x8c(j:Nat)(l:Lm)(C:Cal X.prog X.w X.K X.mg X.base k x ps (spF X.K F))(hr:Room k X.A)(hx:PassX (CX1 X.prog X.w) X EE)(M:Maker X)(hfn:∀y,X.fn y=true)(he:DE Z X EE e d)(ok:compOk sc scope N nf js=true)
  (hl:l=⟨X.env.qual++"<lambda>", params,body,scope,nf⟩:=by rfl)(hdef:defaultsOf params X.env=([],[]):=by rfl)(hsc:X.env.scope=sc:=by rfl)(hN:X.N=N:=by rfl)(hg:Gl X x:=by rfl)
  (hdb:(x==("__debug__":Str))=false:=by decide)(hst:starEach [e,.Lambda params body scope lpos] X.env=(false,eval e X.env)::starEach [.Lambda params body scope lpos] X.env:=by rfl)
  (hst2:starEach [.Lambda params body scope lpos] X.env=(false,eval (.Lambda params body scope lpos) X.env)::starEach [] X.env:=by rfl)(hpl:(backTo pos (starEach [.Lambda params body scope lpos] X.env)).any (·.1)=false:=by rfl):
  DN Z X EE (.Call (.Name x p) [e,.Lambda params body scope lpos] [] pos) (dLamN F j l js d):=by
 obtain⟨fa,fd,FF,m,kp,bd⟩:=C.ex;unfold compOk at ok;simp only[w0t,w1c,beq_iff_eq,bne_iff_ne,w3k,w1i]at ok;obtain⟨⟨⟨⟨⟨⟨k1,k2⟩,k3⟩,k4⟩,k5⟩,k6⟩,k7⟩:=ok;have kind:∀x,X.env.kindOf x=sc.names.lookup x:=fun x=>by rw[<- hsc];rfl
 refine PE.mono (x7u (Nf:=nf) (js:=js) FF hr hg m kp bd hx M hfn he hdef (fun x hx hf=>?_) (fun i j y e1 e2=>?_) hdb hst hst2 hpl) ?_
 ·rw[kind];rcases k4 x hx with(z|z)|z
  ·exact absurd hf z
  ·exact .inl z
  ·exact .inr z
 ·have hlt:i<js.length:=(w0a.mp e2).1;have z:=k6 i hlt;rw[e1,e2]at z;obtain⟨z1,z2⟩:=k7 y (w1a e1);refine⟨by rw[hN];simpa using z,PySem.mem_of_lookup z1,?_,?_⟩
  ·rw[hsc];rcases z2 with z|z
   ·exact .inr (.inl z)
   ·exact .inr (.inr z)
  ·rw[kind];rcases z2 with z|z<;>(rw[z];decide)
 ·rintro σ H Q ⟨G,en,rel,h⟩;simp only[dLamN,R.holds_bind]at h;refine⟨G,en,rel,h.imp (fun w e1 h G1 v1 H1 r1 s1 p1 f clos H2 la=>?_) fun _ _ h=>h⟩
  obtain⟨hclos,Hm,pm,ctv,c',hH,hf,rfl⟩:=la
  have rm:Rel X.K Z G1 σ Hm e1:=by
   rcases hH with rfl|⟨c,oc,hc,rfl⟩
   ·exact r1
   ·exact r1.grow (Grow.hid r1.sub hc _)
  have gl:=Grow.laid rm.sub hf (fnO (kla_obj "<lambda>" (X.env.qual++"<lambda>") params body scope clos pm c' ctv) (X.env.qual++"<lambda>") c');have r2:=rm.grow gl;refine⟨clos,hclos,fun cs co=>?_⟩
  cases hcap:capsOf js e1 with
  |none=>rw[hcap]at h;exact h.elim
  |some caps=>
   rw[hcap]at h;obtain⟨zs,rz,zl,zv⟩:=x22 r1 hcap;have hn2:∀b o,cs.lookup b=some o->upd Hm f (fnO (kla_obj "<lambda>" (X.env.qual++"<lambda>") params body scope clos pm c' ctv) (X.env.qual++"<lambda>") c') b=none:=fun b o z=>(co.cel b o z).1
   have gn2:∀b o,cs.lookup b=some o->upd G1 f (fnO (kla_obj "<lambda>" (X.env.qual++"<lambda>") params body scope clos pm c' ctv) (X.env.qual++"<lambda>") c') b=none:=fun b o z=>by
    cases q:upd G1 f (fnO (kla_obj "<lambda>" (X.env.qual++"<lambda>") params body scope clos pm c' ctv) (X.env.qual++"<lambda>") c') b with
    |none=>rfl
    |some u=>have:=r2.sub b u q;rw[hn2 b o z]at this;cases this
   have sA:=gl.gg.trans (x4q gn2)
   have fout:cs.lookup f=none:=by
    cases q:cs.lookup f with
    |none=>rfl
    |some o=>have:=gn2 f o q;rw[q0g]at this;cases this
   have fc:FnCells (addC (upd G1 f (fnO (kla_obj "<lambda>" (X.env.qual++"<lambda>") params body scope clos pm c' ctv) (X.env.qual++"<lambda>") c')) cs) clos l zs cs:=by
    subst hl;refine⟨co.inj,co.has,co.all,fun c o z=>⟨q29 z,(co.cel c o z).2⟩,fun i y z g1 g2=>?_,by rw[zl];exact k5⟩
    have hi:i<js.length:=by rw[<- zl];exact(w0a.mp g2).1
    have g3:js[i]?=some js[i]:=w0b hi;exact co.val i y js[i] z g1 g3 (zv i _ z g3 g2)
   have rfn:Rep X.K (addC (upd G1 f (fnO (kla_obj "<lambda>" (X.env.qual++"<lambda>") params body scope clos pm c' ctv) (X.env.qual++"<lambda>") c')) cs) (.fn j l caps) (.ref f):=by
    refine⟨f,clos,zs,cs,rfl,⟨pm,c',ctv,?_⟩,fc,Reps.mono sA caps rz⟩;rw[q0u fout,q0g,hl]
   refine⟨_,[w,.fn j l caps],x21 r2.sub,⟨v1,[.ref f],rfl,Rep.mono sA w p1,⟨.ref f,[],rfl,rfn,rfl⟩⟩,?_⟩;cases q:F [w,.fn j l caps]with
   |ok s=>
    simp only[lamNK,q]at h;cases s with
    |x k=>
     cases k with
     |new w'=>
      intro G' H' v g sl;obtain⟨u,h1,h2⟩:=sl;cases h1;have g':=Grow.nocells g hn2 r2.sub;have ci:CelsIn G' cs:=fun b o z=>g.gg b _ (q29 z)
      refine h (rmC G' cs) v (rmC H' cs) (r2.grow g') (s1.trans (gl.gg.trans g'.gg)) (RepN.rm ci (fun c z=>q5p r2 ?_) w' h2)
      cases q3:cs.lookup c with
      |some o=>have z:addC _ cs c=none:=z;rw[q29 q3]at z;cases z
      |none=>have z:addC _ cs c=none:=z;rw[q0u q3]at z;exact z
     |_=>exact h.elim
    |_=>exact h.elim
   |ex c=>
    simp only[lamNK,q,lamNRes]at h;intro H' sh;refine x7v r2 (s1.trans gl.gg) h (rmC H' cs) fun b u z=>?_
    cases q2:cs.lookup b with
    |some o=>rw[hn2 b o q2]at z;cases z
    |none=>rw[q1x q2];exact sh b u (by rw[q0u q2];exact z)
   |no=>simp only[lamNK,q,lamNRes]at h;exact h.elim
end
section
variable(K:PySem.W.Frag)(Z:Zt)(EE:L2.St->XK)
def PostW(D:Ends):SR->Prop
 |.nx e'=>∀G' σ' H',Rel K Z G' σ' H' e'->D.nx σ' H'
 |.bk e'=>∀G' σ' H',Rel K Z G' σ' H' e'->D.bk σ' H'
 |.ct e'=>∀G' σ' H',Rel K Z G' σ' H' e'->D.ct σ' H'
 |.rt s e'=>∀G' σ' v H',Rel K Z G' σ' H' e'->SlotOk K Z G' H' s (some v)->D.rt v H'
 |.ex c e'=>∀G' σ' H',Rel K Z G' σ' H' e'->EE σ' c none H'
 |.no=>False
def liftW(d:List S->SR):TS:=fun D σ H=>AtG K Z σ H fun G e=>PostW K Z EE D (d e)
end
def DSsW(Z:Zt)(X:Cx)(EE:L2.St->XK)(sts:List Stmt)(d:List S->SR):Prop:=PSs X sts (liftW X.K Z EE d)
section
variable{st:Stmt}{rest:List Stmt}{s1 s2:List S->SR}
theorem PostW.post{D:Ends}{r:SR}(h:PostW K Z EE D r):PostS K Z EE D G r:=by
 cases r with
 |nx e=>exact fun G' σ' H' r _=>h G' σ' H' r
 |bk e=>exact fun G' σ' H' r _=>h G' σ' H' r
 |ct e=>exact fun G' σ' H' r _=>h G' σ' H' r
 |rt s e=>exact fun G' σ' v H' r _ q=>h G' σ' v H' r q
 |ex c e=>exact fun G' σ' H' r _=>h G' σ' H' r
 |no=>exact h
theorem y2s(h1:DS Z X EE st s1):DSsW Z X EE [st] s1:=PSs.mono (q36 h1) fun D σ H ⟨G,e,r,h⟩=>⟨G,e,r,h.post⟩
theorem q46(h1:DS Z X EE st s1)(h2:DSsW Z X EE rest s2):DSsW Z X EE (st::rest) (dSeq s1 s2):=by
 refine PSs.mono (q1w h1 h2) ?_;rintro D σ H ⟨G,e,rel,h⟩;refine⟨G,e,rel,?_⟩;unfold dSeq at h;cases q:s1 e with
 |nx e'=>rw[q]at h;exact fun G' σ' H' r s=>⟨G',e',r,h⟩
 |bk e'=>rw[q]at h;exact h.post
 |ct e'=>rw[q]at h;exact h.post
 |rt w e'=>rw[q]at h;exact h.post
 |ex c e'=>rw[q]at h;exact h.post
 |no=>rw[q]at h;exact h
noncomputable def toOld:S->S
 |.fr w=>.x (.old w)
 |.thr us ws vs=>.x (.thro us ws vs)
 |_=>.no
noncomputable def baseR:SR->SR
 |.rt (.fr w) e'=>.rt (.fr w) (e'.map fun _=>.no)
 |_=>.no
noncomputable def dBase(d:List S->SR):List S->SR:=fun e=>baseR (d (e.map toOld))
noncomputable def baseZ(Z:Zt)(G:Hp):Zt:=⟨fun a=>match G a with|some o=>some o|none=>Z.H a,G,[]⟩
theorem x8d(h1:G a=none)(h2:Z.H a=none):(baseZ Z G).H a=none:=by
 show(match G a with|some o=>some o|none=>Z.H a)=none;rw[h1];exact h2
theorem Rel.base(r:Rel K Z G σ H e)(hio:Z.io=[]):Rel K (baseZ Z G) G σ H (e.map toOld):=by
 refine⟨r.sub,fun i s h=>?_,by rw[w0d];exact r.len,fun i j b b' ws ws' a h1 _ _ _=>?_,fun a o h _=>?_,(fun a h=>nomatch h),fun a _=>rfl⟩
 ·rw[w0f]at h;obtain⟨s0,h0,rfl⟩:=w0c.mp h;have q:=r.slot i s0 h0;cases s0 with
  |fr w=>obtain⟨u,q1,q2⟩:=q;exact⟨u,q1,q2,q2⟩
  |thr us ws vs=>
   obtain⟨t,l,o,xs,ys,zs,h1,h2,h3,h4,h5,h6⟩:=q;exact⟨t,l,o,xs,ys,zs,h1,h2,h2,⟨h3,h4,x8d h4 h5⟩,h6,h6⟩
  |_=>trivial
 ·rw[w0f]at h1;obtain⟨s0,_,h2⟩:=w0c.mp h1;cases s0<;>cases h2
 ·have h:(match G a with|some o=>some o|none=>Z.H a)=some o:=h;cases q:G a with
  |some u=>rw[q]at h;cases h;exact r.sub _ _ q
  |none=>rw[q]at h;exact r.ent a o h (by rw[hio];exact fun z=>nomatch z)
theorem Rel.unbase(r':Rel K (baseZ Z G) G' σ' H' e')(r:Rel K Z G σ H e)(hio:Z.io=[]):Rel K Z G' σ' H' (e'.map fun _=>.no):=by
 have hb:∀a o,Z.H a=some o->(baseZ Z G).H a=some o:=fun a o h=>by
  show(match G a with|some o=>some o|none=>Z.H a)=some o;cases q:G a with
  |none=>exact h
  |some u=>
   have h1:=r.sub _ _ q;rw[r.ent a o h (by rw[hio];exact fun z=>nomatch z)]at h1
   exact h1.symm
 refine⟨r'.sub,fun i s h=>?_,by rw[w0d];exact r'.len,fun i j b b' ws ws' a h1 _ _ _=>?_,fun a o h _=>r'.ent a o (hb a o h) (fun z=>nomatch z),fun a h=>(by rw[hio]at h;cases h),fun a h=>?_⟩
 ·rw[w0f]at h;obtain⟨s0,h0,rfl⟩:=w0c.mp h;trivial
 ·rw[w0f]at h1;obtain⟨s0,_,h2⟩:=w0c.mp h1;cases h2
 ·rw[<- r.gen a h];refine r'.gen a ?_;cases q:Z.H a with
  |none=>exact absurd q h
  |some o=>rw[hb a o q];exact fun z=>nomatch z
theorem y2t(hz:Z.H=X.H₀)(hio:Z.io=[])(h:∀Z',(∀a,Z'.H a=none->X.H₀ a=none)->Same Z'.G Z'.H->Z'.io=[]->DSsW Z' X EE ss d):DSs Z X EE ss (dBase d):=by
 intro pins s σ H D I hq;obtain⟨G,e,rel,hp⟩:=hq
 have hs:Same G (baseZ Z G).H:=fun a o z=>by
  show(match G a with|some o=>some o|none=>Z.H a)=some o;rw[z]
 refine h (baseZ Z G) (fun a z=>?_) hs rfl pins s σ H D I ⟨G,e.map toOld,rel.base hio,?_⟩
 ·have z:(match G a with|some o=>some o|none=>Z.H a)=none:=z;rw[<- hz];cases q:G a with
  |some u=>rw[q]at z;cases z
  |none=>rw[q]at z;exact z
 ·unfold dBase baseR at hp;split at hp
  ·rename_i w e' q;rw[q];intro G' σ' v H' r' sl;refine hp G' σ' v H' (r'.unbase rel hio) (fun a o z=>?_) sl
   rw[r'.gen a (by rw[hs a o z];exact fun z=>nomatch z)];exact z
  ·exact hp.elim
noncomputable def rew:S->S
 |.x (.old w)=>.x (.old w)
 |.x (.thro us ws vs)=>.x (.thro us ws vs)
 |.fr w=>if scalW w=true then .fr w else .no
 |_=>.no
theorem Rel.rew{H3:Hp}(r:Rel K Z G σ H e)(hG:Same Z.G Z.H)(hio:Z.io=[])(h1:∀c u,Z.H c=some u->H3 c=some u)(h2:∀c o ys,H c=some (.frz o (.lst ys))->H3 c=some (.frz o (.lst ys))):Rel K Z Z.G σ H3 (e.map rew):=by
 refine⟨fun a o z=>h1 _ _ (hG _ _ z),fun i s h=>?_,by rw[w0d];exact r.len,fun i j b b' ws ws' a h1 _ _ _=>?_,fun a o h _=>h1 _ _ h,fun a h=>(by rw[hio]at h;cases h),fun a _=>rfl⟩
 ·rw[w0f]at h;obtain⟨s0,h0,rfl⟩:=w0c.mp h;have q:=r.slot i s0 h0;cases s0 with
  |fr w=>
   show SlotOk K Z Z.G H3 (if scalW w=true then .fr w else .no) _;split
   ·rename_i hs;obtain⟨u,q1,q2⟩:=q;exact⟨u,q1,x4l hs q2⟩
   ·trivial
  |x k=>
   cases k with
   |old w=>obtain⟨u,q1,q2,_⟩:=q;exact⟨u,q1,q2,q2⟩
   |thro us ws vs=>
    obtain⟨t,l,o,xs,ys,zs,k1,k2,k3,⟨k4,k5,k6⟩,k7,_⟩:=q;exact⟨t,l,o,xs,ys,zs,k1,k2,k2,⟨h2 _ _ _ k4,hG.free k6,k6⟩,k7,k7⟩
   |_=>trivial
  |_=>trivial
 ·rw[w0f]at h1;obtain⟨s0,_,h2⟩:=w0c.mp h1;cases s0 with
  |fr w=>
   have h2:(if scalW w=true then S.fr w else .no)=.own b ws:=h2;split at h2<;>cases h2
  |x k=>cases k<;>cases h2
  |_=>cases h2
end
section
variable{u v:W}{vs:List W}{j k:Nat}{d:Den W}{F:List W->FR}{l:Lm}{js:List Nat}{c:Value}{ds:List S->SR}
theorem y2u:flatWs []=true:=rfl
theorem y6q:dFlat d e=(d e).bind fun w e1=>if flatW w=true then .ok w e1 else .no:=rfl
theorem z0o:flatW (.int n)=true:=rfl
theorem y6r:nVarK e (some (.x (.new w)))=.ok w e:=rfl
theorem y6s:dNOwn i e=nOwnK i e e[i]?:=rfl
theorem y6t:nOwnK i e (some (.own none ws))=if flatWs ws=true then .ok (.lst ws) (e.set i .no)else .no:=rfl
theorem y2v:dRetNw d e=(d e).stm fun w e1=>.rt (.x (.new w)) e1:=rfl
theorem y2w:dSetNw i d e=(d e).stm fun w e1=>.nx (e1.set i (.x (.new w))):=rfl
theorem y2x:dCallN F dA e=(dA e).bind fun ws e1=>callNK e1 (F ws):=rfl
theorem y2y:callNK e (.ok (.x (.new w)))=.ok w e:=rfl
theorem y0f:callNK e (.ex c)=.ex c e:=rfl
theorem y6u:dLamN F j l js d e=(d e).bind fun w e1=>lamNK F j l w e1 (capsOf js e1):=rfl
theorem x8e:lamNK F j l w e (some caps)=lamNRes e (F [w,.fn j l caps]):=rfl
theorem y0g:lamNRes e (.ok (.x (.new w)))=.ok w e:=rfl
theorem y6v:dBase ds e=baseR (ds (e.map toOld)):=rfl
theorem y2z:baseR (.rt (.fr w) e')=.rt (.fr w) (e'.map fun _=>.no):=rfl
theorem z0p:toOld (.fr w)=.x (.old w):=rfl
theorem y6w:toOld (.thr us ws vs)=.x (.thro us ws vs):=rfl
theorem z0q:toOld .no=.no:=rfl
theorem y20:hide1 (.x (.old w))=.fr w:=rfl
theorem y21:hide1 (.x (.new w))=.fr w:=rfl
theorem y22:hide1 (.x (.acc ws))=.fr (.lst ws):=rfl
theorem y0h:hide1 (.x (.thro us ws vs))=.fr (.tup (us++.lst ws::vs)):=rfl
theorem y6x:rew (.x (.old w))=.x (.old w):=rfl
theorem y23:rew (.x (.thro us ws vs))=.x (.thro us ws vs):=rfl
theorem y6y:rew (.x (.new w))=.no:=rfl
theorem y6z:rew (.fr (.int n))=.fr (.int n):=rfl
theorem y60:rew (.fr (.str x))=.fr (.str x):=rfl
theorem y61:rew (.fr (.lst ws))=.no:=rfl
theorem z0r:rew .no=.no:=rfl
end
open PySem L2
section
variable{e:Expr}
noncomputable def dNF(d:Den (List W)):Den W:=fun e=>(d e).bind fun ws e1=>if flatWs ws=true then .ok (.lst ws) e1 else .no
theorem y4a(he:DF Z X EE e dF):DN Z X EE e (dNF dF):=by
 refine PE.mono he ?_;rintro σ H Q ⟨G,e,rel,h⟩;refine⟨G,e,rel,(R.holds_bind.mp h).imp (fun ws e1 h G1 a xs H1 r1 s1 q1 q2 q3 q4 p1=>?_) fun _ _ h=>h⟩
 split at h
 ·rename_i hf;obtain⟨sg,rg⟩:=r1.seen q1 q2 q3 q4;exact h _ (.ref a) H1 rg (s1.trans sg) ⟨a,xs,rfl,q0g,q3,q3w ws hf (Reps.mono sg ws p1)⟩
 ·exact h.elim
theorem z3b{e:List S}:dNF dF e=(dF e).bind fun ws e1=>if flatWs ws=true then .ok (.lst ws) e1 else .no:=rfl
end
open Classical
noncomputable def lkG(kv:List (κ×Int))(k:κ):Option Int:=(kv.find? fun p=>decide (p.1=k)).map (·.2)
noncomputable def vG(kv:List (κ×Int)):List (κ×V):=kv.map fun p=>(p.1,V.int p.2)
theorem x06 [DecidableEq κ](kv:List (κ×Int))(k:κ):valV (vG kv) k=(lkG kv k).map V.int:=by
 unfold valV vG lkG;rw[List.find?_map,Option.map_map,Option.map_map];congr 1;congr 1;funext p
 simp only[Function.comp]
 by_cases h:p.1=k
 ·rw[decide_eq_true h];exact(@decide_eq_true _ (_) h).symm
 ·rw[decide_eq_false h];exact(@decide_eq_false _ (_) h).symm
theorem y0i(kv:List (κ×Int)):(vG kv).length=kv.length:=w0d ..
inductive DD where
 |t (sh:Sh) (kv:List (Kx×Int))
 |k (kv:List (Key×Int))
variable{dd:DD}
noncomputable def DD.size:DD->Nat
 |.t _ kv=>kv.length
 |.k kv=>kv.length
noncomputable def DD.look:DD->W->Option (Option Int)
 |.t sh kv,w=>match keyT w with
  |some x=>if fits x sh then some (lkG kv x)else none
  |none=>none
 |.k kv,.int i=>some (lkG kv (.inl i))
 |.k _,_=>none
noncomputable def DD.put:DD->W->Int->DD
 |.t sh kv,w,n=>match keyT w with
  |some x=>.t sh (kv++[(x,n)])
  |none=>.t sh kv
 |.k kv,.int i,n=>.k (kv++[(.inl i,n)])
 |.k kv,_,_=>.k kv
noncomputable def ddO:DD->List Addr->HO
 |.t sh kv,ka=>.dT sh (vG kv) ka
 |.k kv,_=>.dK (vG kv)
theorem x12{kv:List (κ×Int)}{k:κ}(h:lkG kv k=none):lkG (kv++[(k,n)]) k=some n:=by
 unfold lkG at h |-
 rw[List.find?_append];cases q:kv.find? (fun p=>decide (p.1=k))with
 |none=>simp
 |some p=>rw[q]at h;cases h
theorem x3u{sh:Sh}{kv:List (Kx×Int)}{x:Kx}(q:keyT w=some x):(DD.t sh kv).put w n=.t sh (kv++[(x,n)]):=by
 show(match keyT w with|some x=>DD.t sh (kv++[(x,n)])|none=>.t sh kv)=_;rw[q]
theorem q8k{sh:Sh}{kv:List (Kx×Int)}{x:Kx}(q:keyT w=some x)(hf:fits x sh):(DD.t sh kv).look w=some (lkG kv x):=by
 show(match keyT w with|some x=>if fits x sh then some (lkG kv x)else none|none=>none)=_;rw[q];exact if_pos hf
theorem q9l(h:dd.look w=some none):(dd.put w n).look w=some (some n):=by
 cases dd with
 |t sh kv=>
  unfold DD.look at h;dsimp only at h;cases q:keyT w with
  |none=>rw[q]at h;cases h
  |some x=>
   rw[q]at h;dsimp only at h;split at h
   ·rename_i hf;have h:lkG kv x=none:=Option.some.inj h;rw[x3u q];unfold DD.look;dsimp only;rw[q];dsimp only;rw[if_pos hf,x12 h]
   ·cases h
 |k kv=>
  cases w with
  |int i=>
   have h:lkG kv (.inl i)=none:=Option.some.inj h;show some (lkG (kv++[(Sum.inl i,n)]) (.inl i))=_;rw[x12 h]
  |_=>cases h
theorem y0j:ddO dd ka≠.lst xs:=by
 cases dd<;>exact fun z=>nomatch z
theorem q8l(hK:NoTup K)(sg:Same G H){d:Addr}{o:Option Int}(hd:H d=some (ddO dd ka))(r:Rep K G w v)(h:dd.look w=some o):DGet H d v (o.map V.int):=by
 cases dd with
 |t sh kv=>
  unfold DD.look at h;dsimp only at h;cases q:keyT w with
  |none=>rw[q]at h;cases h
  |some x=>
   rw[q]at h;dsimp only at h;split at h
   ·rename_i hf;cases h;obtain⟨b,rfl,kr⟩:=x4p hK sg q r;rw[<- x06];exact DGet.t (.inl hd) ⟨kr,hf⟩
   ·cases h
 |k kv=>
  cases w with
  |int i=>
   cases h;cases(show v=V.int i from r);rw[<- x06];exact .inl ⟨_,.inl i,.inl hd,rfl,rfl⟩
  |_=>cases h
theorem x4u(hK:NoTup K)(sg:Same G H){d:Addr}(hd:H d=some (ddO dd ka))(r:Rep K G w v)(h:dd.look w=some none)(hl:dd.size<16777216):∃ka',DPut H d v (.int n) (upd H d (ddO (dd.put w n) ka')):=by
 cases dd with
 |t sh kv=>
  unfold DD.look at h;dsimp only at h;cases q:keyT w with
  |none=>rw[q]at h;cases h
  |some x=>
   rw[q]at h;dsimp only at h;split at h
   ·rename_i hf;have h:lkG kv x=none:=Option.some.inj h;obtain⟨b,rfl,kr⟩:=x4p hK sg q r;have hn:valV (vG kv) x=none:=by rw[x06,h];rfl
    have z:=DPut.t (v:=V.int n) (show H d=some (.dT sh (vG kv) ka)from hd) ⟨kr,hf⟩ (by rw[y0i,sizeLine_eq];exact hl);rw[x4m (V.int n) hn]at z;refine⟨putAd (vG kv) ka x b,?_⟩;rw[x3u q];unfold ddO;dsimp only;unfold vG at z |-
    rw[w0n];exact z
   ·cases h
 |k kv=>
  cases w with
  |int i=>
   have h:lkG kv (.inl i)=none:=Option.some.inj h;cases(show v=V.int i from r);have hn:valV (vG kv) (Sum.inl i)=none:=by rw[x06,h];rfl
   have z:=DPut.k (k:=.inl i) (v:=V.int n) (show H d=some (.dK (vG kv))from hd) (by rw[y0i,sizeLine_eq];exact hl);rw[x4m (V.int n) hn]at z;refine⟨[],?_⟩;show DPut H d (.int i) (.int n) (upd H d (.dK (vG (kv++[(Sum.inl i,n)]))));unfold vG at z |-
   rw[w0n];exact z
  |_=>cases h
structure NSt where
 nodes:List W
 num:List (Kx×Int)
 seen:DD
variable{st:NSt}{M:W->W->NSt->Option (Int×NSt)}
noncomputable def shN:Sh:=.tup [.int,.int,.int]
noncomputable def nkey(pl lo hi:Int):Kx:=.tup [.int pl,.int lo,.int hi]
noncomputable def nW(pl lo hi:Int):W:=.tup [.int pl,.int lo,.int hi]
inductive N2(K:PySem.W.Frag)(G H:Hp)(p d1:Addr)(ns:List W)(kv:List (Kx×Int)):Prop where
 |mk (xs:List V) (ka:List Addr) (sg:Same G H) (hp:H p=some (.lst xs)) (gp:G p=none) (rp:Reps K G ns xs) (h1:H d1=some (.dT shN (vG kv) ka)) (g1:G d1=none):N2 K G H p d1 ns kv
inductive N3(K:PySem.W.Frag)(G H:Hp)(p d1 d2:Addr)(st:NSt):Prop where
 |mk (q:N2 K G H p d1 st.nodes st.num) (ka:List Addr) (h2:H d2=some (ddO st.seen ka)) (g2:G d2=none) (ne:d1≠d2):N3 K G H p d1 d2 st
structure NOk(G H G' H':Hp)(L:List Addr):Prop where
 ent:∀a o,H a=some o->a∉L->H' a=some o
 gg:Same G G'
 new:∀a,H a≠none->G' a=G a
 dom:∀a,H a≠none->H' a≠none
theorem NOk.refl:NOk G H G H L:=⟨fun _ _ h _=>h,.refl _,fun _ _=>rfl,fun _ h=>h⟩
theorem NOk.trans{G1 H1 G2 H2:Hp}{L':List Addr}(x:NOk G H G1 H1 L)(y:NOk G1 H1 G2 H2 L')(hs:∀a∈L',a∈L):NOk G H G2 H2 L:=
 ⟨fun a o h n=>y.ent a o (x.ent a o h n) fun z=>n (hs a z),x.gg.trans y.gg,fun a h=>(y.new a (x.dom a h)).trans (x.new a h),fun a h=>y.dom a (x.dom a h)⟩
theorem NOk.grow{L:List Addr}(g:Grow G H G' H'):NOk G H G' H' L:=⟨fun a o h _=>g.hh a o h,g.gg,g.new,fun a h z=>by
 cases q:H a with
 |none=>exact h q
 |some o=>rw[g.hh a o q]at z;cases z⟩
theorem NOk.upd{u:HO}{L:List Addr}(ha:a∈L)(hg:G a=none):NOk G H G (upd H a u) L:=⟨fun b o h n=>by
 rw[q0d (fun z=>by subst z;exact n ha)];exact h,.refl _,fun _ _=>rfl,fun b h=>by
 by_cases e:b=a
 ·subst e;rw[q0g];exact fun z=>nomatch z
 ·rw[q0d e];exact h⟩
theorem x3v(pl lo hi:Int):keyT (nW pl lo hi)=some (nkey pl lo hi):=rfl
theorem x4v(pl lo hi:Int):fits (nkey pl lo hi) shN:=⟨⟨trivial,trivial,trivial,trivial⟩,by simp[nkey,Kx.depth,Kx.depths]⟩
noncomputable def nnF(pl lo hi:Int)(ns:List W)(kv:List (Kx×Int)):Option (Int×List W×List (Kx×Int)):=
 if lo=hi then some (lo,ns,kv)else match lkG kv (nkey pl lo hi)with
  |some r=>some (r,ns,kv)
  |none=>if ns.length<16777215/\kv.length<16777216 then some ((ns.length:Int)+2,ns++[nW pl lo hi],kv++[(nkey pl lo hi,(ns.length:Int)+2)])else none
noncomputable def spNN(K:PySem.W.Frag):Sp:=fun vs H Q _=>∃G p d1 ns kv pl lo hi vn r ns' kv',vs=[vn,.ref p,.ref d1]/\Rep K G (nW pl lo hi) vn/\N2 K G H p d1 ns kv/\nnF pl lo hi ns kv=some (r,ns',kv') /\
 ∀G' H',NOk G H G' H' [p,d1]->N2 K G' H' p d1 ns' kv'->Q (.int r) H'
noncomputable def spNNp(K:PySem.W.Frag)(p:Prop):Sp:=fun vs H Q E=>p/\spNN K vs H Q E
def tNN(K:PySem.W.Frag):TS:=
 tSeq (tIfS (tTest (tOp rEq (tOp (rIxT K) (tVar 0) (tC (.int 1))) (tOp (rIxT K) (tVar 0) (tC (.int 2))))) (tRet (tOp (rIxT K) (tVar 0) (tC (.int 1)))) tNext)
  (tSeq (tIfS (tB (tDNotIn (tVar 0) (tVar 2))) (tSeq (tDrop (tBM K "list" rAppend (tVar 1) (tCons (tVar 0) tNil))) (sDPut (tVar 2) (tVar 0) (tOp (rI0 fun i j=>V.int (i+j)) (tCB (fun xs H Q=>∃x n,xs=[x]/\LenV K x H n/\Q (.int (n:Nat)) H) (tCons (tVar 1) tNil)) (tC (.int 1))))) tNext)
   (tRet (tDGet (tVar 2) (tVar 0))))
theorem nn_ok(hK:NoTup K){Q:VK}(h:spNN K vs H Q E)(N:List Str)(hN:N.length=3):tNN K {nx:=fun _ H'=>Q .non H',rt:=Q} (L2.start N vs) H:=by
 obtain⟨G,p,d1,ns,kv,pl,lo,hi,vn,r,ns',kv',rfl,rn,n2,hF,q⟩:=h;have hst:L2.start N [vn,.ref p,.ref d1]=[some vn,some (.ref p),some (.ref d1)]:=by unfold L2.start;rw[hN];rfl
 rw[hst];obtain⟨xs,ka,sg,hp,gp,rp,h1,g1⟩:=n2;have rn':=rn;obtain⟨t,us,rfl,ht,ru⟩:=rn;obtain⟨u0,_,rfl,e0,u1,_,rfl,e1,u2,_,rfl,e2,rfl⟩:=ru;cases(show u0=V.int pl from e0);cases(show u1=V.int lo from e1);cases(show u2=V.int hi from e2);have hT:SqT K H t [.int pl,.int lo,.int hi]:=sg.tup ht;refine⟨.ref t,rfl,t,_,1,.int lo,rfl,rfl,hT,rfl,.ref t,rfl,t,_,2,.int hi,rfl,rfl,hT,rfl,rfl,decide (V.int lo=V.int hi),rfl,?_⟩;unfold nnF at hF
 by_cases hlh:lo=hi
 ·rw[if_pos hlh]at hF;cases hF;rw[if_pos (by rw[hlh];exact decide_eq_true rfl)];exact⟨.ref t,rfl,t,_,1,.int lo,rfl,rfl,hT,rfl,q G H .refl ⟨xs,ka,sg,hp,gp,rp,h1,g1⟩⟩
 ·rw[if_neg hlh]at hF;rw[if_neg (by rw[decide_eq_true_eq];intro z;injection z with z;exact hlh z)];have dg:DGet H d1 (.ref t) ((lkG kv (nkey pl lo hi)).map V.int):=q8l hK sg (dd:=.t shN kv) (ka:=ka) h1 rn' (q8k (x3v pl lo hi) (x4v pl lo hi));refine⟨.ref t,rfl,.ref d1,rfl,d1,_,rfl,dg,_,rfl,?_⟩;cases hl:lkG kv (nkey pl lo hi)with
  |some v=>
   rw[hl]at hF dg;cases hF;rw[if_neg (by simp)];exact⟨.ref d1,rfl,.ref t,rfl,d1,.int r,rfl,dg,q G H .refl ⟨xs,ka,sg,hp,gp,rp,h1,g1⟩⟩
  |none=>
   rw[hl]at hF;dsimp only at hF;split at hF
   ·rename_i hb;cases hF;rw[if_pos (by simp)];have hlen:=rp.length;have npd:p≠d1:=q06 hp h1 fun z=>nomatch z
    refine⟨.ref p,rfl,.inl ⟨rfl,xs,SqL.of hp⟩,.ref t,rfl,p,xs,.ref t,rfl,rfl,hp,by rw[sizeLine_eq];omega,?_⟩;have hp1:upd H p (.lst (xs++[.ref t])) p=some (.lst (xs++[.ref t])):=q0g;have hd1:upd H p (.lst (xs++[.ref t])) d1=some (.dT shN (vG kv) ka):=by rw[q0d (fun z=>npd z.symm)];exact h1
    have sg1:Same G (upd H p (.lst (xs++[.ref t]))):=fun a o z=>by rw[q0d (q0q z gp)];exact sg a o z
    refine⟨.ref p,rfl,.ref p,(xs++[V.ref t]).length,rfl,.inl ⟨_,SqL.of hp1,rfl⟩,(xs++[V.ref t]).length,1,rfl,rfl,.ref d1,rfl,.ref t,rfl,?_⟩;obtain⟨ka',dp⟩:=x4u hK sg1 (dd:=.t shN kv) (ka:=ka) (n:=(ns.length:Int)+2) hd1 rn' (by rw[q8k (x3v pl lo hi) (x4v pl lo hi),hl]) hb.2;rw[x3u (x3v pl lo hi)]at dp;have en:(((xs++[V.ref t]).length:Nat):Int)+1=(ns.length:Int)+2:=by rw[w0h,w2e];omega
    rw[<- en]at dp;refine⟨d1,_,rfl,dp,.ref d1,rfl,.ref t,rfl,d1,.int ((ns.length:Int)+2),rfl,?_,?_⟩<;>rw[en]
    ·have sg2:Same G (upd (upd H p (.lst (xs++[.ref t]))) d1 (ddO (.t shN (kv++[(nkey pl lo hi,(ns.length:Int)+2)])) ka')):=fun a o z=>by rw[q0d (q0q z g1)];exact sg1 a o z
     have:=q8l hK sg2 (dd:=.t shN (kv++[(nkey pl lo hi,(ns.length:Int)+2)])) (ka:=ka') (d:=d1) q0g rn' (q8k (x3v pl lo hi) (x4v pl lo hi));rw[x12 hl]at this;exact this
    ·refine q G _ ((NOk.upd (by simp) gp).trans (NOk.upd (L:=[p,d1]) (by simp) g1) fun _ z=>z) ⟨xs++[.ref t],ka',fun a o z=>?_,?_,gp,rp.append (.one rn'),q0g,g1⟩
     ·rw[q0d (q0q z g1)];exact sg1 a o z
     ·rw[q0d npd];exact hp1
   ·cases hF
noncomputable def askF(r:Nat->List W->FR)(i:Nat)(caps:List W)(t:W):Option W:=match noFn t,r i (t::caps)with
 |true,.ok (.fr w)=>some w
 |_,_=>none
theorem y0k{r:Nat->List W->FR}{t:W}(h:askF r i caps t=some w):noFn t=true/\r i (t::caps)=.ok (.fr w):=by
 unfold askF at h;split at h
 ·rename_i h1 h2;cases h;exact⟨h1,h2⟩
 ·cases h
noncomputable def bI(b:Bool):Int:=if b=true then 1 else 0
noncomputable def nfS(A:W->Option W)(N:W->NSt->Option (Int×NSt))(t:W)(st:NSt):Option (Int×NSt):=match st.seen.look t with
  |none=>none
  |some (some v)=>some (v,st)
  |some none=>match A t with
   |some (.bl b)=>if st.seen.size<16777216 then some (bI b,{st with seen:=st.seen.put t (bI b)})else none
   |some (.tup [.int pl,lo,hi])=>match N lo st with
    |none=>none
    |some (v1,st1)=>match N hi st1 with
     |none=>none
     |some (v2,st2)=>match nnF pl v1 v2 st2.nodes st2.num with
      |none=>none
      |some (v,ns,kv)=>if st2.seen.look t=some none/\st2.seen.size<16777216 then some (v,⟨ns,kv,st2.seen.put t v⟩)else none
   |_=>none
noncomputable def spNF(K:PySem.W.Frag)(lams:Nat->Option Lm)(N:W->W->NSt->Option (Int×NSt)):Sp:=fun vs H Q _=>∃G p d1 d2 st t vt va i l caps v st',vs=[vt,va,.ref p,.ref d1,.ref d2]/\Rep K G t vt/\Rep K G (.fn i l caps) va/\noFns caps=true/\lams i=some l /\
 N3 K G H p d1 d2 st/\N (.fn i l caps) t st=some (v,st')/\∀G' H',NOk G H G' H' [p,d1,d2]->N3 K G' H' p d1 d2 st'->Q (.int v) H'
def tNF(K:PySem.W.Frag)(spA:V->List V->Hp->VK->XK->Prop)(spF' spN':Sp)(E:XK):TS:=
 tSeq (tIfS (tB (tDNotIn (tVar 0) (tVar 4)))
   (tSeq (tAsg (tCallV spA (fun _=>E) (tVar 1) (tCons (tVar 0) tNil)) (gName 5))
    (tIfS (tOr (tTest (tOp rIs (tVar 5) (tC (V.bl true)))) (tTest (tOp rIs (tVar 5) (tC (V.bl false)))))
     (sDPut (tVar 4) (tVar 0) (tIf (fun σ H Q=>tVar 5 σ H fun x H'=>∃k,TruV K x H' k/\Q k H') (tC (V.int 1)) (tC (V.int 0))))
     (tSeq (tAsg (tCallX spF' [] (fun _=>E) (tCons (tOp (rIxT K) (tVar 5) (tC (V.int 1))) (tCons (tVar 1) (tCons (tVar 2) (tCons (tVar 3) (tCons (tVar 4) tNil)))))) (gName 6))
      (tSeq (tAsg (tCallX spF' [] (fun _=>E) (tCons (tOp (rIxT K) (tVar 5) (tC (V.int 2))) (tCons (tVar 1) (tCons (tVar 2) (tCons (tVar 3) (tCons (tVar 4) tNil)))))) (gName 7))
       (sDPut (tVar 4) (tVar 0) (tCallX spN' [] (fun _=>E) (tCons (tTup (tCons (tOp (rIxT K) (tVar 5) (tC (V.int 0))) (tCons (tVar 6) (tCons (tVar 7) tNil)))) (tCons (tVar 2) (tCons (tVar 3) tNil)))))))))
   tNext)
  (tRet (tDGet (tVar 4) (tVar 0)))
theorem N2.grow{p d1:Addr}{ns:List W}{kv:List (Kx×Int)}(n:N2 K G H p d1 ns kv)(g:Grow G H G' H'):N2 K G' H' p d1 ns kv:=by
 obtain⟨xs,ka,sg,hp,gp,rp,h1,g1⟩:=n;exact⟨xs,ka,g.sub,g.hh _ _ hp,by rw[g.new p (by rw[hp];simp)];exact gp,Reps.mono g.gg ns rp,g.hh _ _ h1,by rw[g.new d1 (by rw[h1];simp)];exact g1⟩
theorem N3.grow{p d1 d2:Addr}(n:N3 K G H p d1 d2 st)(g:Grow G H G' H'):N3 K G' H' p d1 d2 st:=by
 obtain⟨q,ka,h2,g2,ne⟩:=n;exact⟨q.grow g,ka,g.hh _ _ h2,by rw[g.new d2 (by rw[h2];simp)];exact g2,ne⟩
theorem N3.put{p d1 d2:Addr}{st:NSt}(n:N3 K G H p d1 d2 st):N3 K G (upd H d2 (ddO dd ka)) p d1 d2 {st with seen:=dd}:=by
 obtain⟨⟨xs,ka1,sg,hp,gp,rp,h1,g1⟩,ka2,h2,g2,ne⟩:=n;refine⟨⟨xs,ka1,fun a o z=>by rw[q0d (q0q z g2)];exact sg a o z,?_,gp,rp,?_,g1⟩,ka,q0g,g2,ne⟩
 ·rw[q0d (q06 hp h2 fun z=>y0j z.symm)];exact hp
 ·rw[q0d ne];exact h1
theorem nf_ok(hK:NoTup K){lams:Nat->Option Lm}{r:Nat->List W->FR}{M':W->W->NSt->Option (Int×NSt)}{Q:VK}(h:spNF K lams M' vs H Q E)
  (hM:∀i l caps t st v st',M' (.fn i l caps) t st=some (v,st')->nfS (askF r i caps) (M (.fn i l caps)) t st=some (v,st')){pp:Prop}(hpp:∀f t st x,M f t st=some x->pp)(N:List Str)(hN:N.length=8):
  tNF K (spV K lams r) (spNF K lams M) (spNNp K pp) E {nx:=fun _ H'=>Q .non H',rt:=Q} (L2.start N vs) H:=by
 obtain⟨G,p,d1,d2,st,t,vt,va,i,l,caps,v,st',rfl,rt,rf,hcaps,hl,n3,hF,q⟩:=h
 replace hF:=hM _ _ _ _ _ _ _ hF
 have hst:L2.start N [vt,va,.ref p,.ref d1,.ref d2]=[some vt,some va,some (.ref p),some (.ref d1),some (.ref d2),none,none,none]:=by unfold L2.start;rw[hN];rfl
 rw[hst];have n3':=n3;obtain⟨⟨xs,ka1,sg,hp,gp,rp,h1,g1⟩,ka,h2,g2,ne⟩:=n3';unfold nfS at hF;cases hlk:st.seen.look t with
 |none=>rw[hlk]at hF;cases hF
 |some o=>
  rw[hlk]at hF;have dg:=q8l hK sg h2 rt hlk;refine⟨vt,rfl,.ref d2,rfl,d2,_,rfl,dg,_,rfl,?_⟩;cases o with
  |some v0=>
   cases hF;rw[if_neg (by simp)];exact⟨.ref d2,rfl,vt,rfl,d2,.int v,rfl,dg,q G H .refl n3⟩
  |none=>
   rw[if_pos (by simp)];dsimp only at hF;cases hA:askF r i caps t with
   |none=>rw[hA]at hF;cases hF
   |some w=>
    rw[hA]at hF;obtain⟨hnf,hr⟩:=y0k hA;refine⟨va,rfl,?_,vt,rfl,?_⟩
    ·obtain⟨f,cl,zs,cs,rfl,⟨pm,c',ctv,ef⟩,_⟩:=rf;exact⟨f,_,_,_,_,_,rfl,sg _ _ ef⟩
    ·refine⟨G,i,l,caps,[t],w,sg,rf,⟨vt,[],rfl,rt,rfl⟩,by simp[noFns,hnf],hcaps,hl,hr,fun G1 H1 vw g rw1=>?_⟩
     have rt1:=Rep.mono g.gg t rt;have rf1:=Rep.mono g.gg (.fn i l caps) rf;have m3:=n3.grow g;have k0:NOk G H G1 H1 [p,d1,d2]:=.grow g;split at hF
     ·rename_i b he;cases he;cases(show vw=V.bl b from rw1);split at hF
      ·rename_i hsz;cases hF;obtain⟨⟨ys,kb1,sg1,hp1,gp1,rp1,h11,g11⟩,kb,h21,g21,_⟩:=m3
       have fin:∀(n:Int),n=bI b->(sDPut (tVar 4) (tVar 0) (fun _ H Q=>Q (.int n) H) {nx:=tRet (tDGet (tVar 4) (tVar 0)) {nx:=fun _ H'=>Q .non H',rt:=Q},rt:=Q} [some vt,some va,some (.ref p),some (.ref d1),some (.ref d2),some (.bl b),none,none] H1):=by
        rintro n rfl;obtain⟨kc,dp⟩:=x4u hK sg1 (n:=bI b) h21 rt1 hlk hsz;refine⟨.ref d2,rfl,vt,rfl,d2,_,rfl,dp,.ref d2,rfl,vt,rfl,d2,.int (bI b),rfl,?_,?_⟩
        ·have:=q8l hK (G:=G1) (fun a o z=>by rw[q0d (q0q z g21)];exact sg1 a o z) (d:=d2) (dd:=st.seen.put t (bI b)) (ka:=kc) q0g rt1 (q9l hlk)
         exact this
        ·exact q G1 _ (k0.trans (NOk.upd (L:=[p,d1,d2]) (by simp) g21) fun _ z=>z) (N3.put ⟨⟨ys,kb1,sg1,hp1,gp1,rp1,h11,g11⟩,kb,h21,g21,ne⟩)
       refine⟨.bl b,rfl,.inr ⟨_,rfl⟩,decide (V.bl b=V.bl true),rfl,?_⟩;cases b with
       |true=>
        rw[if_pos (decide_eq_true rfl)];dsimp only;rw[if_pos rfl];refine⟨.bl true,rfl,true,rfl,?_⟩;dsimp only;rw[if_pos rfl];exact fin 1 rfl
       |false=>
        rw[if_neg (by rw[decide_eq_true_eq];intro z;injection z with z;cases z)];refine⟨.bl false,rfl,.inr ⟨_,rfl⟩,_,rfl,?_⟩;dsimp only;rw[if_pos (decide_eq_true rfl)];refine⟨.bl false,rfl,false,rfl,?_⟩;dsimp only;rw[if_neg (by decide)];exact fin 0 rfl
      ·cases hF
     ·rename_i pl lo hi he;cases he;obtain⟨tw,us,rfl,ht,ru⟩:=rw1;obtain⟨u0,_,rfl,e0,u1,_,rfl,e1,u2,_,rfl,e2,rfl⟩:=ru;cases(show u0=V.int pl from e0);cases q1:M (.fn i l caps) lo st with
      |none=>rw[q1]at hF;cases hF
      |some p1=>
       obtain⟨v1,st1⟩:=p1;rw[q1]at hF;dsimp only at hF;cases q2:M (.fn i l caps) hi st1 with
       |none=>rw[q2]at hF;cases hF
       |some p2=>
        obtain⟨v2,st2⟩:=p2;rw[q2]at hF;dsimp only at hF;cases q3:nnF pl v1 v2 st2.nodes st2.num with
        |none=>rw[q3]at hF;cases hF
        |some p3=>
         obtain⟨v3,ns3,kv3⟩:=p3;rw[q3]at hF;dsimp only at hF;split at hF
         ·rename_i hb;cases hF;have sg1:Same G1 H1:=g.sub;refine⟨.ref tw,rfl,.inr ⟨_,rfl⟩,_,rfl,?_⟩;dsimp only;rw[if_neg (by rw[decide_eq_true_eq];intro z;cases z)];refine⟨.ref tw,rfl,.inr ⟨_,rfl⟩,_,rfl,?_⟩;dsimp only;rw[if_neg (by rw[decide_eq_true_eq];intro z;cases z)];refine⟨.ref tw,rfl,tw,_,1,u1,rfl,rfl,sg1.tup ht,rfl,va,rfl,.ref p,rfl,.ref d1,rfl,.ref d2,rfl,G1,p,d1,d2,st,lo,u1,va,i,l,caps,v1,st1,rfl,e1,rf1,hcaps,hl,m3,q1,fun G2 H2 k2 m2=>?_⟩
          have sg2:Same G2 H2:=by obtain⟨⟨_,_,z,_⟩,_⟩:=m2;exact z
          have ht2:=Same.tup k2.gg ht;refine⟨.ref tw,rfl,tw,_,2,u2,rfl,rfl,sg2.tup ht2,rfl,va,rfl,.ref p,rfl,.ref d1,rfl,.ref d2,rfl,G2,p,d1,d2,st1,hi,u2,va,i,l,caps,v2,st2,rfl,Rep.mono k2.gg hi e2,Rep.mono k2.gg (.fn i l caps) rf1,hcaps,hl,m2,q2,fun G3 H3 k3 m4=>?_⟩
          have m5:=m4;obtain⟨n4,kc,h23,g23,_⟩:=m4;have sg3:Same G3 H3:=by obtain⟨_,_,z,_⟩:=n4;exact z
          have ht3:=Same.tup k3.gg ht2;refine⟨.ref tw,rfl,tw,_,0,.int pl,rfl,rfl,sg3.tup ht3,rfl,.int v1,rfl,.int v2,rfl,by rw[sizeLine_eq];exact(by decide:3<=16777216),fun c hc=>?_⟩
          have g4:=Grow.laid sg3 hc (.tup [.int pl,.int v1,.int v2]);have rq:Rep K (upd G3 c (.tup [.int pl,.int v1,.int v2])) (nW pl v1 v2) (.ref c):=⟨c,_,rfl,SqT.of q0g,⟨_,_,rfl,rfl,_,_,rfl,rfl,_,_,rfl,rfl,rfl⟩⟩;refine⟨.ref p,rfl,.ref d1,rfl,hpp _ _ _ _ q1,_,p,d1,st2.nodes,st2.num,pl,v1,v2,.ref c,v,ns3,kv3,rfl,rq,n4.grow g4,q3,fun G5 H5 k5 n5=>?_⟩
          have kall:NOk G H G5 H5 [p,d1,d2]:=((k0.trans k2 fun _ z=>z).trans k3 fun _ z=>z).trans ((NOk.grow (L:=[p,d1,d2]) g4).trans k5 fun a z=>by simp at z |-;rcases z with z|z<;>simp[z]) fun _ z=>z
          have nd2p:d2≠p:=fun z=>by
           obtain⟨_,_,_,hp4,_⟩:=n4;subst z;rw[hp4]at h23;exact y0j (Option.some.inj h23).symm
          have h25:H5 d2=some (ddO st2.seen kc):=k5.ent d2 _ (g4.hh _ _ h23) (fun z=>by
           rcases w0i.mp z with z|z
           ·exact nd2p z
           ·exact ne (w0m.mp z).symm)
          have g25:G5 d2=none:=by rw[k5.new d2 (by rw[g4.hh _ _ h23];simp),g4.new d2 (by rw[h23];simp)];exact g23
          have sg5:Same G5 H5:=by obtain⟨_,_,z,_⟩:=n5;exact z
          have rt5:Rep K G5 t vt:=Rep.mono ((k2.gg.trans k3.gg).trans (g4.gg.trans k5.gg)) t rt1;obtain⟨kd,dp⟩:=x4u hK sg5 (n:=v) h25 rt5 hb.1 hb.2;refine⟨.ref d2,rfl,vt,rfl,d2,_,rfl,dp,.ref d2,rfl,vt,rfl,d2,.int v,rfl,?_,?_⟩
          ·exact q8l hK (G:=G5) (fun a o z=>by rw[q0d (q0q z g25)];exact sg5 a o z) (d:=d2) (dd:=st2.seen.put t v) (ka:=kd) q0g rt5 (q9l hb.1)
          ·exact q G5 _ (kall.trans (NOk.upd (L:=[p,d1,d2]) (by simp) g25) fun _ z=>z) (N3.put (st:=⟨ns3,kv3,st2.seen⟩) ⟨n5,kc,h25,g25,ne⟩)
         ·cases hF
     ·cases hF
noncomputable def dd0:W->DD
 |.int _=>.k []
 |.tup [.int _,.int _]=>.t (.tup [.int,.int]) []
 |.tup [.int _,.tup _]=>.t (.tup [.int,.many .bl]) []
 |_=>.k []
noncomputable def lgF(lams:Nat->Option Lm)(M:W->W->NSt->Option (Int×NSt)):List W->FR
 |[t,.fn i l caps]=>if lams i=some l/\noFns caps=true then match M (.fn i l caps) t ⟨[],[],dd0 t⟩with
   |some (v,st)=>if flatWs st.nodes=true then .ok (.x (.new (.tup [.lst st.nodes,.int v])))else .no
   |none=>.no
  else .no
 |_=>.no
def DD.emp:DD->Prop
 |.t _ kv=>kv=[]
 |.k kv=>kv=[]
def tDNewD:TE:=fun _ H Q=>∃dd:DD,dd.emp/\∀p,H p=none->Q (.ref p) (upd H p (ddO dd []))
theorem y24:PE X (.Dict [] [] pos) tDNewD:=fun pins s σ H Q I h=>by
 obtain⟨dd,he,h⟩:=h;cases dd with
 |t sh kv=>cases(show kv=[]from he);exact x4n (sh:=sh) pins s σ H Q I h
 |k kv=>cases(show kv=[]from he);exact y2l pins s σ H Q I h
theorem y62(t:W):(dd0 t).emp:=by
 unfold dd0;split<;>exact rfl
def tLG(spF':Sp)(E:XK):TS:=
 tSeq (tAsg (tLst tNil) (gName 2)) (tSeq (tAsg (tCallX spF' [] (fun _=>E) (tCons (tVar 0) (tCons (tVar 1) (tCons (tVar 2) (tCons (tDNewT shN) (tCons tDNewD tNil)))))) (gName 3)) (tRet (tTup (tCons (tVar 2) (tCons (tVar 3) tNil)))))
theorem z3c{lams:Nat->Option Lm}{Q:VK}(h:spF K (lgF lams M) vs H Q E)(N:List Str)(hN:N.length=4):
  tLG (spNF K lams M) E {nx:=fun _ H'=>Q .non H',rt:=Q} (L2.start N vs) H:=by
 obtain⟨G,ws,sg,rp,h⟩:=h;cases hF:lgF lams M ws with
 |no=>rw[hF]at h;exact h.elim
 |ex c=>
  exfalso;unfold lgF at hF;split at hF
  ·split at hF
   ·split at hF
    ·split at hF<;>cases hF
    ·cases hF
   ·cases hF
  ·cases hF
 |ok s0=>
  rw[hF]at h;unfold lgF at hF;split at hF
  ·rename_i t i l caps;split at hF
   ·rename_i hc;split at hF
    ·rename_i v st hM;split at hF
     ·rename_i hfl;cases hF;obtain⟨vt,_,rfl,rt,va,_,rfl,rf,rfl⟩:=rp;have hst:L2.start N [vt,va]=[some vt,some va,none,none]:=by unfold L2.start;rw[hN];rfl
      rw[hst];refine⟨by rw[sizeLine_eq];exact(by decide:0<=16777216),fun p hp=>?_⟩
      have gp:G p=none:=sg.free hp;refine⟨vt,rfl,va,rfl,.ref p,rfl,fun d1 hd1=>⟨dd0 t,y62 t,fun d2 hd2=>?_⟩⟩
      have np1:p≠d1:=fun z=>by subst z;rw[q0g]at hd1;cases hd1
      have np2:p≠d2:=fun z=>by subst z;rw[q0d np1,q0g]at hd2;cases hd2
      have n12:d1≠d2:=fun z=>by subst z;rw[q0g]at hd2;cases hd2
      have hd1H:H d1=none:=by rw[q0d (fun z=>np1 z.symm)]at hd1;exact hd1
      have hd2H:H d2=none:=by rw[q0d (fun z=>n12 z.symm),q0d (fun z=>np2 z.symm)]at hd2;exact hd2
      have keep:∀a o,H a=some o->upd (upd (upd H p (.lst [])) d1 (.dT shN [] [])) d2 (ddO (dd0 t) []) a=some o:=fun a o z=>by
       rw[q0d (q0q z hd2H),q0d (q0q z hd1H),q0d (q0q z hp)];exact z
      refine⟨G,p,d1,d2,⟨[],[],dd0 t⟩,t,vt,va,i,l,caps,v,st,rfl,rt,rf,hc.2,hc.1,⟨⟨[],[],fun a o z=>keep a o (sg a o z),?_,gp,rfl,?_,sg.free hd1H⟩,[],q0g,sg.free hd2H,n12⟩,hM,fun G1 H1 k1 n3=>?_⟩
      ·rw[q0d np2,q0d np1,q0g]
      ·rw[q0d n12,q0g];rfl
      ·obtain⟨⟨xs,ka1,sg1,hp1,gp1,rp1,h11,g11⟩,ka,h21,g21,_⟩:=n3;refine⟨.ref p,rfl,.int v,rfl,by rw[sizeLine_eq];exact(by decide:2<=16777216),fun c hcn=>?_⟩
       have hH:∀a o,H a=some o->H1 a=some o:=fun a o z=>k1.ent a o (keep a o z) fun y=>by
        simp only[w0i,w2i,or_false]at y;rcases y with y|y|y
        ·subst y;rw[hp]at z;cases z
        ·subst y;rw[hd1H]at z;cases z
        ·subst y;rw[hd2H]at z;cases z
       have hpc:p≠c:=fun z=>by subst z;rw[hp1]at hcn;cases hcn
       have hnew:∀a,H a≠none->a≠p/\a≠c:=fun a z=>⟨fun y=>by subst y;exact z hp,fun y=>by
        subst y;cases q:H a with
        |none=>exact z q
        |some o=>rw[hH a o q]at hcn;cases hcn⟩
       have sgp:Same G1 (upd G1 p (.lst xs)):=q2b gp1 _;have gc1:upd G1 p (.lst xs) c=none:=by rw[q0d (fun z=>hpc z.symm)];exact sg1.free hcn
       have sgc:Same (upd G1 p (.lst xs)) (upd (upd G1 p (.lst xs)) c (.tup [.ref p,.int v])):=q2b gc1 _;refine h (upd (upd G1 p (.lst xs)) c (.tup [.ref p,.int v])) _ (.ref c) ⟨fun a o z=>?_,k1.gg.trans (sgp.trans sgc),fun a o z=>?_,fun a z=>?_⟩ ⟨.ref c,rfl,c,[.ref p,.int v],rfl,?_,?_⟩
       ·rw[q0d (hnew a (by rw[z];simp)).2];exact hH a o z
       ·by_cases ea:a=c
        ·subst ea;rw[q0g]at z |-;exact z
        ·rw[q0d ea]at z |-
         by_cases eb:a=p
         ·subst eb;rw[q0g]at z;cases z;exact hp1
         ·rw[q0d eb]at z;exact sg1 a o z
       ·rw[q0d (hnew a z).2,q0d (hnew a z).1]
        rw[k1.new a (by cases q:H a with
         |none=>exact absurd q z
         |some o=>rw[keep a o q];simp)]
       ·exact SqT.of q0g
       ·exact⟨.ref p,_,rfl,⟨p,xs,rfl,by rw[q0d hpc,q0g],hp,q3w _ hfl (Reps.mono (sgp.trans sgc) _ rp1)⟩,.int v,_,rfl,rfl,rfl⟩
     ·cases hF
    ·cases hF
   ·cases hF
  ·cases hF
noncomputable def encDD:DD->W
 |.t sh kv=>.dw false sh (kv.map (·.1)) (kv.map fun p=>.int p.2)
 |.k kv=>.dic (.k (kv.map fun p=>(p.1,Sum.inl p.2)))
noncomputable def decI:List W->Option (List Int)
 |[]=>some []
 |.int i::ws=>(decI ws).map (i::·)
 |_=>none
noncomputable def decK:List (Key×Sv)->Option (List (Key×Int))
 |[]=>some []
 |(k,.inl i)::r=>(decK r).map ((k,i)::·)
 |_=>none
noncomputable def decDD:W->Option DD
 |.dw _ sh ks ws=>(decI ws).map fun is=>.t sh (ks.zip is)
 |.dic (.k kvs)=>(decK kvs).map .k
 |_=>none
theorem x4w:∀is:List Int,decI (is.map .int)=some is
 |[]=>rfl
 |i::is=>by
  show(decI (is.map .int)).map (i::·)=_;rw[x4w is];rfl
theorem x4x:∀kv:List (Key×Int),decK (kv.map fun p=>(p.1,Sum.inl p.2))=some kv
 |[]=>rfl
 |(k,i)::kv=>by
  show(decK (kv.map fun p=>(p.1,Sum.inl p.2))).map ((k,i)::·)=_
  rw[x4x kv];rfl
theorem x66(dd:DD):decDD (encDD dd)=some dd:=by
 cases dd with
 |t sh kv=>
  show(decI (kv.map fun p=>W.int p.2)).map (fun is=>DD.t sh ((kv.map (·.1)).zip is))=_
  rw[show kv.map (fun p=>W.int p.2)=(kv.map (·.2)).map W.int from by rw[w2j];rfl,x4w]
  show some (DD.t sh ((kv.map (·.1)).zip (kv.map (·.2))))=_;congr 2
  induction kv with
  |nil=>rfl
  |cons p kv ih=>simp[ih]
 |k kv=>
  show(decK (kv.map fun p=>(p.1,Sum.inl p.2))).map DD.k=_
  rw[x4x];rfl
noncomputable def encSt(st:NSt):List W:=[.lst st.nodes,encDD (.t shN st.num),encDD st.seen]
noncomputable def decSt:List W->Option NSt
 |[.lst ns,e1,e2]=>match decDD e1,decDD e2 with
  |some (.t _ kv),some dd=>some ⟨ns,kv,dd⟩
  |_,_=>none
 |_=>none
theorem y0l(st:NSt):decSt (encSt st)=some st:=by
 show(match decDD (encDD (.t shN st.num)),decDD (encDD st.seen)with
  |some (.t _ kv),some dd=>some (NSt.mk st.nodes kv dd)
  |_,_=>none)=_
 rw[x66,x66]
noncomputable def recR:FR->Option (Int×NSt)
 |.ok (.fr (.tup (.int v::ws)))=>(decSt ws).map fun st=>(v,st)
 |_=>none
noncomputable def recN(r:Nat->List W->FR)(inf:Nat)(fw t:W)(st:NSt):Option (Int×NSt):=recR (r inf (t::fw::encSt st))
noncomputable def nfR(o:Option (Int×NSt)):FR:=match o with
 |some (v,st)=>.ok (.fr (.tup (.int v::encSt st)))
 |none=>.no
noncomputable def nfB(r:Nat->List W->FR)(inf:Nat):List W->FR
 |t::.fn i l caps::ws=>match decSt ws with
  |some st=>nfR (nfS (askF r i caps) (recN r inf (.fn i l caps)) t st)
  |none=>.no
 |_=>.no
theorem y63(o:Option (Int×NSt)):recR (nfR o)=o:=by
 cases o with
 |none=>rfl
 |some p=>
  obtain⟨v,st⟩:=p;show(decSt (encSt st)).map (fun st=>(v,st))=_
  rw[y0l];rfl
theorem x4y{r r':Nat->List W->FR}{inf:Nat}(h:∀ws,r' inf ws=nfB r inf ws)(i:Nat)(l:Lm)(caps:List W)(t:W)(st:NSt):recN r' inf (.fn i l caps) t st=nfS (askF r i caps) (recN r inf (.fn i l caps)) t st:=by
 unfold recN;rw[h];show recR (match decSt (encSt st)with|some st=>nfR (nfS (askF r i caps) (recN r inf (.fn i l caps)) t st)|none=>.no)=_;rw[y0l];exact y63 _
section
variable{P:Program}{w:World}{mg:Str->Option Value}{base:Heap}
theorem con0X{st:Stmt}{ps:List Str}{sp:Sp}(A:At K mg x st ps)(no:∀vs H Q E,sp vs H Q E->False):Cal P w K mg base 0 x ps sp:=by
 obtain⟨f,fd,F0,m,b⟩:=A.ex;exact⟨f,fd,⟨fun vs H Q E h=>(no vs H Q E h).elim,fun A outer s H args us vs Q E _ _ _ _ h=>(no vs H Q E h).elim⟩,m,F0.kp,b⟩
theorem z0s{lams:Nat->Option Lm}{Q:VK}(h:spNF K lams M vs H Q E):vs.length=5:=by
 obtain⟨_,_,_,_,_,_,_,_,_,_,_,_,_,rfl,_⟩:=h;rfl
theorem z3d{lams:Nat->Option Lm}(hM:∀f t st,M f t st=none){Q:VK}(h:spNF K lams M vs H Q E):False:=by
 obtain⟨_,_,_,_,_,_,_,_,_,_,_,_,_,_,_,_,_,_,_,h,_⟩:=h;rw[hM]at h;cases h
theorem z0t{p:Prop}{Q:VK}(h:spNNp K p vs H Q E):vs.length=3:=by
 obtain⟨_,_,_,_,_,_,_,_,_,_,_,_,_,rfl,_⟩:=h;rfl
theorem y64{lams:Nat->Option Lm}(h:lgF lams M ws≠.no):ws.length=2:=by
 unfold lgF at h;split at h
 ·rfl
 ·exact absurd rfl h
theorem z0u{lams:Nat->Option Lm}{Q:VK}(h:spF K (lgF lams M) vs H Q E):vs.length=2:=by
 obtain⟨G,ws,_,rp,h⟩:=h;rw[rp.length];refine y64 (lams:=lams) (M:=M) fun z=>?_
 rw[z]at h;exact h
end
section
variable{tpos:Pos}
noncomputable def keptK(i k:Nat)(ws:List W)(e:List S):Option S->SR
 |some (.x (.new (.tup us)))=>match us[k]? with
  |some (.int n)=>.nx (e.set i (.thr [] ws [.int n]))
  |_=>.no
 |_=>.no
theorem y65:keptK i 1 ws e (some (.x (.new (.tup [.lst us,.int n]))))=.nx (e.set i (.thr [] ws [.int n])):=rfl
noncomputable def keepF:S->S
 |.x (.old w)=>.x (.old w)
 |.fr w=>if flatW w=true then .fr w else .no
 |.thr us ws vs=>if(flatWs us&&flatWs ws&&flatWs vs)=true then .thr us ws vs else .no
 |_=>.no
theorem q6q(hs:Same G0 G)(h:SqT K G a xs):SqT K (withT0 G0 G) a xs:=by
 have key:∀o,G a=some o->keepT o=true->withT0 G0 G a=some o:=fun o z k=>by
  unfold withT0;cases q:G0 a with
  |some o'=>rw[hs _ _ q]at z;cases z;rfl
  |none=>simp only[z,k,if_true]
 rcases h with(h|⟨o,h⟩)|h
 ·exact .inl (.inl (key _ h rfl))
 ·exact .inl (.inr ⟨o,key _ h rfl⟩)
 ·exact .inr h
theorem Rel.cut{H3:Hp}(r:Rel K Z G σ H e)(hG:Same Z.G Z.H)(hio:Z.io=[])(hl:H l=some (.lst xs))(hz:Z.H l=none)(same:∀c u,H c=some u->c≠l->H3 c=some u):Rel K Z (withT0 Z.G G) σ H3 (e.map keepF):=by
 have sz:Same Z.G G:=fun a o z=>by rw[r.gen a (by rw[hG _ _ z];exact fun z=>nomatch z)];exact z
 have sw:Same (withT0 Z.G G) G:=fun a o z=>by
  unfold withT0 at z;split at z
  ·rename_i o' q;cases z;exact sz _ _ q
  ·split at z
   ·split at z
    ·cases z;assumption
    ·cases z
   ·cases z
 have szw:Same Z.G (withT0 Z.G G):=fun a o z=>by unfold withT0;rw[z]
 have nl:withT0 Z.G G l=none:=by
  cases q:withT0 Z.G G l with
  |none=>rfl
  |some o=>
   have:=r.sub _ _ (sw _ _ q);rw[hl]at this;cases this;unfold withT0 at q;split at q
   ·rename_i q2;rw[hG _ _ q2]at hz;cases hz
   ·split at q
    ·split at q
     ·rename_i hk;cases q;cases hk
     ·cases q
    ·cases q
 have sqt:∀a ys,SqT K G a ys->SqT K (withT0 Z.G G) a ys:=fun a ys z=>q6q sz z
 refine⟨fun a o z=>same _ _ (r.sub _ _ (sw _ _ z)) (fun y=>by subst y;rw[nl]at z;cases z),fun i s h=>?_,by rw[w0d];exact r.len,fun i j b b' ws ws' a h1 _ _ _=>?_,fun a o h n=>same _ _ (r.ent a o h n) (fun y=>by subst y;rw[hz]at h;cases h),fun a h=>(by rw[hio]at h;cases h),fun a h=>?_⟩
 ·rw[w0f]at h;obtain⟨s0,h0,rfl⟩:=w0c.mp h;have q:=r.slot i s0 h0;cases s0 with
  |fr w=>
   show SlotOk K Z _ H3 (if flatW w=true then .fr w else .no) _;split
   ·rename_i hs;obtain⟨u,q1,q2⟩:=q;exact⟨u,q1,x4o sqt w hs q2⟩
   ·trivial
  |thr us ws vs=>
   show SlotOk K Z _ H3 (if(flatWs us&&flatWs ws&&flatWs vs)=true then .thr us ws vs else .no) _;split
   ·rename_i hs;rw[w0t,w0t]at hs;obtain⟨t,l',o,xs',ys,zs,k1,k2,k3,k4,k5,k6,k7,k8⟩:=q;refine⟨t,l',o,xs',ys,zs,k1,?_,same _ _ k3 (fun y=>by subst y;rw[hl]at k3;cases k3),?_,k5,q4d sqt us hs.1.1 k6,q4d sqt ws hs.1.2 k7,q4d sqt vs hs.2 k8⟩
    ·unfold withT0;cases q:Z.G t with
     |some o'=>rw[sz _ _ q]at k2;cases k2;rfl
     |none=>simp only[k2];rfl
    ·cases q:withT0 Z.G G l' with
     |none=>rfl
     |some o'=>rw[sw _ _ q]at k4;cases k4
   ·trivial
  |x k=>
   cases k with
   |old w=>obtain⟨u,q1,q2,_⟩:=q;exact⟨u,q1,q2,Rep.mono szw w q2⟩
   |_=>trivial
  |_=>trivial
 ·rw[w0f]at h1;obtain⟨s0,_,h2⟩:=w0c.mp h1;cases s0 with
  |fr w=>
   have h2:(if flatW w=true then S.fr w else .no)=.own b ws:=h2;split at h2<;>cases h2
  |thr u w v=>
   have h2:(if(flatWs u&&flatWs w&&flatWs v)=true then S.thr u w v else .no)=.own b ws:=h2;split at h2<;>cases h2
  |x k=>cases k<;>cases h2
  |_=>cases h2
 ·cases q:Z.G a with
  |some o=>exact szw _ _ q
  |none=>
   have g:=r.gen a h;rw[q]at g;unfold withT0;rw[q,g]
noncomputable def mutNK(i:Nat)(d:List S->SR)(e:List S):Option S->SR
 |some (.x (.new (.tup (.lst us::_))))=>if us.length<16777216 then d ((e.set i .no).map keepF)else .no
 |_=>.no
noncomputable def dMutNw(i:Nat)(d:List S->SR):List S->SR:=fun e=>mutNK i d e e[i]?
theorem x8f(i:Nat){xp ap1 cp1 tp sp i0 i1 i2 pos1 kp:Pos}{kk k0 k1 k2 tk n0 n1 n2}(hG:Same Z.G Z.H)(hio:Z.io=[])(h:DSsW Z X EE ss d)(hN:X.N[i]?=some x:=by rfl)(hv:Vis X.env.scope x:=by walk_at "1")(hd:(x==("__debug__":Str))=false:=by decide)(hcd:(x==("__classdict__":Str))=false:=by decide)
  (hs0:PlainIx (.Constant (.int ((0:Nat):Int)) kk kp):=by intro _ _;rfl)
  (hb1:attributeBase (.Subscript (.Name x xp) (.Constant (.int ((0:Nat):Int)) kk kp) sp) "append" X.env (eval (.Subscript (.Name x xp) (.Constant (.int ((0:Nat):Int)) kk kp) sp) X.env)=eval (.Subscript (.Name x xp) (.Constant (.int ((0:Nat):Int)) kk kp) sp) X.env:=by rfl)
  (hfew:((backTo cp1 (starEach [.Tuple [.Constant (.int n0) k0 i0,.Constant (.int n1) k1 i1,.Constant (.int n2) k2 i2] tk tp] X.env)).all (fun x=>!x.1)&&(backToKw cp1 (keywordEach [] X.env)).all (fun x=>x.1.isSome)&&decide (([.Tuple [.Constant (.int n0) k0 i0,.Constant (.int n1) k1 i1,.Constant (.int n2) k2 i2] tk tp]:List Expr).length+([]:List Keyword).length+(if([]:List Keyword).isEmpty then 0 else 1)<30))=true:=by rfl)
  (hl1:(ap1.endLine==cp1.line)=true:=by rfl)(hs:starEach [.Tuple [.Constant (.int n0) k0 i0,.Constant (.int n1) k1 i1,.Constant (.int n2) k2 i2] tk tp] X.env=(false,eval (.Tuple [.Constant (.int n0) k0 i0,.Constant (.int n1) k1 i1,.Constant (.int n2) k2 i2] tk tp) X.env)::starEach [] X.env:=by rfl)
  (ht1:starEach [.Constant (.int n0) k0 i0,.Constant (.int n1) k1 i1,.Constant (.int n2) k2 i2] X.env=(false,eval (.Constant (.int n0) k0 i0) X.env)::starEach [.Constant (.int n1) k1 i1,.Constant (.int n2) k2 i2] X.env:=by rfl)
  (ht2:starEach [.Constant (.int n1) k1 i1,.Constant (.int n2) k2 i2] X.env=(false,eval (.Constant (.int n1) k1 i1) X.env)::starEach [.Constant (.int n2) k2 i2] X.env:=by rfl)
  (ht3:starEach [.Constant (.int n2) k2 i2] X.env=(false,eval (.Constant (.int n2) k2 i2) X.env)::starEach [] X.env:=by rfl)
  (hpl:(backTo cp1 (starEach [] X.env)).any (·.1)=false:=by rfl)
  (hw1:swapsWith (.Call (.Attribute (.Subscript (.Name x xp) (.Constant (.int ((0:Nat):Int)) kk kp) sp) "append" ap1) [.Tuple [.Constant (.int n0) k0 i0,.Constant (.int n1) k1 i1,.Constant (.int n2) k2 i2] tk tp] [] cp1) none pos1.line X.env=pure false:=by rfl):
  DSsW Z X EE (.Expr (.Call (.Attribute (.Subscript (.Name x xp) (.Constant (.int ((0:Nat):Int)) kk kp) sp) "append" ap1) [.Tuple [.Constant (.int n0) k0 i0,.Constant (.int n1) k1 i1,.Constant (.int n2) k2 i2] tk tp] [] cp1) pos1::ss) (dMutNw i d):=by
 refine PSs.mono (q1w (q6w (q8b (pe_ix ix_tup (pv i hN hv hd hcd) q1m hs0) (q0o (q55 (q0o q1m (q0o q1m (q0o q1m q1n ht3) ht2) ht1)) q1n hs) hb1 hfew hl1 hs hpl) hw1) h) ?_;rintro D σ H ⟨G,e,rel,h⟩;unfold dMutNw mutNK at h;split at h
 ·rename_i us rest hei;split at h
  ·rename_i hlen;obtain⟨u,g1,t,xs,rfl,ht,rx⟩:=rel.slot i _ hei;have hvi:σ[i]?=some (some (.ref t)):=rel.at hei fun _=>g1
   obtain⟨v,hv0,rv⟩:=rx.get (k:=0) rfl;obtain⟨lx,ys,rfl,hlx,zlx,ry⟩:=rv;have HX:=rel.sub _ _ hlx;have lenx:=ry.length;refine⟨.ref t,hvi,t,xs,((0:Nat):Int),.ref lx,rfl,rfl,rel.sub.tup ht,q44 hv0,.inl ⟨rfl,ys,SqL.of HX⟩,by rw[sizeLine_eq];exact(by decide:3<=16777216),fun q hq=>?_⟩
   have nx:lx≠q:=fun z=>by subst z;rw[HX]at hq;cases hq
   refine⟨lx,ys,.ref q,rfl,rfl,by rw[q0d nx];exact HX,by rw[sizeLine_eq];omega,?_⟩
   have same:∀c u,H c=some u->c≠lx->upd (upd H q (.tup [.int n0,.int n1,.int n2])) lx (.lst (ys++[.ref q])) c=some u:=fun c u z n0=>by
    have nq:c≠q:=fun y=>by subst y;rw[z]at hq;cases hq
    rw[q0d n0,q0d nq];exact z
   exact⟨_,_,(rel.drop1 i).cut hG hio HX zlx same,h⟩
  ·exact h.elim
 ·exact h.elim
theorem y25:dMutNw i d e=mutNK i d e e[i]?:=rfl
theorem x67:mutNK i d e (some (.x (.new (.tup (.lst us::ws)))))=if us.length<16777216 then d ((e.set i .no).map keepF)else .no:=rfl
end
noncomputable abbrev Nd:=Nat×Nat×Nat
variable{ns:List Nd}
noncomputable def ndW(x:Nd):W:=nW x.1 x.2.1 x.2.2
noncomputable def ndK(x:Nd):Kx:=nkey x.1 x.2.1 x.2.2
theorem y66{x y:Nd}(h:ndK x=ndK y):x=y:=by
 obtain⟨a,b,c⟩:=x;obtain⟨a',b',c'⟩:=y;unfold ndK nkey at h;simp only[Kx.tup.injEq,List.cons.injEq,Kx.int.injEq,and_true]at h;obtain⟨h1,h2,h3⟩:=h;have e1:a=a':=by omega
 have e2:b=b':=by omega
 have e3:c=c':=by omega
 rw[e1,e2,e3]
noncomputable def plc(ns:List Nd)(m r:Nat):Nat:=if r<2 then m else match ns[r-2]? with
 |some x=>x.1
 |none=>m
theorem q54{ext:List Nd}(h:r<ns.length+2):plc (ns++ext) m r=plc ns m r:=by
 unfold plc;split
 ·rfl
 ·rw[w0u (by omega)]
theorem q39{ns:List Nd}(h:r<2):plc ns m r=m:=if_pos h
theorem q3k{k:Nat}{x:Nd}(h:ns[k]?=some x):plc ns m (k+2)=x.1:=by
 unfold plc;rw[if_neg (by omega),w2o,h]
structure GOk(m:Nat)(ns:List Nd):Prop where
 nd:∀(k:Nat) x,ns[k]?=some x->x.1<m/\x.2.1≠x.2.2/\x.2.1<k+2/\x.2.2<k+2/\x.1<plc ns m x.2.1/\x.1<plc ns m x.2.2
 dist:ns.Nodup
inductive Post(ns:List Nd):Nat->Nat->Nat->Prop
 |old {L r:Nat} (h:r<L+2):Post ns L r L
 |new {L L1 L2 p lo hi:Nat} (h:ns[L2]?=some (p,lo,hi)) (h1:Post ns L lo L1) (h2:Post ns L1 hi L2):Post ns L (L2+2) (L2+1)
theorem Post.le{L:Nat}(h:Post ns L r L'):L<=L'/\r<L'+2:=by
 induction h with
 |old h=>omega
 |new _ _ _ i1 i2=>omega
theorem Post.low{L:Nat}(h:Post ns L r L')(hr:r<L+2):L'=L:=by
 cases h with
 |old h=>rfl
 |new _ h1 h2=>have:=h1.le;have:=h2.le;omega
theorem Post.mono{ext:List Nd}{L:Nat}(h:Post ns L r L'):Post (ns++ext) L r L':=by
 induction h with
 |old h=>exact .old h
 |new h _ _ i1 i2=>exact .new (by rw[w0u (w0a.mp h).1];exact h) i1 i2
theorem GOk.nil:GOk m []:=⟨fun k x h=>by simp at h,.nil⟩
theorem GOk.snoc{x:Nd}(g:GOk m ns)(h1:x.1<m)(h2:x.2.1≠x.2.2)(h3:x.2.1<ns.length+2)(h4:x.2.2<ns.length+2)(h5:x.1<plc ns m x.2.1)(h6:x.1<plc ns m x.2.2)(h7:x∉ns):GOk m (ns++[x]):=by
 refine⟨fun k y h=>?_,?_⟩
 ·by_cases hk:k<ns.length
  ·rw[w0u hk]at h;obtain⟨a,b,c,d,e,f⟩:=g.nd k y h;exact⟨a,b,c,d,by rw[q54 (by omega)];exact e,by rw[q54 (by omega)];exact f⟩
  ·have hk2:k=ns.length:=by
    have:=(w0a.mp h).1;simp at this;omega
   subst hk2;rw[w0y (w0g _),w4b]at h;cases h;exact⟨h1,h2,h3,h4,by rw[q54 h3];exact h5,by rw[q54 h4];exact h6⟩
 ·rw[List.nodup_append];exact⟨g.dist,by simp,fun a ha b hb e=>by simp at hb;subst hb;subst e;exact h7 ha⟩
theorem x0f{kv:List (κ×Int)}{k k':κ}:lkG (kv++[(k,n)]) k'=match lkG kv k' with
  |some v=>some v
  |none=>@ite _ (k=k') (Classical.propDecidable _) (some n) none:=by
 unfold lkG;rw[List.find?_append];cases q:kv.find? (fun p=>@decide (p.1=k') (Classical.propDecidable _))with
 |some p=>rfl
 |none=>
  simp only[Option.none_or,w2a,List.find?_nil,Option.map_none]
  by_cases e:k=k'
  ·rw[if_pos e];simp[e]
  ·rw[if_neg e];simp[e]
theorem x4z(dd:DD)(w:W)(n:Int):(dd.put w n).size<=dd.size+1:=by
 cases dd with
 |t sh kv=>
  show DD.size (match keyT w with|some x=>DD.t sh (kv++[(x,n)])|none=>.t sh kv)<=kv.length+1;split
  ·show(kv++_).length<=_;simp
  ·exact w3r _
 |k kv=>cases w<;>first|exact w3r _|(show(kv++_).length<=kv.length+1;simp)
section
variable{T:Type}(enc:T->W)(Vd:T->Prop)(top:T->Nat)(m:Nat)(P:List Nd->Nat->T->Prop)
structure SI(st:NSt)(ns:List Nd)(f:T->Option Nat):Prop where
 nodes:st.nodes=ns.map ndW
 ok:GOk m ns
 num1:∀(k:Nat) x,ns[k]?=some x->lkG st.num (ndK x)=some ((k:Int)+2)
 num0:∀x,x∉ns->lkG st.num (ndK x)=none
 numl:st.num.length=ns.length
 seen:∀t,Vd t->st.seen.look (enc t)=some ((f t).map fun n=>(n:Int))
 val:∀t r,Vd t->f t=some r->r<ns.length+2/\top t<=plc ns m r/\P ns r t
inductive NfR(d:Nat)(t:T)(st:NSt)(ns:List Nd)(f:T->Option Nat)(o:Option (Int×NSt)):Prop where
 |mk (r:Nat) (st':NSt) (ns' ext:List Nd) (f':T->Option Nat) (eq:o=some ((r:Int),st')) (si:SI enc Vd top m P st' ns' f') (ap:ns'=ns++ext) (pl:∀x∈ext,top t<=x.1) (po:Post ns' ns.length r ns'.length) (tp:top t<=plc ns' m r) (pr:P ns' r t) (fr:∀t',Vd t'->top t'<top t->f' t'=f t') (sn:ns'.length+1<=ns.length+2^(d+1)) (ss:st'.seen.size+1<=st.seen.size+2^(d+1)):NfR d t st ns f o
def NfSpec(d:Nat)(N:W->NSt->Option (Int×NSt)):Prop:=∀t st ns f,Vd t->m<=top t+d->SI enc Vd top m P st ns f->ns.length+2^(d+1)<=16777215->st.seen.size+2^(d+1)<=16777215->NfR enc Vd top m P d t st ns f (N (enc t) st)
def AskOk(A:W->Option W):Prop:=∀t,Vd t->(∃b,A (enc t)=some (.bl b))\/∃(p:Nat)(t0 t1:T),A (enc t)=some (.tup [.int p,enc t0,enc t1])/\p<m/\top t<=p/\Vd t0/\Vd t1/\p<top t0/\p<top t1
def PutOk:Prop:=∀(dd:DD)(g:T->Option Int)(t:T)(n:Int),Vd t->(∀t,Vd t->dd.look (enc t)=some (g t))->g t=none->∀t',Vd t'->(dd.put (enc t) n).look (enc t')=some (@ite _ (t'=t) (Classical.propDecidable _) (some n) (g t'))
structure PropOk(A:W->Option W):Prop where
 mono:∀ns ext r t,GOk m ns->r<ns.length+2->P ns r t->P (ns++ext) r t
 bl:∀ns t b,Vd t->A (enc t)=some (.bl b)->P ns (if b=true then 1 else 0) t
 eqv:∀ns t p t0 t1 r,Vd t->A (enc t)=some (.tup [.int (p:Nat),enc t0,enc t1])->P ns r t0->P ns r t1->P ns r t
 node:∀ns t p t0 t1 lo hi k,Vd t->A (enc t)=some (.tup [.int (p:Nat),enc t0,enc t1])->ns[k]?=some (p,lo,hi)->P ns lo t0->P ns hi t1->P ns (k+2) t
variable{enc Vd top m P}
theorem SI.put(hp:PutOk enc Vd){st:NSt}{f:T->Option Nat}(s:SI enc Vd top m P st ns f){t:T}{r:Nat}(hv:Vd t)(hn:f t=none)(hr:r<ns.length+2)(ht:top t<=plc ns m r)(hP:P ns r t):
  SI enc Vd top m P ⟨st.nodes,st.num,st.seen.put (enc t) r⟩ ns (fun t'=>@ite _ (t'=t) (Classical.propDecidable _) (some r) (f t')):=by
 refine⟨s.nodes,s.ok,s.num1,s.num0,s.numl,fun t' hv'=>?_,fun t' r' hv' h=>?_⟩
 ·rw[hp st.seen (fun t=>(f t).map fun n=>(n:Int)) t r hv s.seen (by simp only[hn];rfl) t' hv']
  split<;>rfl
 ·split at h
  ·rename_i e;subst e;cases h;exact⟨hr,ht,hP⟩
  ·exact s.val t' r' hv' h
theorem y67(ht:∀t,Vd t->top t<=m)(hp:PutOk enc Vd){A:W->Option W}(hA:AskOk enc Vd top m A)(hP:PropOk enc Vd m P A){N:W->NSt->Option (Int×NSt)}{d:Nat}(hN:∀d',d=d'+1->NfSpec enc Vd top m P d' N):NfSpec enc Vd top m P d (nfS A N):=by
 intro t st ns f hv hd s hl hs;have h1:1<=2^(d+1):=w2d;have htm:=ht t hv;unfold nfS;rw[s.seen t hv];cases hf:f t with
 |some r=>
  obtain⟨a,b,c⟩:=s.val t r hv hf;exact⟨r,st,ns,[],f,rfl,s,by simp,(fun x h=>nomatch h),.old a,b,c,fun _ _ _=>rfl,by omega,by omega⟩
 |none=>
  try simp only[Option.map_none]
  have frs:∀(g:T->Option Nat)(r:Nat),(∀t',Vd t'->top t'<top t->g t'=f t')->∀t',Vd t'->top t'<top t->(@ite _ (t'=t) (Classical.propDecidable _) (some r) (g t'))=f t':=fun g r hg t' hv' h=>by
   rw[if_neg (fun e=>by subst e;omega)];exact hg t' hv' h
  rcases hA t hv with⟨b,hb⟩|⟨p,t0,t1,hb,hpm,htp,hv0,hv1,hp0,hp1⟩
  ·simp only[hb];rw[if_pos (by omega)];have e:bI b=(((if b=true then 1 else 0:Nat)):Int):=by cases b<;>rfl
   have hr:(if b=true then 1 else 0:Nat)<2:=by split<;>decide
   rw[e];refine⟨_,_,ns,[],_,rfl,s.put hp (r:=if b=true then 1 else 0) hv hf (by omega) (by rw[q39 hr];exact htm) (hP.bl ns t b hv hb),by simp,(fun x h=>nomatch h),.old (by omega),by rw[q39 hr];exact htm,hP.bl ns t b hv hb,frs f _ fun _ _ _=>rfl,by omega,?_⟩
   have:=x4z st.seen (enc t) ((if b=true then 1 else 0:Nat):Int);show(st.seen.put _ _).size+1<=_;have:2<=2^(d+1):=by rw[w4c];have:=w2d (n:=d);omega
   omega
  ·obtain⟨d',rfl⟩:∃d',d=d'+1:=⟨d-1,by omega⟩;have h2:2^(d'+1+1)=2^(d'+1)+2^(d'+1):=by rw[w4c];omega
   have h1':1<=2^(d'+1):=w2d;simp only[hb];obtain⟨lo,st1,ns1,ext1,f1,eq1,s1,ap1,pl1,po1,tp1,pr1,fr1,sn1,ss1⟩:=hN d' rfl t0 st ns f hv0 (by omega) s (by omega) (by omega);simp only[eq1];obtain⟨hi,st2,ns2,ext2,f2,eq2,s2,ap2,pl2,po2,tp2,pr2,fr2,sn2,ss2⟩:=hN d' rfl t1 st1 ns1 f1 hv1 (by omega) s1 (by omega) (by omega);simp only[eq2];have le1:=po1.le;have le2:=po2.le;have f2t:f2 t=none:=by rw[fr2 t hv (by omega),fr1 t hv (by omega)];exact hf
   have lk2:st2.seen.look (enc t)=some none:=by rw[s2.seen t hv,f2t];rfl
   have po1':Post ns2 ns.length lo ns1.length:=by rw[ap2];exact po1.mono
   have tp1':top t0<=plc ns2 m lo:=by rw[ap2,q54 (by omega)];exact tp1
   have pr1':P ns2 lo t0:=by rw[ap2];exact hP.mono _ _ _ _ s1.ok (by omega) pr1
   have frf:∀t',Vd t'->top t'<top t->f2 t'=f t':=fun t' hv' h=>by rw[fr2 t' hv' (by omega),fr1 t' hv' (by omega)]
   have pl12:∀x∈ext1++ext2,p<x.1:=fun x h=>by
    rcases w1k.mp h with h|h
    ·have:=pl1 x h;omega
    ·have:=pl2 x h;omega
   have ap12:ns2=ns++(ext1++ext2):=by rw[ap2,ap1,w2g]
   have szp:∀r:Int,(st2.seen.put (enc t) r).size+1<=st.seen.size+2^(d'+1+1):=fun r=>by
    have:=x4z st2.seen (enc t) r;omega
   have cnd:st2.seen.look (enc t)=some none/\st2.seen.size<16777216:=⟨lk2,by omega⟩;unfold nnF
   by_cases hlh:lo=hi
   ·subst hlh;have e0:ns2.length=ns1.length:=po2.low (by omega);simp only[if_true];rw[if_pos cnd];have hr:top t<=plc ns2 m lo:=by omega
    exact⟨lo,_,ns2,ext1++ext2,_,rfl,s2.put hp hv f2t (by omega) hr (hP.eqv ns2 t p t0 t1 lo hv hb pr1' pr2),ap12,fun x h=>by have:=pl12 x h;omega,by rw[e0];exact po1',hr,hP.eqv ns2 t p t0 t1 lo hv hb pr1' pr2,frs f2 _ frf,by omega,szp _⟩
   ·rw[if_neg (fun e=>hlh (by omega))]
    by_cases hin:(p,lo,hi)∈ns2
    ·obtain⟨k,hk⟩:=List.getElem?_of_mem hin;have:=s2.num1 k _ hk;have lk:lkG st2.num (nkey p lo hi)=some ((k:Int)+2):=this;rw[lk];simp only[];rw[if_pos cnd]
     have hkn:k<ns.length:=by
      by_cases z:k<ns.length
      ·exact z
      ·exfalso;rw[ap12,w0y (by omega)]at hk;have:=pl12 _ (w1a hk);exact w1j _ this
     obtain⟨_,_,hlo,hhi,_,_⟩:=s2.ok.nd k _ hk;have hlo:lo<k+2:=hlo;have hhi:hi<k+2:=hhi;have e1:ns1.length=ns.length:=po1.low (by omega);have e2:ns2.length=ns1.length:=po2.low (by omega);have hr:top t<=plc ns2 m (k+2):=by rw[q3k hk];exact htp
     exact⟨k+2,_,ns2,ext1++ext2,_,rfl,s2.put (r:=k+2) hp hv f2t (by omega) hr (hP.node ns2 t p t0 t1 lo hi k hv hb hk pr1' pr2),ap12,fun x h=>by have:=pl12 x h;omega,by rw[e2,e1];exact .old (by omega),hr,hP.node ns2 t p t0 t1 lo hi k hv hb hk pr1' pr2,frs f2 _ frf,by omega,szp _⟩
    ·have lk:lkG st2.num (nkey p lo hi)=none:=s2.num0 _ hin;rw[lk];have hl2:st2.nodes.length=ns2.length:=by rw[s2.nodes,w0d]
     simp only[];rw[if_pos (show st2.nodes.length<16777215/\st2.num.length<16777216 from⟨by omega,by rw[s2.numl];omega⟩)];simp only[];rw[if_pos cnd,hl2];have ok3:GOk m (ns2++[(p,lo,hi)]):=s2.ok.snoc hpm hlh (show lo<_ by omega) (show hi<_ by omega) (show p<plc ns2 m lo by omega) (show p<plc ns2 m hi by omega) hin;have hk:(ns2++[(p,lo,hi)])[ns2.length]?=some (p,lo,hi):=by rw[w0y (w0g _),w4b];rfl
     have s3:SI enc Vd top m P ⟨st2.nodes++[nW p lo hi],st2.num++[(nkey p lo hi,(ns2.length:Int)+2)],st2.seen⟩ (ns2++[(p,lo,hi)]) f2:=by
      refine⟨by rw[w0n,s2.nodes];rfl,ok3,fun k x h=>?_,fun x h=>?_,by simp[s2.numl],s2.seen,fun t' r' hv' h=>?_⟩
      ·show lkG (st2.num++_) _=_;rw[x0f]
       by_cases z:k<ns2.length
       ·rw[w0u z]at h;rw[s2.num1 k x h]
       ·have hk2:k=ns2.length:=by
         have:=(w0a.mp h).1;simp at this;omega
        subst hk2;rw[hk]at h;cases h;rw[show lkG st2.num (ndK (p,lo,hi))=none from lk];exact if_pos rfl
      ·show lkG (st2.num++_) _=_;rw[x0f];rw[w1k]at h;rw[s2.num0 x fun z=>h (.inl z)]
       exact if_neg fun z=>h (.inr (by rw[<- y66 (x:=(p,lo,hi)) z];exact w0m.mpr rfl))
      ·obtain⟨a,b,c⟩:=s2.val t' r' hv' h;exact⟨by simp;omega,by rw[q54 a];exact b,hP.mono _ _ _ _ s2.ok a c⟩
     have hr:top t<=plc (ns2++[(p,lo,hi)]) m (ns2.length+2):=by rw[q3k hk];exact htp
     have pr3:P (ns2++[(p,lo,hi)]) (ns2.length+2) t:=hP.node _ t p t0 t1 lo hi ns2.length hv hb hk (hP.mono _ _ _ _ s2.ok (by omega) pr1') (hP.mono _ _ _ _ s2.ok (by omega) pr2);refine⟨ns2.length+2,_,ns2++[(p,lo,hi)],ext1++ext2++[(p,lo,hi)],_,rfl,s3.put (r:=ns2.length+2) hp hv f2t (by simp) hr pr3,by rw[ap12];simp,fun x h=>?_,?_,hr,pr3,frs f2 _ frf,?_,szp _⟩
     ·rcases w1k.mp h with h|h
      ·have:=pl12 x h;omega
      ·simp at h;subst h;exact htp
     ·rw[w0h];exact .new hk po1'.mono po2.mono
     ·rw[w0h];simp;omega
end
noncomputable def oe(r:Nat):Nat:=if r<2 then 1-r else r
noncomputable def tnd(x:Nd):Nd:=(x.1,oe x.2.1,oe x.2.2)
theorem x3w{k:Nat}(h:r<k+2):oe r<k+2:=by unfold oe;split<;>omega
theorem x40{s:Nat}(h:oe r=oe s):r=s:=by unfold oe at h;split at h<;>split at h<;>omega
theorem y68{x y:Nd}(h:tnd x=tnd y):x=y:=by
 obtain⟨a,b,c⟩:=x;obtain⟨a',b',c'⟩:=y;unfold tnd at h;simp only[Prod.mk.injEq]at h;obtain⟨h1,h2,h3⟩:=h;rw[h1,x40 h2,x40 h3]
theorem y0m:plc (ns.map tnd) m (oe r)=plc ns m r:=by
 unfold plc oe
 by_cases h:r<2
 ·rw[if_pos h,if_pos h,if_pos (by omega)]
 ·rw[if_neg h,if_neg h,if_neg h,w0f];cases ns[r-2]?<;>rfl
theorem GOk.turn(g:GOk m ns):GOk m (ns.map tnd):=by
 refine⟨fun k x h=>?_,?_⟩
 ·rw[w0f]at h;obtain⟨y,hy,rfl⟩:=w0c.mp h;obtain⟨a,b,c,d,e,f⟩:=g.nd k y hy;exact⟨a,fun z=>b (x40 z),x3w c,x3w d,by rw[show(tnd y).2.1=oe y.2.1 from rfl,y0m];exact e,by rw[show(tnd y).2.2=oe y.2.2 from rfl,y0m];exact f⟩
 ·exact w2y.mpr (List.pairwise_map.mpr ((w2y.mp g.dist).imp fun h z=>h (y68 z)))
theorem Post.turn{L:Nat}(h:Post ns L r L'):Post (ns.map tnd) L (oe r) L':=by
 induction h with
 |old h=>exact .old (x3w h)
 | @new L L1 L2 p lo hi h _ _ i1 i2=>
  have e:oe (L2+2)=L2+2:=by unfold oe;rw[if_neg (by omega)]
  rw[e];exact .new (p:=p) (by rw[w0f,h];rfl) i1 i2
structure GG(m:Nat)(ns:List Nd)(r:Nat):Prop where
 ok:GOk m ns
 po:Post ns 0 r ns.length
 sz:ns.length+1<=2^(m+1)
theorem GG.lt(g:GG m ns r):r<ns.length+2:=g.po.le.2
theorem GG.turn(g:GG m ns r):GG m (ns.map tnd) (oe r):=⟨g.ok.turn,by rw[w0d];exact g.po.turn,by rw[w0d];exact g.sz⟩
theorem GG.is{m:Nat}(b:Bool):GG m [] (if b=true then 1 else 0):=⟨.nil,.old (by split<;>omega),w2d⟩
theorem GG.at{p:Nat}(h:p<m):GG m [(p,0,1)] 2:=by
 refine⟨?_,.new (p:=p) (L1:=0) (L2:=0) rfl (.old (by decide)) (.old (by decide)),?_⟩
 ·exact GOk.nil.snoc (x:=(p,0,1)) h (show(0:Nat)≠1 by decide) (show 0<2 by decide) (show 1<2 by decide) (show p<plc [] m 0 by rw[q39 (by decide)];exact h) (show p<plc [] m 1 by rw[q39 (by decide)];exact h) (fun z=>nomatch z)
 ·show 2<=_;rw[w4c];have:=w2d (n:=m);omega
noncomputable def prW(t:Nat×Nat):W:=.tup [.int t.1,.int t.2]
theorem z0v{Vd:Nat×Nat->Prop}:PutOk prW Vd:=by
 intro dd g t n hv hg hn t' hv';have h0:=hg t hv;have h1:=hg t' hv';cases dd with
 |k kv=>exact nomatch h0
 |t sh kv=>
  have kt:∀t:Nat×Nat,keyT (prW t)=some (.tup [.int t.1,.int t.2]):=fun t=>rfl
  have ft:∀(t:Nat×Nat) o,(DD.t sh kv).look (prW t)=some o->fits (.tup [.int t.1,.int t.2]) sh/\lkG kv (.tup [.int t.1,.int t.2])=o:=fun t o h=>by
   have h:(match keyT (prW t)with|some x=>@ite _ (fits x sh) (Classical.propDecidable _) (some (lkG kv x)) none|none=>none)=some o:=h;rw[kt]at h
   by_cases z:fits (.tup [.int t.1,.int t.2]) sh
   ·simp only[if_pos z]at h;cases h;exact⟨z,rfl⟩
   ·simp only[if_neg z]at h;cases h
  obtain⟨f0,e0⟩:=ft t _ h0;obtain⟨f1,e1⟩:=ft t' _ h1;rw[x3u (kt t),q8k (kt t') f1,x0f,e1]
  by_cases z:t'=t
  ·subst z;rw[hn,if_pos rfl,if_pos rfl]
  ·rw[if_neg z];cases g t' with
   |some v=>rfl
   |none=>
    show some (@ite _ _ (Classical.propDecidable _) _ _)=_;rw[if_neg];intro y;simp only[Kx.tup.injEq,List.cons.injEq,Kx.int.injEq,and_true]at y;exact z (Prod.ext (by omega) (by omega))
theorem y26{Vd:Nat×Nat->Prop}{top:Nat×Nat->Nat}{P:List Nd->Nat->Nat×Nat->Prop}(t:Nat×Nat):SI prW Vd top m P ⟨[],[],dd0 (prW t)⟩ [] fun _=>none:=by
 refine⟨rfl,.nil,fun k x h=>by simp at h,fun x _=>rfl,rfl,fun t' _=>?_,fun t' r _ h=>nomatch h⟩
 show(DD.t (.tup [.int,.int]) []).look (prW t')=some none;exact q8k (kv:=[]) (show keyT (prW t')=some (.tup [.int t'.1,.int t'.2])from rfl) ⟨⟨trivial,trivial,trivial⟩,by simp[Kx.depth,Kx.depths]⟩
noncomputable def tpP(ns1 ns2:List Nd)(m:Nat)(t:Nat×Nat):Nat:=min (plc ns1 m t.1) (plc ns2 m t.2)
def vdP(ns1 ns2:List Nd)(t:Nat×Nat):Prop:=t.1<ns1.length+2/\t.2<ns2.length+2
theorem q5q(g:GOk m ns)(r:Nat):plc ns m r<=m:=by
 unfold plc;split
 ·exact w0g _
 ·split
  ·rename_i x h;exact w3j (g.nd _ x h).1
  ·exact w0g _
theorem z0w{lams:Nat->Option Lm}{t:W}{l:Lm}{v:Int}(h1:lams i=some l)(h2:noFns caps=true)(h3:M (.fn i l caps) t ⟨[],[],dd0 t⟩=some (v,st))(h4:flatWs st.nodes=true):lgF lams M [t,.fn i l caps]=.ok (.x (.new (.tup [.lst st.nodes,.int v]))):=by
 unfold lgF;simp only[if_pos (And.intro h1 h2),h3,if_pos h4]
noncomputable def inBW(x:W):List W->Option Bool
 |[]=>some false
 |w::ws=>match eqW w x,inBW x ws with
  |some b,some c=>some (b||c)
  |_,_=>none
noncomputable def inL:W->W->Option W
 |x,.lst ws=>if depWs ws<=148 then(inBW x ws).map .bl else none
 |_,_=>none
theorem x41{x:W}:∀{ws:List W}{b:Bool},inBW x ws=some b->(∀w∈ws,∃k,eqW w x=some k)/\b=ws.any fun w=>eqS w x
 |[],b,h=>by cases h;exact⟨(fun w h=>nomatch h),rfl⟩
 |w::ws,b,h=>by
  unfold inBW at h;split at h
  ·rename_i k c h1 h2;cases h;obtain⟨a1,a2⟩:=x41 h2;refine⟨fun w' hw=>?_,?_⟩
   ·rcases w0i.mp hw with rfl|hw
    ·exact⟨k,h1⟩
    ·exact a1 w' hw
   ·rw[w2f,a2];unfold eqS;rw[h1];rfl
  ·cases h
def rInD(K:PySem.W.Frag):R2:=fun x y H Q=>∃G wx ws p xs b,y=.ref p/\Same G H/\SqL K G p xs/\Reps K G ws xs/\Rep K G wx x/\depWs ws<=148/\inBW wx ws=some b/\Q (.bl b) H
theorem z0x(hu:X.A.units+150<cLine):OpR X (compareOp .In) (rInD X.K):=by
 intro pins s σ H x y v u Q I rx ry h;obtain⟨G,wx,ws,p,xs,b,rfl,sg,hq,rs,px,hd,hb,q⟩:=h;cases ry;obtain⟨its,r,pl,hz⟩:=I.list (sg.seq hq);obtain⟨g1,g2⟩:=x41 hb;have l1:=rs.length;have m1:=r.length
 have key:∀k (hk:k<its.length) (hk2:k<ws.length),SeqAt.EqAt X.A.in1 s its[k] v (eqS ws[k] wx):=fun k hk hk2=>by
  have i1:k<xs.length:=by omega
  obtain⟨u1,e1,ru1⟩:=r.get (w0b i1);obtain⟨w1,f1,p1⟩:=rs.getV (w0b i1);rw[w0b hk]at e1;rw[w0b hk2]at f1;cases e1;cases f1;obtain⟨k',hk'⟩:=g1 ws[k] (w1r hk2);have:eqS ws[k] wx=k':=by unfold eqS;rw[hk'];rfl
  rw[this]
  have hun:X.A.in1.units+148<cLine:=by
   have:X.A.in1.units=X.A.units+1:=rfl;omega
  refine q95 ru1 (q94 p1) (x7y I sg 148 (w0z (q6o (w0b hk2)) hd) hun p1 px ru1 rx hk') fun z=>?_
  subst z;have:=ru1.inj rx;rw[this]at p1;exact q88 I sg ws[k] p1 px hk'
 have hany:its.toArray.any (fun y=>@decide (∃k,∃(hk:k<its.length)(hk2:k<ws.length),its[k]=y/\eqS ws[k] wx=true) (Classical.propDecidable _))=b:=by
  rw[g2];apply w1b.mpr;rw[List.any_toArray,List.any_eq_true,List.any_eq_true];constructor
  ·rintro⟨y,_,h⟩;obtain⟨k,hk,hk2,_,h2⟩:=@of_decide_eq_true _ (Classical.propDecidable _) h;exact⟨ws[k],w1r hk2,h2⟩
  ·rintro⟨w',hw,h⟩;obtain⟨k,hk2,rfl⟩:=w1m.mp hw;have hk:k<its.length:=by omega
   exact⟨its[k],w1r hk,@decide_eq_true _ (Classical.propDecidable _) ⟨k,hk,hk2,rfl,h⟩⟩
 refine SeqAt.in_listAt _ pl.isList (fun y hy=>?_) ⟨.bl b,H,I,congrArg Value.bool hany,q⟩
 have hy:y∈its:=by simpa using hy
 obtain⟨k,hk,rfl⟩:=w1m.mp hy
 by_cases h:∃k',∃(hk':k'<its.length)(hk2:k'<ws.length),its[k']=its[k]/\eqS ws[k'] wx=true
 ·rw[@decide_eq_true _ (Classical.propDecidable _) h];obtain⟨k',hk',hk2,e1,e2⟩:=h;have z:=key k' hk' hk2;rw[e1,e2]at z;exact z
 ·rw[@decide_eq_false _ (Classical.propDecidable _) h];have hk2:k<ws.length:=by omega
  have z:=key k hk hk2;cases e:eqS ws[k] wx with
  |false=>rw[e]at z;exact z
  |true=>exact absurd ⟨k,hk,hk2,rfl,e⟩ h
theorem z0y:Op2 K (rInD K) inL:=by
 intro G H x y wx wy w Q s px py hf h;cases wy with
 |lst ws=>
  simp only[inL]at hf;split at hf
  ·rename_i hd;obtain⟨b,hb,rfl⟩:=w0c.mp hf;obtain⟨a,xs,rfl,ha,ra⟩:=py;exact⟨G,wx,ws,a,xs,b,rfl,s,ha,ra,px,hd,hb,h G _ H (.refl s) rfl⟩
  ·cases hf
 |_=>simp[inL]at hf
section
variable{a b:Expr}{db:Den W}
theorem z0z(hu:X.A.units+150<cLine)(ha:DE Z X EE a da)(hb:DE Z X EE b db)(hm:behindInMarks .In b=false:=by with_unfolding_all rfl):DT Z X EE (.Compare a [.In] [b] pos) (dTest (dOp inL da db)):=q59 (z0x hu) z0y ha hb hm
end
theorem y0n(hc:X.calm=true):CallR X (.builtin "min") (fun xs H Q=>∃p n ns,xs=[.ref p]/\SqT X.K H p ((n::ns).map V.int)/\Q (.int (minL n ns)) H):=by
 intro pins s σ H xs us Q I r h;obtain⟨p,n,ns,rfl,hq,q⟩:=h;obtain⟨u,rfl,rx⟩:=vals1 r;cases rx;obtain⟨its,r',pl,hz⟩:=I.tuple hq;have hl:=pl;have hlt:p<s.heap.objs.size:=by obtain⟨_,e,_⟩:=hl;exact Heap.lt_size e
 have hh:X.A.in1.handled=none:=I.ok.hd hc;have hlen:its.length=(n::ns).length:=by have:=r'.length;rw[w0d]at this;exact this.symm
 have hval:∀(i:Nat)(v:Value),its.toArray[i]?=some v->∃t,v=Value.int ((n::ns).getD i 0) t:=fun i v hv=>by
  have hv':its[i]?=some v:=by simpa using hv
  have hi:i<(n::ns).length:=by rw[<- hlen];exact(w0a.mp hv').1
  obtain⟨u,hu,ru⟩:=r'.get (i:=i) (x:=V.int ((n::ns).getD i 0)) (by rw[w0f,w0b hi,q53 hi];rfl);rw[hv']at hu;cases hu;exact ru
 refine call_min_walk (wpAny_pyIter_tuple hl ⟨s.heap.objs.size,[s.heap.objs.size,p],[s.heap.objs.size],_,_,_,_,rfl,Walks.tuple hh s.heap.objs.size p (w0r hlt) its.toArray,⟨⟨_,Heap.get?_push_size _ rfl,rfl,rfl⟩,hl.push _⟩,fun b hb=>?_,by rw[w0e,hlen];simp,CmpOf.ints_lt (fun i=>(n::ns).getD i 0) hval,fun v h' tk hP hk=>?_⟩)
 ·show b<(s.heap.push _).objs.size;rw[Heap.size_push];rcases w0i.mp hb with e|hb
  ·rw[e];exact w1h _
  ·rw[w0m.mp hb];exact w1s hlt
 ·obtain⟨t,rfl⟩:=hval _ _ hP;obtain⟨b1,b2⟩:=argBest_lt (fun i=>(n::ns).getD i 0) (its.toArray.size-1)
  have e:(n::ns).getD (argBest (fun i j=>decide ((n::ns).getD i 0<(n::ns).getD j 0)) (its.toArray.size-1)) 0=minL n ns:=by
   obtain⟨m1,m2,m3⟩:=x1x ns n;have hsz:its.toArray.size=ns.length+1:=by rw[w0e,hlen];simp
   generalize argBest (fun i j=>decide ((n::ns).getD i 0<(n::ns).getD j 0)) (its.toArray.size-1)=k at b1 b2
   have hk:k<(n::ns).length:=by simp;omega
   have ge:minL n ns<=(n::ns).getD k 0:=by
    rw[q53 hk];rcases w0i.mp (w1r hk)with z|z
    ·rw[z];exact m2
    ·exact m3 _ z
   have le:(n::ns).getD k 0<=minL n ns:=by
    have:∃j,j<=ns.length/\(n::ns).getD j 0=minL n ns:=by
     rcases m1 with z|z
     ·exact⟨0,w1f _,by simp[z]⟩
     ·obtain⟨j,hj,ej⟩:=w1m.mp z;exact⟨j+1,by omega,by simp[List.getD,hj,ej]⟩
    obtain⟨j,hj,ej⟩:=this;have:=b2 j (by omega);rw[ej]at this;exact this
   omega
  rw[e];refine⟨.int (minL n ns),H,I.kept (t':=tk) fun b o hbo=>hk b o (fun z=>?_) (Heap.get?_push_of_some _ hbo),⟨t,rfl⟩,q⟩
  rw[w0m]at z;exact absurd (Heap.lt_size hbo) (by rw[z];exact w1j _)
noncomputable def minT:List W->Option W
 |[.tup ws]=>match intsW ws with
  |some (n::ns)=>some (.int (minL n ns))
  |_=>none
 |_=>none
theorem y69:OpN K (fun xs H Q=>∃p n ns,xs=[.ref p]/\SqT K H p ((n::ns).map V.int)/\Q (.int (minL n ns)) H) minT:=by
 intro G H xs ws w Q s pr hf h;unfold minT at hf;split at hf
 ·obtain⟨x,r,rfl,px,pr⟩:=pr;cases(show r=[]from pr);split at hf
  ·rename_i n ns hns;cases hf;obtain⟨a,cs,rfl,hq,rp⟩:=px;have:=q7q hns rp;subst this;exact⟨a,n,ns,rfl,s.tup hq,h G _ H (.refl s) rfl⟩
  ·cases hf
 ·cases hf
theorem y0o(hc:X.calm=true):CallR X (.builtin "max") (fun xs H Q=>∃p n ns,xs=[.ref p]/\SqT X.K H p ((n::ns).map V.int)/\Q (.int (maxL n ns)) H):=by
 intro pins s σ H xs us Q I r h;obtain⟨p,n,ns,rfl,hq,q⟩:=h;obtain⟨u,rfl,rx⟩:=vals1 r;cases rx;obtain⟨its,r',pl,hz⟩:=I.tuple hq;have hl:=pl;have hlt:p<s.heap.objs.size:=by obtain⟨_,e,_⟩:=hl;exact Heap.lt_size e
 have hh:X.A.in1.handled=none:=I.ok.hd hc;have hlen:its.length=(n::ns).length:=by have:=r'.length;rw[w0d]at this;exact this.symm
 have hval:∀(i:Nat)(v:Value),its.toArray[i]?=some v->∃t,v=Value.int ((n::ns).getD i 0) t:=fun i v hv=>by
  have hv':its[i]?=some v:=by simpa using hv
  have hi:i<(n::ns).length:=by rw[<- hlen];exact(w0a.mp hv').1
  obtain⟨u,hu,ru⟩:=r'.get (i:=i) (x:=V.int ((n::ns).getD i 0)) (by rw[w0f,w0b hi,q53 hi];rfl);rw[hv']at hu;cases hu;exact ru
 refine call_max_walk (wpAny_pyIter_tuple hl ⟨s.heap.objs.size,[s.heap.objs.size,p],[s.heap.objs.size],_,_,_,_,rfl,Walks.tuple hh s.heap.objs.size p (w0r hlt) its.toArray,⟨⟨_,Heap.get?_push_size _ rfl,rfl,rfl⟩,hl.push _⟩,fun b hb=>?_,by rw[w0e,hlen];simp,CmpOf.ints_gt (fun i=>(n::ns).getD i 0) hval,fun v h' tk hP hk=>?_⟩)
 ·show b<(s.heap.push _).objs.size;rw[Heap.size_push];rcases w0i.mp hb with e|hb
  ·rw[e];exact w1h _
  ·rw[w0m.mp hb];exact w1s hlt
 ·obtain⟨t,rfl⟩:=hval _ _ hP;obtain⟨b1,b2⟩:=argBest_gt (fun i=>(n::ns).getD i 0) (its.toArray.size-1)
  have e:(n::ns).getD (argBest (fun i j=>decide ((n::ns).getD i 0>(n::ns).getD j 0)) (its.toArray.size-1)) 0=maxL n ns:=by
   obtain⟨m1,m2,m3⟩:=x65 ns n;have hsz:its.toArray.size=ns.length+1:=by rw[w0e,hlen];simp
   generalize argBest (fun i j=>decide ((n::ns).getD i 0>(n::ns).getD j 0)) (its.toArray.size-1)=k at b1 b2
   have hk:k<(n::ns).length:=by simp;omega
   have ge:(n::ns).getD k 0<=maxL n ns:=by
    rw[q53 hk];rcases w0i.mp (w1r hk)with z|z
    ·rw[z];exact m2
    ·exact m3 _ z
   have le:maxL n ns<=(n::ns).getD k 0:=by
    have:∃j,j<=ns.length/\(n::ns).getD j 0=maxL n ns:=by
     rcases m1 with z|z
     ·exact⟨0,w1f _,by simp[z]⟩
     ·obtain⟨j,hj,ej⟩:=w1m.mp z;exact⟨j+1,by omega,by simp[List.getD,hj,ej]⟩
    obtain⟨j,hj,ej⟩:=this;have:=b2 j (by omega);rw[ej]at this;exact this
   omega
  rw[e];refine⟨.int (maxL n ns),H,I.kept (t':=tk) fun b o hbo=>hk b o (fun z=>?_) (Heap.get?_push_of_some _ hbo),⟨t,rfl⟩,q⟩
  rw[w0m]at z;exact absurd (Heap.lt_size hbo) (by rw[z];exact w1j _)
noncomputable def maxT:List W->Option W
 |[.tup ws]=>match intsW ws with
  |some (n::ns)=>some (.int (maxL n ns))
  |_=>none
 |_=>none
theorem y7a:OpN K (fun xs H Q=>∃p n ns,xs=[.ref p]/\SqT K H p ((n::ns).map V.int)/\Q (.int (maxL n ns)) H) maxT:=by
 intro G H xs ws w Q s pr hf h;unfold maxT at hf;split at hf
 ·obtain⟨x,r,rfl,px,pr⟩:=pr;cases(show r=[]from pr);split at hf
  ·rename_i n ns hns;cases hf;obtain⟨a,cs,rfl,hq,rp⟩:=px;have:=q7q hns rp;subst this;exact⟨a,n,ns,rfl,s.tup hq,h G _ H (.refl s) rfl⟩
  ·cases hf
 ·cases hf
section
variable{e:Expr}
theorem y7b(hc:X.calm=true)(hm:X.mg "min"=none)(ha:DA Z X EE [e] dA)(hg:Gl X "min":=by rfl)(he:starEach [e] X.env=(false,eval e X.env)::starEach [] X.env:=by rfl)(hpl:(backTo pos (starEach [] X.env)).any (·.1)=false:=by rfl):DE Z X EE (.Call (.Name "min" p) [e] [] pos) (dFn minT dA):=
 q8d (y0n hc) y69 PyProof.Rows.Boot.«min» hm ha hg (by decide) (by decide) he hpl
theorem y7c(hc:X.calm=true)(hm:X.mg "max"=none)(ha:DA Z X EE [e] dA)(hg:Gl X "max":=by rfl)(he:starEach [e] X.env=(false,eval e X.env)::starEach [] X.env:=by rfl)(hpl:(backTo pos (starEach [] X.env)).any (·.1)=false:=by rfl):DE Z X EE (.Call (.Name "max" p) [e] [] pos) (dFn maxT dA):=
 q8d (y0o hc) y7a PyProof.Rows.Boot.«max» hm ha hg (by decide) (by decide) he hpl
end
theorem minT2{x y:Int}:minT [.tup [.int x,.int y]]=some (.int (if y<x then y else x)):=rfl
theorem maxT2{x y:Int}:maxT [.tup [.int x,.int y]]=some (.int (if x<y then y else x)):=rfl
noncomputable abbrev Rw:=Nat->Bool
variable{row:Rw}
inductive Ev(ns:List Nd)(row:Rw):Nat->Bool->Prop
 |fin {r:Nat} (h:r<2):Ev ns row r (decide (r=1))
 |nd {k p lo hi:Nat} {b:Bool} (h:ns[k]?=some (p,lo,hi)) (h':Ev ns row (if row p=true then hi else lo) b):Ev ns row (k+2) b
noncomputable def ev(ns:List Nd)(row:Rw)(r:Nat):Bool:=@decide (Ev ns row r true) (Classical.propDecidable _)
theorem x42:ev ns row r=true↔Ev ns row r true:=⟨fun h=>@of_decide_eq_true _ (Classical.propDecidable _) h,fun h=>@decide_eq_true _ (Classical.propDecidable _) h⟩
theorem q2k{ns:List Nd}(h:r<2):ev ns row r=decide (r=1):=by
 apply w1b.mpr;rw[x42,decide_eq_true_eq];constructor
 ·intro e;generalize hb:true=b at e;cases e with
  |fin _=>exact of_decide_eq_true hb.symm
  |nd _ _=>omega
 ·intro e;have:=Ev.fin (ns:=ns) (row:=row) h
  rwa [decide_eq_true e]at this
theorem q3l{k:Nat}{x:Nd}(h:ns[k]?=some x):ev ns row (k+2)=ev ns row (if row x.1=true then x.2.2 else x.2.1):=by
 obtain⟨p,lo,hi⟩:=x;apply w1b.mpr;rw[x42,x42];constructor
 ·intro e;generalize hr:k+2=r at e;generalize hb:true=b at e;cases e with
  |fin _=>omega
  |nd h1 h2=>
   cases Nat.add_right_cancel hr;rw[h]at h1;cases h1;subst hb;exact h2
 ·exact fun e=>.nd h e
theorem q8m{ns':List Nd}(g:GOk m ns){L:Nat}(hp:∀k,k<L->ns[k]?=ns'[k]?)(hL:L<=ns.length)(row:Rw):∀N r,r<N->r<L+2->ev ns row r=ev ns' row r
 |N+1,r,hN,hr=>by
  by_cases h2:r<2
  ·rw[q2k h2,q2k h2]
  ·obtain⟨k,rfl⟩:∃k,r=k+2:=⟨r-2,by omega⟩;have e:ns[k]?=some ns[k]:=w0b (by omega);have e':ns'[k]?=some ns[k]:=by rw[<- hp k (by omega)];exact e
   obtain⟨_,_,a,b,_⟩:=g.nd k _ e;rw[q3l e,q3l e'];split
   ·exact q8m g hp hL row N _ (by omega) (by omega)
   ·exact q8m g hp hL row N _ (by omega) (by omega)
theorem x0g(g:GOk m ns){row':Rw}:∀N r,r<N->r<ns.length+2->(∀q,plc ns m r<=q->row q=row' q)->ev ns row r=ev ns row' r
 |N+1,r,hN,hr,hq=>by
  by_cases h2:r<2
  ·rw[q2k h2,q2k h2]
  ·obtain⟨k,rfl⟩:∃k,r=k+2:=⟨r-2,by omega⟩;have e:ns[k]?=some ns[k]:=w0b (by omega);obtain⟨_,_,a,b,c,d⟩:=g.nd k _ e;rw[q3k e]at hq;rw[q3l e,q3l e,hq _ (w0g _)];split
   ·exact x0g g N _ (by omega) (by omega) fun q h=>hq q (by omega)
   ·exact x0g g N _ (by omega) (by omega) fun q h=>hq q (by omega)
noncomputable def rset(row:Rw)(p:Nat)(b:Bool):Rw:=fun q=>if q=p then b else row q
theorem q8n(g:GOk m ns){p:Nat}(hr:r<ns.length+2)(hp:p<plc ns m r):ev ns (rset row p b) r=ev ns row r:=
 x0g g (r+1) r (w1h _) hr fun q h=>if_neg (by omega)
theorem q62(g:GOk m ns){k:Nat}{x:Nd}(h:ns[k]?=some x)(b:Bool):ev ns (rset row x.1 b) (k+2)=ev ns row (if b=true then x.2.2 else x.2.1):=by
 obtain⟨_,_,a1,a2,a3,a4⟩:=g.nd k x h;have hk:=(w0a.mp h).1;rw[q3l h,show rset row x.1 b x.1=b from if_pos rfl];cases b
 ·exact q8n g (by simp;omega) (by simpa using a3)
 ·exact q8n g (by simp;omega) (by simpa using a4)
theorem q6d(g:GOk m ns):∀N r s,r<N->s<N->r<ns.length+2->s<ns.length+2->(∀row,ev ns row r=ev ns row s)->r=s
 |N+1,r,s,hr,hs,lr,ls,h=>by
  have key:∀r s,r<N+1->r<ns.length+2->s<ns.length+2->(∀row,ev ns row r=ev ns row s)->¬plc ns m r<plc ns m s:=by
   intro r s hr lr ls h hlt;have l2:=q5q g s;have h2:¬r<2:=fun z=>by rw[q39 z]at hlt;omega
   obtain⟨k,rfl⟩:∃k,r=k+2:=⟨r-2,by omega⟩;have e:ns[k]?=some ns[k]:=w0b (by omega);obtain⟨_,ne,a1,a2,_⟩:=g.nd k _ e;rw[q3k e]at hlt;refine ne (q6d g N _ _ (by omega) (by omega) (by omega) (by omega) fun row=>?_)
   have z0:=q62 g (row:=row) e false;have z1:=q62 g (row:=row) e true;rw[h,q8n g ls hlt]at z0 z1;simp only[w1d,if_false,if_true]at z0 z1;rw[<- z0,<- z1]
  have k1:=key r s hr lr ls h;have k2:=key s r hs ls lr fun row=>(h row).symm
  have hm:∀t,¬t<2->t<ns.length+2->plc ns m t<m:=fun t h2 hl=>by
   obtain⟨k,rfl⟩:∃k,t=k+2:=⟨t-2,by omega⟩;have e:ns[k]?=some ns[k]:=w0b (by omega);rw[q3k e];exact(g.nd k _ e).1
  by_cases r2:r<2
  ·have s2:s<2:=Classical.byContradiction fun z=>by
    have:=hm s z ls;rw[q39 r2]at k1 k2;omega
   have:=h fun _=>false
   rw[q2k r2,q2k s2]at this;have:=decide_eq_decide.mp this;omega
  ·have s2:¬s<2:=fun z=>by have:=hm r r2 lr;rw[q39 z]at k1 k2;omega
   obtain⟨k,rfl⟩:∃k,r=k+2:=⟨r-2,by omega⟩;obtain⟨j,rfl⟩:∃j,s=j+2:=⟨s-2,by omega⟩;have e:ns[k]?=some ns[k]:=w0b (by omega);have e':ns[j]?=some ns[j]:=w0b (by omega);obtain⟨_,_,a1,a2,_⟩:=g.nd k _ e;obtain⟨_,_,b1,b2,_⟩:=g.nd j _ e';rw[q3k e,q3k e']at k1 k2;have hp:ns[k].1=ns[j].1:=by omega
   have cof:∀(b:Bool)(row:Rw),ev ns row (if b=true then ns[k].2.2 else ns[k].2.1)=ev ns row (if b=true then ns[j].2.2 else ns[j].2.1):=fun b row=>by
    rw[<- q62 g e b,<- q62 g e' b,h,hp]
   have q1:=q6d g N ns[k].2.1 ns[j].2.1 (by omega) (by omega) (by omega) (by omega) fun row=>by simpa using cof false row
   have q2:=q6d g N ns[k].2.2 ns[j].2.2 (by omega) (by omega) (by omega) (by omega) fun row=>by simpa using cof true row
   have:ns[k]=ns[j]:=Prod.ext hp (Prod.ext q1 q2);have:=(w3g g.dist (h₀:=by omega) (h₁:=by omega)).mp this;omega
theorem Post.canon{ns':List Nd}(g:GOk m ns)(g':GOk m ns'){L L1:Nat}(h:Post ns L r L1):∀{r' L1':Nat},Post ns' L r' L1'->L<=ns.length->L<=ns'.length->(∀k,k<L->ns[k]?=ns'[k]?)->(∀row,ev ns row r=ev ns' row r') ->
  r=r'/\L1=L1'/\(∀k,k<L1->ns[k]?=ns'[k]?)/\L1<=ns.length/\L1<=ns'.length:=by
 induction h with
 | @old L r hr=>
  intro r' L1' h' hL hL' pre he
  have rl:r'<ns'.length+2:=by
   cases h' with
   |old z=>omega
   |new z _ _=>have:=(w0a.mp z).1;omega
  have e:r=r':=q6d g' (max r r'+1) r r' (by omega) (by omega) (by omega) rl fun row=>by
   rw[<- q8m g pre hL row (r+1) r (w1h _) hr];exact he row
  subst e;exact⟨rfl,(h'.low hr).symm,pre,hL,hL'⟩
 | @new L L1 L2 p lo hi hx h1 h2 i1 i2=>
  intro r' L1' h' hL hL' pre he;have le1:=h1.le;have le2:=h2.le;have hk:=(w0a.mp hx).1;obtain⟨_,ne,a1,a2,a3,a4⟩:=g.nd L2 _ hx;cases h' with
  |old hr'=>
   exfalso
   have e:L2+2=r':=q6d g (max (L2+2) r'+1) (L2+2) r' (by omega) (by omega) (by omega) (by omega) fun row=>by
    rw[he row,q8m g pre hL row (r'+1) r' (w1h _) hr']
   omega
  | @new _ M1 M2 p' lo' hi' hx' h1' h2'=>
   have hk':=(w0a.mp hx').1;obtain⟨_,ne',b1,b2,b3,b4⟩:=g'.nd M2 _ hx';have c1:∀(b:Bool)(row:Rw),ev ns (rset row p b) (L2+2)=ev ns row (if b=true then hi else lo):=fun b row=>q62 g hx b
   have c2:∀(b:Bool)(row:Rw),ev ns' (rset row p' b) (M2+2)=ev ns' row (if b=true then hi' else lo'):=fun b row=>q62 g' hx' b
   have n1:¬p<p':=fun z=>ne (q6d g (max lo hi+1) lo hi (by omega) (by omega) (show lo<_ by have:lo<L2+2:=a1;omega) (show hi<_ by have:hi<L2+2:=a2;omega) fun row=>by
    have z0:=c1 false row;have z1:=c1 true row;have pz:p<plc ns' m (M2+2):=by rw[q3k hx'];exact z
    rw[he,q8n g' (by omega) pz]at z0 z1;simp only[w1d,if_false,if_true]at z0 z1;rw[<- z0,<- z1])
   have n2:¬p'<p:=fun z=>ne' (q6d g' (max lo' hi'+1) lo' hi' (by omega) (by omega) (show lo'<_ by have:lo'<M2+2:=b1;omega) (show hi'<_ by have:hi'<M2+2:=b2;omega) fun row=>by
    have z0:=c2 false row;have z1:=c2 true row;have pz:p'<plc ns m (L2+2):=by rw[q3k hx];exact z
    rw[<- he,q8n g (by omega) pz]at z0 z1;simp only[w1d,if_false,if_true]at z0 z1;rw[<- z0,<- z1])
   have ep:p=p':=by omega
   subst ep;have cc:∀(b:Bool)(row:Rw),ev ns row (if b=true then hi else lo)=ev ns' row (if b=true then hi' else lo'):=fun b row=>by rw[<- c1,<- c2,he]
   obtain⟨rfl,rfl,pre1,l1,l1'⟩:=i1 h1' hL hL' pre fun row=>by simpa using cc false row
   obtain⟨rfl,rfl,pre2,l2,l2'⟩:=i2 h2' l1 l1' pre1 fun row=>by simpa using cc true row
   refine⟨rfl,rfl,fun k hk=>?_,by omega,by omega⟩
   by_cases z:k<L2
   ·exact pre2 k z
   ·have:k=L2:=by omega
    subst this;rw[hx,hx']
theorem GG.canon{ns':List Nd}{r':Nat}(g:GG m ns r)(g':GG m ns' r')(h:∀row,ev ns row r=ev ns' row r'):ns=ns'/\r=r':=by
 obtain⟨e1,e2,pre,_,_⟩:=Post.canon g.ok g'.ok g.po g'.po (w1f _) (w1f _) (fun k z=>absurd z (Nat.not_lt_zero _)) h
 refine⟨List.ext_getElem? fun k=>?_,e1⟩
 by_cases z:k<ns.length
 ·exact pre k z
 ·rw[w1w (by omega),w1w (by omega)]
theorem z00{ext:List Nd}(g:GOk m ns)(hr:r<ns.length+2):ev (ns++ext) row r=ev ns row r:=
 (q8m g (L:=ns.length) (fun k hk=>(w0u hk).symm) (w0g _) row (r+1) r (w1h _) hr).symm
theorem q9b(g:GOk m ns)(row:Rw):∀N r,r<N->r<ns.length+2->ev (ns.map tnd) row (oe r)=!ev ns row r
 |N+1,r,hN,hr=>by
  by_cases h2:r<2
  ·rw[q2k h2,q2k (x3w (k:=0) h2)];unfold oe;rw[if_pos h2];have:r=0\/r=1:=by omega
   rcases this with rfl|rfl<;>rfl
  ·obtain⟨k,rfl⟩:∃k,r=k+2:=⟨r-2,by omega⟩;have e:ns[k]?=some ns[k]:=w0b (by omega);have e':(ns.map tnd)[k]?=some (tnd ns[k]):=by rw[w0f,e];rfl
   obtain⟨_,_,a,b,_⟩:=g.nd k _ e;rw[show oe (k+2)=k+2 from if_neg (by omega),q3l e',q3l e];show ev (ns.map tnd) row (if row ns[k].1=true then oe ns[k].2.2 else oe ns[k].2.1)=_;split
   ·exact q9b g row N _ (by omega) (by omega)
   ·exact q9b g row N _ (by omega) (by omega)
noncomputable def unOld:S->S
 |.x (.old w)=>.fr w
 |.fr w=>if scalW w=true then .fr w else .no
 |_=>.no
theorem y27:DSsW Z X EE [] dNx:=PSs.mono q0s fun D σ H ⟨G,e,r,h⟩=>⟨G,e,r,PostW.post h⟩
section
variable{vs:List W}
theorem y7d:unOld (.x (.old w))=.fr w:=rfl
theorem z01:unOld (.fr (.bl b))=.fr (.bl b):=rfl
theorem y7e:unOld (.fr (.int n))=.fr (.int n):=rfl
theorem y7f:unOld (.fr (.lst ws))=.no:=rfl
theorem y7g:unOld (.fr (.tup ws))=.no:=rfl
theorem z02:unOld .no=.no:=rfl
theorem y7h:unOld (.x (.new w))=.no:=rfl
theorem y7i:keepF (.x (.old w))=.x (.old w):=rfl
theorem z03:keepF .no=.no:=rfl
theorem y7j:keepF (.x (.new w))=.no:=rfl
theorem y7k:keepF (.fr (.lst ws))=.no:=rfl
theorem y7l:keepF (.fr (.int n))=.fr (.int n):=rfl
theorem z04:keepF (.fr (.bl b))=.fr (.bl b):=rfl
end
noncomputable def toOldW:S->S
 |.x (.old w)=>.x (.old w)
 |.fr w=>.x (.old w)
 |_=>.no
structure OldE(K:PySem.W.Frag)(G:Hp)(σ:L2.St)(e:List S):Prop where
 len:e.length=σ.length
 at':∀(i:Nat)(s:S),e[i]?=some s->s=.no\/∃w u,s=.x (.old w)/\σ[i]?.getD none=some u/\Rep K G w u
theorem OldE.mono(s:Same G G')(h:OldE K G σ e):OldE K G' σ e:=
 ⟨h.len,fun i x z=>(h.at' i x z).imp id fun⟨w,u,h1,h2,h3⟩=>⟨w,u,h1,h2,Rep.mono s w h3⟩⟩
theorem Rel.oldE(r:Rel K Z G σ H e)(hG:Same Z.G G):OldE K G σ (e.map toOldW):=by
 refine⟨by rw[w0d];exact r.len,fun i s h=>?_⟩
 rw[w0f]at h;obtain⟨s0,h0,rfl⟩:=w0c.mp h;have q:=r.slot i s0 h0;cases s0 with
 |fr w=>obtain⟨u,q1,q2⟩:=q;exact .inr ⟨w,u,rfl,q1,q2⟩
 |x k=>
  cases k with
  |old w=>obtain⟨u,q1,q2,_⟩:=q;exact .inr ⟨w,u,rfl,q1,Rep.mono hG w q2⟩
  |_=>exact .inl rfl
 |_=>exact .inl rfl
theorem OldE.rel{Hb Gb:Hp}(ho:OldE K Gb σ e)(sb:Same Gb G)(sg:Same G H)(hb:∀a o,Hb a=some o->H a=some o)(hg:∀a,Hb a≠none->G a=Gb a):Rel K ⟨Hb,Gb,[]⟩ G σ H e:=by
 refine⟨sg,fun i s h=>?_,ho.len,fun i j b b' ws ws' a h1 _ _ _=>?_,fun a o h _=>hb a o h,(fun a h=>nomatch h),hg⟩
 ·rcases ho.at' i s h with rfl|⟨w,u,rfl,h1,h2⟩
  ·trivial
  ·exact⟨u,h1,h2,Rep.mono sb w h2⟩
 ·rcases ho.at' i _ h1 with z|⟨w,u,z,_⟩<;>cases z
theorem Rel.setNew{i:Nat}(r:Rel K Z G σ H e)(h:RepN K Z G w v):Rel K Z G (σ.set i (some v)) H (e.set i (.x (.new w))):=by
 refine⟨r.sub,fun j s hs=>?_,by rw[List.length_set,List.length_set];exact r.len,fun j k b b' ws ws' a h1 h2 h3 h4=>?_,r.ent,r.ion,r.gen⟩
 ·rw[w2b]at hs;rw[w2b]
  by_cases e1:i=j
  ·subst e1;rw[if_pos rfl]at hs;split at hs
   ·rename_i hl;cases hs;rw[if_pos rfl,if_pos (by rw[<- r.len];exact hl)];exact⟨v,rfl,h⟩
   ·cases hs
  ·rw[if_neg e1]at hs;rw[if_neg e1];exact r.slot j s hs
 ·have n1:i≠j:=fun z=>by
   subst z;rw[w2b,if_pos rfl]at h1;split at h1<;>cases h1
  have n2:i≠k:=fun z=>by
   subst z;rw[w2b,if_pos rfl]at h2;split at h2<;>cases h2
  rw[w2b,if_neg n1]at h1 h3;rw[w2b,if_neg n2]at h2 h4;exact r.dis j k b b' ws ws' a h1 h2 h3 h4
structure NewG(K:PySem.W.Frag)(G:Hp)(l:Addr)(xs:List V)(v:V)(us vs:List W):Prop where
 tup:∃t zs,v=.ref t/\SqT K G t (.ref l::zs)/\Reps K G vs zs
 it:Reps K G us xs
 off:G l=none
 fu:flatWs us=true
 fv:flatWs vs=true
theorem NewG.repN{vs:List W}(n:NewG K G l xs v us vs)(hz:Z.H l=none):RepN K Z (upd G l (.lst xs)) (.tup (.lst us::vs)) v:=by
 obtain⟨t,zs,rfl,ht,rv⟩:=n.tup;have sg:Same G (upd G l (.lst xs)):=q2b n.off _;exact⟨t,_,rfl,Same.tup sg ht,.ref l,zs,rfl,⟨l,xs,rfl,q0g,hz,q3w us n.fu (Reps.mono sg us n.it)⟩,q3w vs n.fv (Reps.mono sg vs rv)⟩
def tNew(X:Cx)(EE:L2.St->XK)(d:Den W):TE:=fun σ H Q=>(∀a,H a=none->X.H₀ a=none)/\∃G,liftN X.K ⟨H,G,[]⟩ EE d σ H Q
theorem x43{d:Den W}(h:∀Z',(∀a,Z'.H a=none->X.H₀ a=none)->DN Z' X EE c d):PE X c (tNew X EE d):=fun pins s σ H Q I ⟨hh,G,hq⟩=>h ⟨H,G,[]⟩ hh pins s σ H Q I hq
theorem x0h{e1:List S}{d:Den W}{vs:List W}{Q:VK}(ho:OldE X.K G σ e)(sg:Same G H)(hh:∀a,H a=none->X.H₀ a=none)(hd:d e=.ok (.tup (.lst us::vs)) e1)
  (q:∀G1 H1 t l xs zs,Same G G1->Same G1 H1->Same H H1->(∀a,H a≠none->G1 a=G a)->SqT X.K G1 t (.ref l::zs)->G1 l=some (.lst xs)->H l=none->Reps X.K G1 us xs->Reps X.K G1 vs zs->Q (.ref t) H1):tNew X EE d σ H Q:=by
 refine⟨hh,G,G,e,ho.rel (.refl _) sg (fun _ _ h=>h) (fun _ _=>rfl),?_⟩
 rw[hd];intro G' v H' r' s' rn;obtain⟨t,ys,rfl,ht,x,zs,rfl,⟨l,xs,rfl,gl,zl,ru⟩,rv⟩:=rn;exact q G' H' t l xs zs s' r'.sub (fun a o z=>r'.ent a o z fun y=>nomatch y) (fun a z=>r'.gen a z) ht gl zl (RepNs.reps _ ru) (RepNs.reps _ rv)
noncomputable def turnK(k:List S->SR):SR->SR
 |.nx e'=>k (e'.map unOld)
 |.rt (.fr w) e'=>.rt (.fr w) (e'.map fun _=>.no)
 |_=>.no
noncomputable def turnsN(i:Nat)(dB d:List S->SR):List (List W×List W)->List S->SR
 |[],e=>d e
 |g::gs,e=>turnK (turnsN i dB d gs) (dB ((e.map toOldW).set i (.x (.new (.tup (.lst g.1::g.2))))))
structure It where
 l:Addr
 xs:List V
 v:V
 us:List W
 vs:List W
theorem Rel.ofOld(h:OldE K G σ e)(hio:Z.io=[])(sub:Same G H)(ent:∀a o,Z.H a=some o->H a=some o)(gen:∀a,Z.H a≠none->G a=Z.G a):Rel K Z G σ H (e.map unOld):=by
 refine⟨sub,fun i s q=>?_,by rw[w0d];exact h.len,fun i j b b' ws ws' a h1 _ _ _=>?_,fun a o z _=>ent a o z,fun a z=>(by rw[hio]at z;cases z),gen⟩
 ·rw[w0f]at q;obtain⟨s0,h0,rfl⟩:=w0c.mp q;rcases h.at' i s0 h0 with rfl|⟨w,u,rfl,h1,h2⟩
  ·trivial
  ·exact⟨u,h1,h2⟩
 ·rw[w0f]at h1;obtain⟨s0,h0,h2⟩:=w0c.mp h1;rcases h.at' i s0 h0 with rfl|⟨w,u,rfl,_⟩<;>cases h2
theorem Rel.unK{Hk:Hp}(r':Rel K ⟨Hk,G,[]⟩ G' σ' H' e')(hio:Z.io=[])(sub:Same G Hk)(ent:∀a o,Z.H a=some o->Hk a=some o)(gen:∀a,Z.H a≠none->G a=Z.G a):Rel K Z G σ' H' (e'.map unOld):=by
 refine⟨fun a o z=>r'.ent a o (sub a o z) (fun z=>nomatch z),fun i s h=>?_,by rw[w0d];exact r'.len,fun i j b b' ws ws' a h1 _ _ _=>?_,fun a o h _=>r'.ent a o (ent a o h) (fun z=>nomatch z),fun a h=>(by rw[hio]at h;cases h),gen⟩
 ·rw[w0f]at h;obtain⟨s0,h0,rfl⟩:=w0c.mp h;have q:=r'.slot i s0 h0;cases s0 with
  |fr w=>
   show SlotOk K Z G H' (if scalW w=true then .fr w else .no) _;split
   ·rename_i hs;obtain⟨u,q1,q2⟩:=q;exact⟨u,q1,x4l hs q2⟩
   ·trivial
  |x k=>
   cases k with
   |old w=>obtain⟨u,q1,q2,_⟩:=q;exact⟨u,q1,q2⟩
   |_=>trivial
  |_=>trivial
 ·rw[w0f]at h1;obtain⟨s0,_,h2⟩:=w0c.mp h1;cases s0 with
  |fr w=>
   have h2:(if scalW w=true then S.fr w else .no)=.own b ws:=h2;split at h2<;>cases h2
  |x k=>cases k<;>cases h2
  |_=>cases h2
theorem Rel.allNo{Hk:Hp}(r':Rel K ⟨Hk,G,[]⟩ G' σ' H' e')(hio:Z.io=[])(ent:∀a o,Z.H a=some o->Hk a=some o)(gen:∀a,Z.H a≠none->G a=Z.G a):Rel K Z G' σ' H' (e'.map fun _=>.no):=by
 refine⟨r'.sub,fun i s h=>?_,by rw[w0d];exact r'.len,fun i j b b' ws ws' a h1 _ _ _=>?_,fun a o h _=>r'.ent a o (ent a o h) (fun z=>nomatch z),fun a h=>(by rw[hio]at h;cases h),fun a h=>?_⟩
 ·rw[w0f]at h;obtain⟨s0,h0,rfl⟩:=w0c.mp h;trivial
 ·rw[w0f]at h1;obtain⟨s0,_,h2⟩:=w0c.mp h1;cases h2
 ·cases q:Z.H a with
  |none=>exact absurd q h
  |some o=>rw[<- gen a h];exact r'.gen a (by show Hk a≠none;rw[ent a o q];exact fun z=>nomatch z)
theorem Rel.oldE0(r:Rel K Z G σ H e)(hG:Same Z.G Z.H):OldE K G σ (e.map toOldW):=
 r.oldE fun a o z=>by rw[r.gen a (by rw[hG a o z];exact fun z=>nomatch z)];exact z
def tBody(X:Cx)(EE:L2.St->XK)(dB:List S->SR):TS:=fun D σ H=>∃Z':Zt,(∀a,Z'.H a=none->X.H₀ a=none)/\Same Z'.G Z'.H/\Z'.io=[]/\liftW X.K Z' EE dB D σ H
theorem loopN(hX:X.K=K){dB:List S->SR}{L:Addr}{D:Ends}{B:L2.St->Hp->Prop}{its:List It}(hz:∀a,Z.H a=none->X.H₀ a=none)(hG:Same Z.G Z.H)(hio:Z.io=[])
  (rel:Rel K Z G σ H e)(hL:H L=some (.lst (its.map (·.v))))(hl:∀x∈its,H x.l=some (.lst x.xs))(hn:∀x∈its,NewG K G x.l x.xs x.v x.us x.vs/\Z.H x.l=none/\x.l≠L)(hd:its.Pairwise fun x y=>x.l≠y.l)
  (hp:PostW K Z EE D (turnsN i dB d (its.map fun x=>(x.us,x.vs)) e)):
  ∃Pv:Nat->L2.St->Hp->Prop,Pv 0 σ H/\(∀k σ H,k<=(its.map (·.v)).length->Pv k σ H->SqL K H L (its.map (·.v))) /\
   (∀k x σ H,(its.map (·.v))[k]?=some x->Pv k σ H->gName i x σ H fun σ2 H2=>tBody X EE dB {D with nx:=Pv (k+1),ct:=Pv (k+1),bk:=B} σ2 H2) /\
   ∀σ H,Pv (its.map (·.v)).length σ H->liftW K Z EE d D σ H:=by
 subst hX
 refine⟨fun k σ' H'=>∃e',Rel X.K Z G σ' H' e'/\H' L=some (.lst (its.map (·.v)))/\(∀x∈its.drop k,H' x.l=some (.lst x.xs))/\PostW X.K Z EE D (turnsN i dB d ((its.drop k).map fun x=>(x.us,x.vs)) e'),
  ⟨e,rel,hL,hl,hp⟩,fun k σ' H' _ ⟨e',r',h1,_⟩=>SqL.of h1,?_,?_⟩
 ·intro k v σ' H' hk ⟨e',r',h1,h2,h3⟩;rw[w0f]at hk;obtain⟨x,hx,rfl⟩:=w0c.mp hk
  have hdr:its.drop k=x::its.drop (k+1):=by
   obtain⟨hlt,e1⟩:=w0a.mp hx;rw[w2h hlt,e1]
  have hm:x∈its:=w1a hx;obtain⟨n1,n2,n3⟩:=hn x hm;rw[hdr]at h2 h3;have hxl:=h2 x (w1e ..)
  have hpw:∀y∈its.drop (k+1),y.l≠x.l:=fun y hy=>by
   have:=hd.sublist (List.drop_sublist k its);rw[hdr]at this;exact fun z=>(List.pairwise_cons.mp this).1 y hy z.symm
  let Hk:Hp:=fun a=>if a=x.l then none else H' a
  have k1:∀a o,H' a=some o->a≠x.l->Hk a=some o:=fun a o z n=>by show(if a=x.l then none else H' a)=_;rw[if_neg n];exact z
  have k2:∀a o,Hk a=some o->H' a=some o:=fun a o z=>by
   have z:(if a=x.l then none else H' a)=some o:=z;split at z
   ·cases z
   ·exact z
  have kl:Hk x.l=none:=by show(if x.l=x.l then none else H' x.l)=_;rw[if_pos rfl]
  have ent:∀a o,Z.H a=some o->Hk a=some o:=fun a o z=>k1 a o (r'.ent a o z (by rw[hio];exact fun z=>nomatch z)) fun y=>by subst y;rw[n2]at z;cases z
  have sub:Same G Hk:=fun a o z=>k1 a o (r'.sub a o z) fun y=>by subst y;rw[n1.off]at z;cases z
  have su:Same G (upd G x.l (.lst x.xs)):=q2b n1.off _
  have ru:Rel X.K ⟨Hk,G,[]⟩ (upd G x.l (.lst x.xs)) σ' H' (e'.map toOldW):=by
   refine(r'.oldE0 hG).rel su (fun a o z=>?_) k2 fun a z=>?_
   ·by_cases y:a=x.l
    ·subst y;rw[q0g]at z;cases z;exact hxl
    ·rw[q0d y]at z;exact r'.sub a o z
   ·exact q0d fun y=>by subst y;exact z kl
  refine⟨⟨Hk,G,[]⟩,fun a z=>?_,sub,rfl,_,_,ru.setNew (i:=i) (n1.repN kl),?_⟩
  ·refine hz a ?_;cases q:Z.H a with
   |none=>rfl
   |some o=>have:=ent a o q;rw[show Hk a=none from z]at this;cases this
  ·have h3:PostW X.K Z EE D (turnK (turnsN i dB d ((its.drop (k+1)).map fun x=>(x.us,x.vs))) (dB ((e'.map toOldW).set i (.x (.new (.tup (.lst x.us::x.vs))))))):=h3
   revert h3;generalize dB ((e'.map toOldW).set i (.x (.new (.tup (.lst x.us::x.vs)))))=R;intro h3;unfold turnK at h3;split at h3
   ·rename_i e1;intro G1 σ1 H1 r1;refine⟨_,r1.unK hio sub ent r'.gen,r1.ent _ _ (k1 _ _ h1 n3.symm) (fun z=>nomatch z),fun y hy=>r1.ent _ _ (k1 _ _ (h2 y (w0x _ hy)) (hpw y hy)) (fun z=>nomatch z),h3⟩
   ·rename_i w e1;intro G1 σ1 v1 H1 r1 sl;exact h3 G1 σ1 v1 H1 (r1.allNo hio ent r'.gen) sl
   ·exact h3.elim
 ·intro σ' H' ⟨e',r',_,_,h3⟩;rw[w0d,w2r]at h3;exact⟨G,e',r',h3⟩
theorem x13{t:Addr}{zs:List V}{vs:List W}(s:Same G0 G3)(ht:SqT K G3 t (.ref l::zs))(gl:G3 l=some (.lst xs))(g0:G0 l=none)(ru:Reps K G3 us xs)(rv:Reps K G3 vs zs)(fu:flatWs us=true)(fv:flatWs vs=true):NewG K (withT0 G0 G3) l xs (.ref t) us vs:=by
 refine⟨⟨t,zs,rfl,q6q s ht,q4d (fun a xs h=>q6q s h) vs fv rv⟩,q4d (fun a xs h=>q6q s h) us fu ru,?_,fu,fv⟩
 unfold withT0;simp only[g0,gl];rfl
theorem x8g:Same G0 (withT0 G0 G3):=fun a o z=>by unfold withT0;rw[z]
theorem y0p(s:Same G0 H)(s3:Same G3 H):Same (withT0 G0 G3) H:=fun a o z=>by
 unfold withT0 at z;cases q:G0 a with
 |some u=>rw[q]at z;cases z;exact s a _ q
 |none=>
  rw[q]at z;cases q3:G3 a with
  |none=>rw[q3]at z;cases z
  |some u=>
   simp only[q3]at z;split at z
   ·cases z;exact s3 a _ q3
   ·cases z
theorem y28(h:G3 a=G0 a):withT0 G0 G3 a=G0 a:=by
 unfold withT0;cases q:G0 a with
 |some u=>rfl
 |none=>rw[q]at h;simp only[h]
noncomputable def newR(k:List W->List W->SR):R W->SR
 |.ok (.tup (.lst us::vs)) _=>if(flatWs us&&flatWs vs)=true then k us vs else .no
 |_=>.no
noncomputable def dForN(i:Nat)(d1 d2 d3:Den W)(dB d:List S->SR):List S->SR:=fun e=>
 newR (fun u1 v1=>newR (fun u2 v2=>newR (fun u3 v3=>turnsN i dB d [(u1,v1),(u2,v2),(u3,v3)] ((e.map toOldW).map unOld)) (d3 (e.map toOldW))) (d2 (e.map toOldW))) (d1 (e.map toOldW))
theorem x0i{D:Ends}{k:List W->List W->SR}{r:R W}(h:PostW K Z EE D (newR k r)):∃us vs e',r=.ok (.tup (.lst us::vs)) e'/\flatWs us=true/\flatWs vs=true/\PostW K Z EE D (k us vs):=by
 unfold newR at h;split at h
 ·rename_i us vs e';split at h
  ·rename_i hf;rw[w0t]at hf;exact⟨us,vs,e',rfl,hf.1,hf.2,h⟩
  ·exact h.elim
 ·exact h.elim
theorem y0q(i:Nat){pos' lp:Pos}{c1 c2 c3:Expr}{d1 d2 d3:Den W}{body:List Stmt}{dB:List S->SR}(hz:∀a,Z.H a=none->X.H₀ a=none)(hG:Same Z.G Z.H)(hio:Z.io=[])(hN:X.N.Nodup)(hp:PassesOwn (model X.prog X.w) X.A X.env X.xe)(hc:X.calm=true)
  (h1:∀Z',(∀a,Z'.H a=none->X.H₀ a=none)->DN Z' X EE c1 d1)(h2:∀Z',(∀a,Z'.H a=none->X.H₀ a=none)->DN Z' X EE c2 d2)(h3:∀Z',(∀a,Z'.H a=none->X.H₀ a=none)->DN Z' X EE c3 d3)
  (hb:∀Z',(∀a,Z'.H a=none->X.H₀ a=none)->Same Z'.G Z'.H->Z'.io=[]->DSsW Z' X EE body dB)(h:DSsW Z X EE ss d)
  (hi:X.N[i]?=some x:=by rfl)(hx:Loc X.env.scope x:=by walk_at "3")(hf:X.fn x=true\/X.env.scope.names.lookup x=some .local:=by walk_at "2")(hs:∀y,foldedSetIterable (.List [c1,c2,c3] lp) X.env y=pure y:=by intro _;rfl)
  (e1:starEach [c1,c2,c3] X.env=(false,eval c1 X.env)::starEach [c2,c3] X.env:=by rfl)(e2:starEach [c2,c3] X.env=(false,eval c2 X.env)::starEach [c3] X.env:=by rfl)(e3:starEach [c3] X.env=(false,eval c3 X.env)::starEach [] X.env:=by rfl):
  DSsW Z X EE (.For (.Name x pos') (.List [c1,c2,c3] lp) body [] pos::ss) (dForN i d1 d2 d3 dB d):=by
 refine PSs.mono (q1w (x33 hp hc (q8g (x36 (q0o (x43 h1) (q0o (x43 h2) (q0o (x43 h3) q1n e3) e2) e1))) (q4c i hN hi hx hf) (tb:=tBody X EE dB) (fun pins s σ H D I ⟨Z',a,b,c,q⟩=>hb Z' a b c pins s σ H D I q) hs) h) ?_
 rintro D σ H ⟨G0,e,rel,h⟩;obtain⟨u1,v1,f1,q1,fu1,fv1,h⟩:=x0i h;obtain⟨u2,v2,f2,q2,fu2,fv2,h⟩:=x0i h;obtain⟨u3,v3,f3,q3,fu3,fv3,h⟩:=x0i h;have ho:=rel.oldE0 hG;have zH:∀a o,Z.H a=some o->H a=some o:=fun a o z=>rel.ent a o z (by rw[hio];exact fun z=>nomatch z)
 have hH:∀a,H a=none->X.H₀ a=none:=fun a z=>hz a (by
  cases q:Z.H a with
  |none=>rfl
  |some o=>rw[zH a o q]at z;cases z)
 have hup:∀{H H':Hp},Same H H'->(∀a,H a=none->X.H₀ a=none)->∀a,H' a=none->X.H₀ a=none:=fun {H H'} s h a z=>h a (by
  cases q:H a with
  |none=>rfl
  |some o=>rw[s a o q]at z;cases z)
 have nn:∀{H H':Hp}{a:Addr},Same H H'->H' a=none->H a=none:=fun {H H' a} s z=>by
  cases q:H a with
  |none=>rfl
  |some o=>rw[s a o q]at z;cases z
 refine x0h ho rel.sub hH q1 fun G1 H1 t1 l1 xs1 zs1 s1 sb1 sh1 g1 ht1 hl1 z1 ru1 rv1=>?_
 refine x0h (ho.mono s1) sb1 (hup sh1 hH) q2 fun G2 H2 t2 l2 xs2 zs2 s2 sb2 sh2 g2 ht2 hl2 z2 ru2 rv2=>?_
 refine x0h ((ho.mono s1).mono s2) sb2 (hup sh2 (hup sh1 hH)) q3 fun G3 H3 t3 l3 xs3 zs3 s3 sb3 sh3 g3 ht3 hl3 z3 ru3 rv3=>?_
 refine⟨by rw[sizeLine_eq];exact(by decide:3<=16777216),fun L hL=>⟨L,rfl,.inl ⟨⟨_,SqL.of q0g⟩,?_⟩⟩⟩
 have s13:Same G1 G3:=s2.trans s3;have s03:Same G0 G3:=s1.trans s13;have hn1:=x13 s03 (Same.tup s13 ht1) (s13 _ _ hl1) (nn rel.sub z1) (Reps.mono s13 _ ru1) (Reps.mono s13 _ rv1) fu1 fv1;have hn2:=x13 s03 (Same.tup s3 ht2) (s3 _ _ hl2) (nn (rel.sub.trans sh1) z2) (Reps.mono s3 _ ru2) (Reps.mono s3 _ rv2) fu2 fv2;have hn3:=x13 s03 ht3 hl3 (nn (rel.sub.trans (sh1.trans sh2)) z3) ru3 rv3 fu3 fv3;have a1:=sb3 _ _ (s13 _ _ hl1);have a2:=sb3 _ _ (s3 _ _ hl2);have a3:=sb3 _ _ hl3;have L1:l1≠L:=fun y=>by subst y;rw[hL]at a1;cases a1
 have L2:l2≠L:=fun y=>by subst y;rw[hL]at a2;cases a2
 have L3:l3≠L:=fun y=>by subst y;rw[hL]at a3;cases a3
 have zz:∀{a:Addr},H a=none->Z.H a=none:=fun {a} z=>by
  cases q:Z.H a with
  |none=>rfl
  |some o=>rw[zH a o q]at z;cases z
 have hup4:Same H3 (upd H3 L (.lst [.ref t1,.ref t2,.ref t3])):=q2b hL _
 have gen3:∀a,H a≠none->G3 a=G0 a:=fun a z=>by
  cases q:H a with
  |none=>exact absurd q z
  |some o=>rw[g3 a (by rw[sh2 _ _ (sh1 _ _ q)];exact fun z=>nomatch z),g2 a (by rw[sh1 _ _ q];exact fun z=>nomatch z),g1 a z]
 have relb:Rel X.K Z (withT0 G0 G3) σ (upd H3 L (.lst [.ref t1,.ref t2,.ref t3])) ((e.map toOldW).map unOld):=by
  refine Rel.ofOld (ho.mono x8g) hio ((y0p (rel.sub.trans (sh1.trans (sh2.trans sh3))) sb3).trans hup4) (fun a o z=>hup4 _ _ (sh3 _ _ (sh2 _ _ (sh1 _ _ (zH a o z))))) fun a z=>?_
  rw[y28 (gen3 a fun y=>z (zz y))]
  exact rel.gen a z
 have b1:∀x∈([⟨l1,xs1,.ref t1,u1,v1⟩,⟨l2,xs2,.ref t2,u2,v2⟩,⟨l3,xs3,.ref t3,u3,v3⟩]:List It),upd H3 L (.lst [.ref t1,.ref t2,.ref t3]) x.l=some (.lst x.xs)/\NewG X.K (withT0 G0 G3) x.l x.xs x.v x.us x.vs/\Z.H x.l=none/\x.l≠L:=fun x hx=>by
  simp only[w0i,w2i,or_false]at hx;rcases hx with rfl|rfl|rfl
  ·exact⟨hup4 _ _ a1,hn1,zz z1,L1⟩
  ·exact⟨hup4 _ _ a2,hn2,zz (nn sh1 z2),L2⟩
  ·exact⟨hup4 _ _ a3,hn3,zz (nn (sh1.trans sh2) z3),L3⟩
 have b2:([⟨l1,xs1,.ref t1,u1,v1⟩,⟨l2,xs2,.ref t2,u2,v2⟩,⟨l3,xs3,.ref t3,u3,v3⟩]:List It).Pairwise fun x y=>x.l≠y.l:=by
  have d12:l1≠l2:=fun y=>by subst y;rw[sb1 _ _ hl1]at z2;cases z2
  have d13:l1≠l3:=fun y=>by subst y;rw[sh2 _ _ (sb1 _ _ hl1)]at z3;cases z3
  have d23:l2≠l3:=fun y=>by subst y;rw[sb2 _ _ hl2]at z3;cases z3
  refine .cons (fun y hy=>?_) (.cons (fun y hy=>?_) (.cons (fun y hy=>nomatch hy) .nil))
  ·simp only[w0i,w2i,or_false]at hy;rcases hy with rfl|rfl
   ·exact d12
   ·exact d13
  ·simp only[w0i,w2i,or_false]at hy;subst hy;exact d23
 obtain⟨Pv,p0,p1,p2,p3⟩:=loopN (X:=X) (EE:=EE) (L:=L) (B:=fun σ H=>liftW X.K Z EE d D σ H) rfl hz hG hio relb q0g (fun x hx=>(b1 x hx).1) (fun x hx=>(b1 x hx).2) b2 h
 exact x34 Pv p0 p1 p2 p3
noncomputable def mutN2K(d:List S->SR)(e:List S):Option S->Option S->SR
 |some (.x (.new (.tup (.lst us::_)))),some (.x (.new (.tup (.lst vs::_))))=>if us.length<16777215/\vs.length<16777215 then d (e.map rew)else .no
 |_,_=>.no
noncomputable def dMutN2(i j:Nat)(d:List S->SR):List S->SR:=fun e=>mutN2K d e e[i]? e[j]?
theorem y29{lx:Addr}{ys:List V}(s:∀c u,H c=some u->c≠lx->H' c=some u)(h:SqT K H a xs)(hx:H lx=some (.lst ys)):SqT K H' a xs:=by
 rcases h with(h|⟨o,h⟩)|h
 ·exact .inl (.inl (s _ _ h (q06 h hx fun y=>nomatch y)))
 ·exact .inl (.inr ⟨o,s _ _ h (q06 h hx fun y=>nomatch y)⟩)
 ·exact .inr h
theorem x8h(i j:Nat){xp ap1 cp1 tp sp i0 i1 i2 pos1 kp xp' ap1' cp1' tp' sp' i0' i1' i2' pos1' kp':Pos}{kk k0 k1 k2 tk n0 n1 n2 kk' k0' k1' k2' tk' n0' n1' n2'}(hG:Same Z.G Z.H)(hio:Z.io=[])(h:DSsW Z X EE ss d)(hN:X.N[i]?=some x:=by rfl)(hv:Vis X.env.scope x:=by walk_at "1")(hd:(x==("__debug__":Str))=false:=by decide)(hcd:(x==("__classdict__":Str))=false:=by decide)
  (hs0:PlainIx (.Constant (.int ((0:Nat):Int)) kk kp):=by intro _ _;rfl)
  (hb1:attributeBase (.Subscript (.Name x xp) (.Constant (.int ((0:Nat):Int)) kk kp) sp) "append" X.env (eval (.Subscript (.Name x xp) (.Constant (.int ((0:Nat):Int)) kk kp) sp) X.env)=eval (.Subscript (.Name x xp) (.Constant (.int ((0:Nat):Int)) kk kp) sp) X.env:=by rfl)
  (hfew:((backTo cp1 (starEach [.Tuple [.Constant (.int n0) k0 i0,.Constant (.int n1) k1 i1,.Constant (.int n2) k2 i2] tk tp] X.env)).all (fun x=>!x.1)&&(backToKw cp1 (keywordEach [] X.env)).all (fun x=>x.1.isSome)&&decide (([.Tuple [.Constant (.int n0) k0 i0,.Constant (.int n1) k1 i1,.Constant (.int n2) k2 i2] tk tp]:List Expr).length+([]:List Keyword).length+(if([]:List Keyword).isEmpty then 0 else 1)<30))=true:=by rfl)
  (hl1:(ap1.endLine==cp1.line)=true:=by rfl)(hs:starEach [.Tuple [.Constant (.int n0) k0 i0,.Constant (.int n1) k1 i1,.Constant (.int n2) k2 i2] tk tp] X.env=(false,eval (.Tuple [.Constant (.int n0) k0 i0,.Constant (.int n1) k1 i1,.Constant (.int n2) k2 i2] tk tp) X.env)::starEach [] X.env:=by rfl)
  (ht1:starEach [.Constant (.int n0) k0 i0,.Constant (.int n1) k1 i1,.Constant (.int n2) k2 i2] X.env=(false,eval (.Constant (.int n0) k0 i0) X.env)::starEach [.Constant (.int n1) k1 i1,.Constant (.int n2) k2 i2] X.env:=by rfl)
  (ht2:starEach [.Constant (.int n1) k1 i1,.Constant (.int n2) k2 i2] X.env=(false,eval (.Constant (.int n1) k1 i1) X.env)::starEach [.Constant (.int n2) k2 i2] X.env:=by rfl)
  (ht3:starEach [.Constant (.int n2) k2 i2] X.env=(false,eval (.Constant (.int n2) k2 i2) X.env)::starEach [] X.env:=by rfl)
  (hpl:(backTo cp1 (starEach [] X.env)).any (·.1)=false:=by rfl)
  (hw1:swapsWith (.Call (.Attribute (.Subscript (.Name x xp) (.Constant (.int ((0:Nat):Int)) kk kp) sp) "append" ap1) [.Tuple [.Constant (.int n0) k0 i0,.Constant (.int n1) k1 i1,.Constant (.int n2) k2 i2] tk tp] [] cp1) none pos1.line X.env=pure false:=by rfl)
  (hN':X.N[j]?=some y:=by rfl)(hv':Vis X.env.scope y:=by walk_at "1")(hd':(y==("__debug__":Str))=false:=by decide)(hcd':(y==("__classdict__":Str))=false:=by decide)
  (hs0':PlainIx (.Constant (.int ((0:Nat):Int)) kk' kp'):=by intro _ _;rfl)
  (hb1':attributeBase (.Subscript (.Name y xp') (.Constant (.int ((0:Nat):Int)) kk' kp') sp') "append" X.env (eval (.Subscript (.Name y xp') (.Constant (.int ((0:Nat):Int)) kk' kp') sp') X.env)=eval (.Subscript (.Name y xp') (.Constant (.int ((0:Nat):Int)) kk' kp') sp') X.env:=by rfl)
  (hfew':((backTo cp1' (starEach [.Tuple [.Constant (.int n0') k0' i0',.Constant (.int n1') k1' i1',.Constant (.int n2') k2' i2'] tk' tp'] X.env)).all (fun x=>!x.1)&&(backToKw cp1' (keywordEach [] X.env)).all (fun x=>x.1.isSome)&&decide (([.Tuple [.Constant (.int n0') k0' i0',.Constant (.int n1') k1' i1',.Constant (.int n2') k2' i2'] tk' tp']:List Expr).length+([]:List Keyword).length+(if([]:List Keyword).isEmpty then 0 else 1)<30))=true:=by rfl)
  (hl1':(ap1'.endLine==cp1'.line)=true:=by rfl)(hs':starEach [.Tuple [.Constant (.int n0') k0' i0',.Constant (.int n1') k1' i1',.Constant (.int n2') k2' i2'] tk' tp'] X.env=(false,eval (.Tuple [.Constant (.int n0') k0' i0',.Constant (.int n1') k1' i1',.Constant (.int n2') k2' i2'] tk' tp') X.env)::starEach [] X.env:=by rfl)
  (ht1':starEach [.Constant (.int n0') k0' i0',.Constant (.int n1') k1' i1',.Constant (.int n2') k2' i2'] X.env=(false,eval (.Constant (.int n0') k0' i0') X.env)::starEach [.Constant (.int n1') k1' i1',.Constant (.int n2') k2' i2'] X.env:=by rfl)
  (ht2':starEach [.Constant (.int n1') k1' i1',.Constant (.int n2') k2' i2'] X.env=(false,eval (.Constant (.int n1') k1' i1') X.env)::starEach [.Constant (.int n2') k2' i2'] X.env:=by rfl)
  (ht3':starEach [.Constant (.int n2') k2' i2'] X.env=(false,eval (.Constant (.int n2') k2' i2') X.env)::starEach [] X.env:=by rfl)
  (hpl':(backTo cp1' (starEach [] X.env)).any (·.1)=false:=by rfl)
  (hw1':swapsWith (.Call (.Attribute (.Subscript (.Name y xp') (.Constant (.int ((0:Nat):Int)) kk' kp') sp') "append" ap1') [.Tuple [.Constant (.int n0') k0' i0',.Constant (.int n1') k1' i1',.Constant (.int n2') k2' i2'] tk' tp'] [] cp1') none pos1'.line X.env=pure false:=by rfl):
  DSsW Z X EE (.Expr (.Call (.Attribute (.Subscript (.Name x xp) (.Constant (.int ((0:Nat):Int)) kk kp) sp) "append" ap1) [.Tuple [.Constant (.int n0) k0 i0,.Constant (.int n1) k1 i1,.Constant (.int n2) k2 i2] tk tp] [] cp1) pos1 ::
   .Expr (.Call (.Attribute (.Subscript (.Name y xp') (.Constant (.int ((0:Nat):Int)) kk' kp') sp') "append" ap1') [.Tuple [.Constant (.int n0') k0' i0',.Constant (.int n1') k1' i1',.Constant (.int n2') k2' i2'] tk' tp'] [] cp1') pos1'::ss) (dMutN2 i j d):=by
 refine PSs.mono (q1w (q6w (q8b (pe_ix ix_tup (pv i hN hv hd hcd) q1m hs0) (q0o (q55 (q0o q1m (q0o q1m (q0o q1m q1n ht3) ht2) ht1)) q1n hs) hb1 hfew hl1 hs hpl) hw1)
  (q1w (q6w (q8b (pe_ix ix_tup (pv j hN' hv' hd' hcd') q1m hs0') (q0o (q55 (q0o q1m (q0o q1m (q0o q1m q1n ht3') ht2') ht1')) q1n hs') hb1' hfew' hl1' hs' hpl') hw1') h)) ?_
 rintro D σ H ⟨G,e,rel,h⟩;unfold dMutN2 mutN2K at h;split at h
 ·rename_i us rest vs rest' hei hej;split at h
  ·rename_i hlen;obtain⟨u,g1,t,xs,rfl,ht,rx⟩:=rel.slot i _ hei;have hvi:σ[i]?=some (some (.ref t)):=rel.at hei fun _=>g1
   obtain⟨v,hv0,rv⟩:=rx.get (k:=0) rfl;obtain⟨lx,ys,rfl,hlx,zlx,ry⟩:=rv;obtain⟨u2,g2,t2,xs2,rfl,ht2,rx2⟩:=rel.slot j _ hej;have hvj:σ[j]?=some (some (.ref t2)):=rel.at hej fun _=>g2
   obtain⟨v2,hv02,rv2⟩:=rx2.get (k:=0) rfl;obtain⟨ly,zs,rfl,hly,zly,rz⟩:=rv2;have HX:=rel.sub _ _ hlx;have HY:=rel.sub _ _ hly;have lenx:=ry.length;have lenz:=rz.length;refine⟨.ref t,hvi,t,xs,((0:Nat):Int),.ref lx,rfl,rfl,rel.sub.tup ht,q44 hv0,.inl ⟨rfl,ys,SqL.of HX⟩,by rw[sizeLine_eq];exact(by decide:3<=16777216),fun q hq=>?_⟩
   have nx:lx≠q:=fun z=>by subst z;rw[HX]at hq;cases hq
   refine⟨lx,ys,.ref q,rfl,rfl,by rw[q0d nx];exact HX,by rw[sizeLine_eq];omega,?_⟩
   have same:∀c u,H c=some u->c≠lx->upd (upd H q (.tup [.int n0,.int n1,.int n2])) lx (.lst (ys++[.ref q])) c=some u:=fun c u z n0=>by
    have nq:c≠q:=fun y=>by subst y;rw[z]at hq;cases hq
    rw[q0d n0,q0d nq];exact z
   obtain⟨qs,hqs,hql⟩:∃qs,upd (upd H q (.tup [.int n0,.int n1,.int n2])) lx (.lst (ys++[.ref q])) ly=some (.lst qs)/\qs.length<16777216:=by
    by_cases z:ly=lx
    ·subst z;exact⟨_,q0g,by rw[w0h];simp only[w0q,w1g];omega⟩
    ·exact⟨zs,same _ _ HY z,by omega⟩
   refine⟨.ref t2,hvj,t2,xs2,((0:Nat):Int),.ref ly,rfl,rfl,y29 same (rel.sub.tup ht2) HX,q44 hv02,.inl ⟨rfl,qs,SqL.of hqs⟩,by rw[sizeLine_eq];exact(by decide:3<=16777216),fun q2 hq2=>?_⟩
   have ny:ly≠q2:=fun z=>by subst z;rw[hqs]at hq2;cases hq2
   refine⟨ly,qs,.ref q2,rfl,rfl,by rw[q0d ny];exact hqs,by rw[sizeLine_eq];omega,Z.G,e.map rew,?_,h⟩
   have same2:∀c u,H c=some u->c≠lx->c≠ly->upd (upd (upd (upd H q (.tup [.int n0,.int n1,.int n2])) lx (.lst (ys++[.ref q]))) q2 (.tup [.int n0',.int n1',.int n2'])) ly (.lst (qs++[.ref q2])) c=some u:=fun c u z m0 m1=>by
    have:=same c u z m0;have nq:c≠q2:=fun y=>by subst y;rw[this]at hq2;cases hq2
    rw[q0d m1,q0d nq];exact this
   refine rel.rew hG hio (fun c u z=>same2 c u (rel.ent c u z (by rw[hio];exact fun z=>nomatch z)) ?_ ?_) fun c o ys z=>same2 c _ z (q06 z HX fun y=>nomatch y) (q06 z HY fun y=>nomatch y)
   ·exact fun y=>by subst y;rw[zlx]at z;cases z
   ·exact fun y=>by subst y;rw[zly]at z;cases z
  ·exact h.elim
 ·exact h.elim
section
variable{d1 d2 d3:Den W}{dB:List S->SR}{vs:List W}
theorem y7m:dForN i d1 d2 d3 dB d e=newR (fun u1 v1=>newR (fun u2 v2=>newR (fun u3 v3=>turnsN i dB d [(u1,v1),(u2,v2),(u3,v3)] ((e.map toOldW).map unOld)) (d3 (e.map toOldW))) (d2 (e.map toOldW))) (d1 (e.map toOldW)):=rfl
theorem x68{k:List W->List W->SR}:newR k (.ok (.tup (.lst us::vs)) e')=if(flatWs us&&flatWs vs)=true then k us vs else .no:=rfl
theorem x8i:turnsN i dB d [] e=d e:=rfl
theorem x6b{gs:List (List W×List W)}:turnsN i dB d ((us,vs)::gs) e=turnK (turnsN i dB d gs) (dB ((e.map toOldW).set i (.x (.new (.tup (.lst us::vs)))))):=rfl
theorem y3a{k:List S->SR}:turnK k (.nx e')=k (e'.map unOld):=rfl
theorem y3b{k:List S->SR}:turnK k (.rt (.fr w) e')=.rt (.fr w) (e'.map fun _=>.no):=rfl
theorem y7n:toOldW (.x (.old w))=.x (.old w):=rfl
theorem z05:toOldW (.fr w)=.x (.old w):=rfl
theorem z06:toOldW .no=.no:=rfl
theorem y7o:toOldW (.x (.new w))=.no:=rfl
theorem y3c{j:Nat}:dMutN2 i j d e=mutN2K d e e[i]? e[j]?:=rfl
theorem y3d{us' vs':List W}:mutN2K d e (some (.x (.new (.tup (.lst us::us'))))) (some (.x (.new (.tup (.lst vs::vs')))))=if us.length<16777215/\vs.length<16777215 then d (e.map rew)else .no:=rfl
end
end D
namespace Q
open PySem L2 D
variable{f:Addr}{A:Around}{b:Bool}{H:Hp}{j:Int}{row:List Bool}{gs gs1 gs2 ns ns1 ns2:List Nd}{e:List S}{ws:List W}{R1 i m n p r r1 r2:Nat}{x:Nd}{K:PySem.W.Frag}{s:Shared}{mg:Str->Option Value}{α:Type}{cdv:Value}{E:XK}{Z:Zt}
seal DN DNA DSsW DE DF DT DW DA DS DSs DTs DO DFm PE PT PW PA PS PSs PG PGs PI PF PTs PC OpR UnR IxR CallR TruR MtR MtM SlR PO
theorem us1{P:List α->Prop}(h:∀x0,P [x0]):∀us:List α,us.length=1->P us
 |[x0],_=>h x0
theorem us2{P:List α->Prop}(h:∀x0 x1,P [x0,x1]):∀us:List α,us.length=2->P us
 |[x0,x1],_=>h x0 x1
theorem us3{P:List α->Prop}(h:∀x0 x1 x2,P [x0,x1,x2]):∀us:List α,us.length=3->P us
 |[x0,x1,x2],_=>h x0 x1 x2
theorem us4{P:List α->Prop}(h:∀x0 x1 x2 x3,P [x0,x1,x2,x3]):∀us:List α,us.length=4->P us
 |[x0,x1,x2,x3],_=>h x0 x1 x2 x3
theorem us5{P:List α->Prop}(h:∀x0 x1 x2 x3 x4,P [x0,x1,x2,x3,x4]):∀us:List α,us.length=5->P us
 |[x0,x1,x2,x3,x4],_=>h x0 x1 x2 x3 x4
noncomputable def top(i:Nat):Stmt:=PySem.Challenge.pw_circuits_k30_turned_and_joined.main.body.getD i (.Pass ⟨0,0,0,0⟩)
structure Blt(mg:Str->Option Value):Prop where
 b_all:mg "all"=none
 b_bool:mg "bool"=none
 b_int:mg "int"=none
 b_isinstance:mg "isinstance"=none
 b_len:mg "len"=none
 b_list:mg "list"=none
 b_max:mg "max"=none
 b_min:mg "min"=none
 b_range:mg "range"=none
 b_tuple:mg "tuple"=none
structure Adr where
 none:Unit
variable{a:Adr}
structure Exs(K:PySem.W.Frag)(mg:Str->Option Value)(a:Adr):Prop where
 z:True
 t_NoneType_int:kitOne K (.type "NoneType") (.type "int")=some false
 t_bool_int:kitOne K (.type "bool") (.type "int")=some true
 t_int_int:kitOne K (.type "int") (.type "int")=some true
 t_str_int:kitOne K (.type "str") (.type "int")=some false
 t_tuple_int:kitOne K (.type "tuple") (.type "int")=some false
 t_list_int:kitOne K (.type "list") (.type "int")=some false
 t_NoneType_bool:kitOne K (.type "NoneType") (.type "bool")=some false
 t_bool_bool:kitOne K (.type "bool") (.type "bool")=some true
 t_int_bool:kitOne K (.type "int") (.type "bool")=some false
 t_str_bool:kitOne K (.type "str") (.type "bool")=some false
 t_tuple_bool:kitOne K (.type "tuple") (.type "bool")=some false
 t_list_bool:kitOne K (.type "list") (.type "bool")=some false
 t_NoneType_tuple:kitOne K (.type "NoneType") (.type "tuple")=some false
 t_bool_tuple:kitOne K (.type "bool") (.type "tuple")=some false
 t_int_tuple:kitOne K (.type "int") (.type "tuple")=some false
 t_str_tuple:kitOne K (.type "str") (.type "tuple")=some false
 t_tuple_tuple:kitOne K (.type "tuple") (.type "tuple")=some true
 t_list_tuple:kitOne K (.type "list") (.type "tuple")=some false
 t_NoneType_list:kitOne K (.type "NoneType") (.type "list")=some false
 t_bool_list:kitOne K (.type "bool") (.type "list")=some false
 t_int_list:kitOne K (.type "int") (.type "list")=some false
 t_str_list:kitOne K (.type "str") (.type "list")=some false
 t_tuple_list:kitOne K (.type "tuple") (.type "list")=some false
 t_list_list:kitOne K (.type "list") (.type "list")=some true
 nt:NoTup K
noncomputable abbrev q3f:Nat:=0
noncomputable abbrev q5g:Nat:=1
noncomputable abbrev q2l:Nat:=2
noncomputable abbrev q3a:Nat:=3
noncomputable abbrev q2m:Nat:=4
noncomputable abbrev q3b:Nat:=6
noncomputable abbrev q3g:Nat:=7
noncomputable abbrev q2d:Nat:=8
noncomputable abbrev q2j:Nat:=9
noncomputable abbrev q0y:Nat:=10
noncomputable abbrev q1l:Nat:=11
noncomputable abbrev q2n:Nat:=12
noncomputable abbrev q3s:Nat:=13
noncomputable abbrev q18:Nat:=14
noncomputable abbrev q04:Nat:=15
noncomputable abbrev q2o:Nat:=16
noncomputable abbrev q16:Nat:=17
noncomputable abbrev q1z:Nat:=18
noncomputable abbrev q3h:Nat:=19
noncomputable abbrev q1b:Nat:=20
noncomputable abbrev q1g:Nat:=21
noncomputable abbrev q3x:Nat:=22
noncomputable abbrev q2p:Nat:=23
noncomputable abbrev q2s:Nat:=24
noncomputable abbrev q2e:Nat:=25
noncomputable abbrev q2f:Nat:=26
noncomputable abbrev q09:Nat:=27
noncomputable abbrev q2z:Nat:=28
noncomputable abbrev q20:Nat:=29
noncomputable abbrev q21:Nat:=30
noncomputable abbrev q2q:Nat:=31
noncomputable abbrev q2g:Nat:=32
noncomputable abbrev q6r:Nat:=33
noncomputable abbrev q10:Stmt:=top 1
theorem x44:FnScope ["form"] ["form"] (defScope q10):=⟨rfl,rfl,rfl,by decide +kernel,rfl,by decide +kernel,by decide +kernel⟩
noncomputable abbrev q4a:Stmt:=top 2
theorem y3e:FnScope ["word", "form", "other"] ["word", "form", "other"] (defScope q4a):=⟨rfl,rfl,rfl,by decide +kernel,rfl,by decide +kernel,by decide +kernel⟩
noncomputable abbrev q1p:Stmt:=top 3
theorem x3c:FnScope ["word", "truth", "form"] ["word", "truth", "form"] (defScope q1p):=⟨rfl,rfl,rfl,by decide +kernel,rfl,by decide +kernel,by decide +kernel⟩
noncomputable abbrev q2t:Stmt:=top 5
theorem sc_least_graph:FnScope ["begin", "ask", "nodes", "first"] ["begin", "ask"] (defScope q2t):=⟨rfl,rfl,rfl,by decide +kernel,rfl,by decide +kernel,by decide +kernel⟩
noncomputable abbrev q25:Stmt:=top 6
theorem sc_number_for:FnScope ["thing", "ask", "nodes", "numbers", "seen", "told", "low", "high"] ["thing", "ask", "nodes", "numbers", "seen"] (defScope q25):=⟨rfl,rfl,rfl,by decide +kernel,rfl,by decide +kernel,by decide +kernel⟩
noncomputable abbrev q2u:Stmt:=top 7
theorem x14:FnScope ["node", "nodes", "numbers"] ["node", "nodes", "numbers"] (defScope q2u):=⟨rfl,rfl,rfl,by decide +kernel,rfl,by decide +kernel,by decide +kernel⟩
noncomputable abbrev q22:Stmt:=top 8
theorem x8j:FnScope ["graph", "number"] ["graph", "number"] (defScope q22):=⟨rfl,rfl,rfl,by decide +kernel,rfl,by decide +kernel,by decide +kernel⟩
noncomputable abbrev q3i:Stmt:=top 9
theorem y0r:FnScope ["number"] ["number"] (defScope q3i):=⟨rfl,rfl,rfl,by decide +kernel,rfl,by decide +kernel,by decide +kernel⟩
noncomputable abbrev q26:Stmt:=top 10
theorem sc_turned:FnScope ["graph", "nodes"] ["graph"] (defScope q26):=⟨rfl,rfl,rfl,by decide +kernel,rfl,by decide +kernel,by decide +kernel⟩
noncomputable abbrev q11:Stmt:=top 11
theorem x45:FnScope ["number"] ["number"] (defScope q11):=⟨rfl,rfl,rfl,by decide +kernel,rfl,by decide +kernel,by decide +kernel⟩
noncomputable abbrev q2v:Stmt:=top 12
theorem y0s:FnScope ["word", "graph", "other"] ["word", "graph", "other"] (defScope q2v):=⟨rfl,rfl,rfl,by decide +kernel,rfl,by decide +kernel,by decide +kernel⟩
noncomputable abbrev q01:Stmt:=top 13
theorem sc_told_of_pair:FnScope ["word", "graph", "other", "pair", "known", "sides", "place", "low", "high"] ["word", "graph", "other", "pair"] (defScope q01):=⟨rfl,rfl,rfl,by decide +kernel,rfl,by decide +kernel,by decide +kernel⟩
noncomputable abbrev q1q:Stmt:=top 14
theorem x3d:FnScope ["number"] ["number"] (defScope q1q):=⟨rfl,rfl,rfl,by decide +kernel,rfl,by decide +kernel,by decide +kernel⟩
noncomputable abbrev q23:Stmt:=top 15
theorem x8k:FnScope ["graph", "number", "place", "truth"] ["graph", "number", "place", "truth"] (defScope q23):=⟨rfl,rfl,rfl,by decide +kernel,rfl,by decide +kernel,by decide +kernel⟩
noncomputable abbrev q4b:Stmt:=top 17
theorem sc_graph:FnScope ["form", "word"] ["form"] (defScope q4b):=⟨rfl,rfl,rfl,by decide +kernel,rfl,by decide +kernel,by decide +kernel⟩
noncomputable abbrev q1c:Stmt:=top 19
theorem x07:FnScope ["_law_script", "_law_k"] ["_law_script", "_law_k"] (defScope q1c):=⟨rfl,rfl,rfl,by decide +kernel,rfl,by decide +kernel,by decide +kernel⟩
noncomputable abbrev q1r:Stmt:=top 20
theorem x3e:FnScope ["_law_found"] ["_law_found"] (defScope q1r):=⟨rfl,rfl,rfl,by decide +kernel,rfl,by decide +kernel,by decide +kernel⟩
noncomputable abbrev q1s:Stmt:=top 21
theorem sc__law_mixed:FnScope ["_law_cell", "_law_k", "_law_many_here", "_law_some", "_law_made"] ["_law_cell", "_law_k", "_law_many_here"] (defScope q1s):=⟨rfl,rfl,rfl,by decide +kernel,rfl,by decide +kernel,by decide +kernel⟩
noncomputable abbrev q12:Stmt:=top 22
theorem x46:FnScope ["_law_cell", "_law_many_here"] ["_law_cell", "_law_many_here"] (defScope q12):=⟨rfl,rfl,rfl,by decide +kernel,rfl,by decide +kernel,by decide +kernel⟩
noncomputable abbrev q13:Stmt:=top 23
theorem sc__law_deep:FnScope ["_law_cell", "_law_many_here", "_law_tall", "_law_form", "_law_k", "_law_way"] ["_law_cell", "_law_many_here", "_law_tall"] (defScope q13):=⟨rfl,rfl,rfl,by decide +kernel,rfl,by decide +kernel,by decide +kernel⟩
noncomputable abbrev q1d:Stmt:=top 24
theorem sc__law_form_by:FnScope ["_law_cells_here", "_law_many_here", "_law_stack", "_law_cell", "_law_way", "_law_other"] ["_law_cells_here", "_law_many_here"] (defScope q1d):=⟨rfl,rfl,rfl,by decide +kernel,rfl,by decide +kernel,by decide +kernel⟩
noncomputable abbrev q1t:Stmt:=top 25
theorem sc__law_truth:FnScope ["_law_form", "_law_row_here", "_law_both"] ["_law_form", "_law_row_here"] (defScope q1t):=⟨rfl,rfl,rfl,by decide +kernel,rfl,by decide +kernel,by decide +kernel⟩
noncomputable abbrev q17:Stmt:=top 26
theorem x6c:FnScope ["_law_cell", "_law_many_here"] ["_law_cell", "_law_many_here"] (defScope q17):=⟨rfl,rfl,rfl,by decide +kernel,rfl,by decide +kernel,by decide +kernel⟩
noncomputable abbrev q1u:Stmt:=top 27
theorem sc__law_count:FnScope ["_law_many_here", "_law_count_here", "_law_k"] ["_law_many_here"] (defScope q1u):=⟨rfl,rfl,rfl,by decide +kernel,rfl,by decide +kernel,by decide +kernel⟩
noncomputable abbrev q1j:Stmt:=top 28
theorem sc__law_row_of:FnScope ["_law_number", "_law_many_here", "_law_found", "_law_k"] ["_law_number", "_law_many_here"] (defScope q1j):=⟨rfl,rfl,rfl,by decide +kernel,rfl,by decide +kernel,by decide +kernel⟩
noncomputable abbrev q08:Stmt:=top 29
theorem x08:FnScope ["_law_node", "_law_many_here"] ["_law_node", "_law_many_here"] (defScope q08):=⟨rfl,rfl,rfl,by decide +kernel,rfl,by decide +kernel,by decide +kernel⟩
noncomputable abbrev q1e:Stmt:=top 30
theorem sc__law_reached:FnScope ["_law_nodes", "_law_begin", "_law_order", "_law_waiting", "_law_seen", "_law_one"] ["_law_nodes", "_law_begin"] (defScope q1e):=⟨rfl,rfl,rfl,by decide +kernel,rfl,by decide +kernel,by decide +kernel⟩
noncomputable abbrev q02:Stmt:=top 31
theorem sc__law_is_least:FnScope ["_law_found", "_law_nodes", "_law_k", "_law_at"] ["_law_found"] (defScope q02):=⟨rfl,rfl,rfl,by decide +kernel,rfl,by decide +kernel,by decide +kernel⟩
noncomputable abbrev q14:Stmt:=top 32
theorem sc__law_walk:FnScope ["_law_found", "_law_row_here", "_law_at", "_law_node"] ["_law_found", "_law_row_here"] (defScope q14):=⟨rfl,rfl,rfl,by decide +kernel,rfl,by decide +kernel,by decide +kernel⟩
noncomputable abbrev q1k:Stmt:=top 33
theorem x47:FnScope ["_law_cell", "_law_many_here"] ["_law_cell", "_law_many_here"] (defScope q1k):=⟨rfl,rfl,rfl,by decide +kernel,rfl,by decide +kernel,by decide +kernel⟩
noncomputable abbrev q15:Stmt:=top 34
theorem x48:FnScope ["_law_cell"] ["_law_cell"] (defScope q15):=⟨rfl,rfl,rfl,by decide +kernel,rfl,by decide +kernel,by decide +kernel⟩
noncomputable abbrev q1h:Stmt:=top 35
theorem x3f:FnScope ["_law_cells_here"] ["_law_cells_here"] (defScope q1h):=⟨rfl,rfl,rfl,by decide +kernel,rfl,by decide +kernel,by decide +kernel⟩
noncomputable abbrev q1f:Stmt:=top 36
theorem x09:FnScope ["_law_word", "_law_one", "_law_other"] ["_law_word", "_law_one", "_law_other"] (defScope q1f):=⟨rfl,rfl,rfl,by decide +kernel,rfl,by decide +kernel,by decide +kernel⟩
noncomputable abbrev q40:Stmt:=top 37
theorem sc_law:FnScope ["_law_script", "_law_many_here", "_law_cells_here", "_law_one", "_law_two", "_law_word", "_law_ones", "_law_twos", "_law_kept", "_law_other", "_law_both", "_law_row_here", "_law_truths", "_law_same"] ["_law_script"] (defScope q40):=⟨rfl,rfl,rfl,by decide +kernel,rfl,by decide +kernel,by decide +kernel⟩
noncomputable abbrev q7r:Expr:=(argAt 1 (stVal (stAt 0 q2v)))
noncomputable abbrev q3y:Lm:=⟨("joined"++".<locals>.")++"<lambda>", lamParams q7r,lamBody q7r,lamScope q7r,["word", "graph", "other"]⟩
noncomputable abbrev q0x:Nat:=34
noncomputable def lams:Nat->Option Lm
 |34=>some q3y
 |_=>none
noncomputable def q4l(K:PySem.W.Frag)(a:Adr)(r:Nat->List W->FR):Den W:=
 (dCall (r q1l) (dCons (dVar 1) (dCons (dVar 2) (dCons (dVar 3) (dCons (dVar 0) dNil)))))
noncomputable def q4s(K:PySem.W.Frag)(a:Adr)(r:Nat->List W->FR):List S->SR:=
 (dSeq (dIfS (dTest (dOp eq2 (dOp ixW (dVar 0) (dC (.int 0))) (dC (.str "is"))))
  (dRet (dTup (dCons (dC (.str "is")) (dCons (dNotV (dOp ixW (dVar 0) (dC (.int 1)))) dNil))))
  dNx)
  (dRet (dTup (dCons (dC (.str "not")) (dCons (dVar 0) dNil)))))
noncomputable def q63(K:PySem.W.Frag)(a:Adr)(r:Nat->List W->FR):List S->SR:=
 (dSeq (dIfS (dTest (dOp eq2 (dOp ixW (dVar 1) (dC (.int 0))) (dC (.str "is"))))
  (dRet (dCall (r q2l) (dCons (dVar 0) (dCons (dOp ixW (dVar 1) (dC (.int 1))) (dCons (dVar 2) dNil)))))
  dNx)
  (dSeq (dIfS (dTest (dOp eq2 (dOp ixW (dVar 2) (dC (.int 0))) (dC (.str "is"))))
  (dRet (dCall (r q2l) (dCons (dVar 0) (dCons (dOp ixW (dVar 2) (dC (.int 1))) (dCons (dVar 1) dNil)))))
  dNx)
  (dRet (dTup (dCons (dVar 0) (dCons (dVar 1) (dCons (dVar 2) dNil)))))))
noncomputable def q4e(K:PySem.W.Frag)(a:Adr)(r:Nat->List W->FR):List S->SR:=
 (dSeq (dIfS (dTest (dOp eq2 (dVar 0) (dC (.str "and"))))
  (dRet (dIf (dTru (dVar 1)) (dVar 2) (dTup (dCons (dC (.str "is")) (dCons (dC (.bl false)) dNil)))))
  dNx)
  (dSeq (dIfS (dTest (dOp eq2 (dVar 0) (dC (.str "or"))))
  (dRet (dIf (dTru (dVar 1)) (dTup (dCons (dC (.str "is")) (dCons (dC (.bl true)) dNil))) (dVar 2)))
  dNx)
  (dRet (dIf (dTru (dVar 1)) (dCall (r q3f) (dCons (dVar 2) dNil)) (dVar 2)))))
noncomputable def q5r(K:PySem.W.Frag)(a:Adr)(r:Nat->List W->FR):List S->SR:=
 (dRet (dOp ixW (dOp ixW (dVar 0) (dC (.int 0))) (dOp subW (dVar 1) (dC (.int 2)))))
noncomputable def q6e(K:PySem.W.Frag)(a:Adr)(r:Nat->List W->FR):List S->SR:=
 (dRet (dOp ltW (dVar 0) (dC (.int 2))))
noncomputable def q7s(K:PySem.W.Frag)(a:Adr)(r:Nat->List W->FR):Den W:=
 (dTup (dCons (dOp ixW (dVar 0) (dC (.int 0))) (dCons (dCall (r q2j) (dCons (dOp ixW (dVar 0) (dC (.int 1))) dNil)) (dCons (dCall (r q2j) (dCons (dOp ixW (dVar 0) (dC (.int 2))) dNil)) dNil))))
noncomputable def q6f(K:PySem.W.Frag)(a:Adr)(r:Nat->List W->FR):List S->SR:=
 (dSeq (dSetO 1 (dComp [] (dOp ixW (dVar 0) (dC (.int 0))) dYes (q7s K a r)))
  (dRetNw (dTup (dCons (dNOwn 1) (dCons (dFlat (dCall (r q2j) (dCons (dOp ixW (dVar 0) (dC (.int 1))) dNil))) dNil)))))
noncomputable def q4t(K:PySem.W.Frag)(a:Adr)(r:Nat->List W->FR):List S->SR:=
 (dRet (dIf (dTru (dCall (r q3g) (dCons (dVar 0) dNil))) (dOp subW (dC (.int 1)) (dVar 0)) (dVar 0)))
noncomputable def q6g(K:PySem.W.Frag)(a:Adr)(r:Nat->List W->FR):List S->SR:=
 (dRetNw (dLamN (r q3a) 34 q3y [0,1,2] (dTup (dCons (dOp ixW (dVar 1) (dC (.int 1))) (dCons (dOp ixW (dVar 2) (dC (.int 1))) dNil)))))
noncomputable def q3z(K:PySem.W.Frag)(a:Adr)(r:Nat->List W->FR):Den W:=
 (dCall (r q3s) (dCons (dVar 0) (dCons (dVar 1) (dCons (dVar 2) (dCons (dC (.bl true)) dNil)))))
noncomputable def q30(K:PySem.W.Frag)(a:Adr)(r:Nat->List W->FR):Den W:=
 (dCall (r q3s) (dCons (dVar 0) (dCons (dVar 1) (dCons (dVar 2) (dCons (dC (.bl false)) dNil)))))
noncomputable def q31(K:PySem.W.Frag)(a:Adr)(r:Nat->List W->FR):Den W:=
 (dOp ixW (dCall (r q3b) (dCons (dVar 0) (dCons (dVar 1) dNil))) (dC (.int 0)))
noncomputable def q32(K:PySem.W.Frag)(a:Adr)(r:Nat->List W->FR):Den Bool:=
 (dNot (dTru (dCall (r q3g) (dCons (dVar 1) dNil))))
noncomputable def q24(K:PySem.W.Frag)(a:Adr)(r:Nat->List W->FR):List S->SR:=
 (dSeq (dSet 4 (dCall (r q5g) (dCons (dVar 0) (dCons (dCall (r q2n) (dCons (dOp ixW (dVar 3) (dC (.int 0))) dNil)) (dCons (dCall (r q2n) (dCons (dOp ixW (dVar 3) (dC (.int 1))) dNil)) dNil)))))
  (dSeq (dIfS (dTest (dOp eq2 (dOp ixW (dVar 4) (dC (.int 0))) (dC (.str "is"))))
  (dRet (dOp ixW (dVar 4) (dC (.int 1))))
  dNx)
  (dSeq (dSet 5 (dTup (dCons (dTup (dCons (dVar 1) (dCons (dOp ixW (dVar 3) (dC (.int 0))) dNil))) (dCons (dTup (dCons (dVar 2) (dCons (dOp ixW (dVar 3) (dC (.int 1))) dNil))) dNil))))
  (dSeq (dSet 6 (dFn min1 (dCons (dFz (dCompP [] (srcP (dVar 5)) (q32 K a r) (q31 K a r))) dNil)))
  (dSeq (dSet 7 (dFn tup1 (dCons (dFz (dCompP [6] (srcP (dVar 5)) dYes (q30 K a r))) dNil)))
  (dSeq (dSet 8 (dFn tup1 (dCons (dFz (dCompP [6] (srcP (dVar 5)) dYes (q3z K a r))) dNil)))
  (dRet (dTup (dCons (dVar 6) (dCons (dVar 7) (dCons (dVar 8) dNil)))))))))))
noncomputable def q4f(K:PySem.W.Frag)(a:Adr)(r:Nat->List W->FR):List S->SR:=
 (dRet (dIf (dTru (dCall (r q3g) (dCons (dVar 0) dNil))) (dTup (dCons (dC (.str "is")) (dCons (dOp eq2 (dVar 0) (dC (.int 1))) dNil))) (dTup (dCons (dC (.str "at")) (dCons (dVar 0) dNil)))))
noncomputable def q5s(K:PySem.W.Frag)(a:Adr)(r:Nat->List W->FR):List S->SR:=
 (dSeq (dIfS (dOr (dTru (dCall (r q3g) (dCons (dVar 1) dNil))) (dTest (dOp ne2 (dOp ixW (dCall (r q3b) (dCons (dVar 0) (dCons (dVar 1) dNil))) (dC (.int 0))) (dVar 2))))
  (dRet (dVar 1))
  dNx)
  (dRet (dOp ixW (dCall (r q3b) (dCons (dVar 0) (dCons (dVar 1) dNil))) (dIf (dTru (dVar 3)) (dC (.int 2)) (dC (.int 1))))))
noncomputable def q47(K:PySem.W.Frag)(a:Adr)(r:Nat->List W->FR):List S->SR:=
 (dSeq (dSet 1 (dOp ixW (dVar 0) (dC (.int 0))))
  (dSeq (dIfS (dTest (dOp eq2 (dVar 1) (dC (.str "is"))))
  (dRetNw (dTup (dCons (dNF (dLst dNil)) (dCons (dFlat (dIf (dTru (dOp ixW (dVar 0) (dC (.int 1)))) (dC (.int 1)) (dC (.int 0)))) dNil))))
  dNx)
  (dSeq (dIfS (dTest (dOp eq2 (dVar 1) (dC (.str "at"))))
  (dRetNw (dTup (dCons (dNF (dLst (dCons (dTup (dCons (dOp ixW (dVar 0) (dC (.int 1))) (dCons (dC (.int 0)) (dCons (dC (.int 1)) dNil)))) dNil))) (dCons (dFlat (dC (.int 2))) dNil))))
  dNx)
  (dSeq (dIfS (dTest (dOp eq2 (dVar 1) (dC (.str "not"))))
  (dRetNw (dCallN (r q2d) (dCons (dCall (r q18) (dCons (dOp ixW (dVar 0) (dC (.int 1))) dNil)) dNil)))
  dNx)
  (dRetNw (dCallN (r q0y) (dCons (dVar 1) (dCons (dCall (r q18) (dCons (dOp ixW (dVar 0) (dC (.int 1))) dNil)) (dCons (dCall (r q18) (dCons (dOp ixW (dVar 0) (dC (.int 2))) dNil)) dNil)))))))))
noncomputable def q3m(K:PySem.W.Frag)(a:Adr)(r:Nat->List W->FR):List S->SR:=
 (dSeq (dIfS (dTest (dOp ltW (dVar 1) (dFn len1 (dCons (dVar 0) dNil))))
  (dRet (dOp ixW (dVar 0) (dVar 1)))
  dNx)
  (dRet (dC (.int 0))))
noncomputable def q4g(K:PySem.W.Frag)(a:Adr)(r:Nat->List W->FR):List S->SR:=
 (dRet (dAndV (dIsi K (.type "int") (dVar 0)) (dNotV (dIsi K (.type "bool") (dVar 0)))))
noncomputable def q4h(K:PySem.W.Frag)(a:Adr)(r:Nat->List W->FR):List S->SR:=
 (dSeq (dSet 3 (dFz (dLst (dCons (dC (.int 99991)) (dCons (dC (.int 99989)) (dCons (dC (.int 99971)) (dCons (dC (.int 99961)) (dCons (dC (.int 99929)) (dCons (dC (.int 99923)) (dCons (dC (.int 99907)) (dCons (dC (.int 99901)) (dCons (dC (.int 99881)) (dCons (dC (.int 99877)) (dCons (dC (.int 99871)) dNil))))))))))))))
  (dSeq (dSet 4 (dOp modW (dOp mulW (dOp addX (dVar 0) (dOp mulW (dC (.int 7)) (dVar 1))) (dC (.int 48271))) (dOp ixW (dVar 3) (dOp modW (dVar 1) (dC (.int 11))))))
  (dRet (dOp modW (dOp modW (dOp addX (dOp addX (dOp mulW (dOp mulW (dVar 4) (dVar 4)) (dC (.int 7))) (dVar 4)) (dVar 1)) (dC (.int 1000003))) (dVar 2)))))
noncomputable def q4u(K:PySem.W.Frag)(a:Adr)(r:Nat->List W->FR):List S->SR:=
 (dSeq (dIfS (dOr (dTest (dOp eq2 (dVar 1) (dC (.int 0)))) (dTest (dOp eq2 (dOp modW (dVar 0) (dC (.int 9))) (dC (.int 8)))))
  (dRet (dTup (dCons (dC (.str "is")) (dCons (dOp eq2 (dOp modW (dOp fdivW (dVar 0) (dC (.int 9))) (dC (.int 2))) (dC (.int 1))) dNil))))
  dNx)
  (dRet (dTup (dCons (dC (.str "at")) (dCons (dCall (r q16) (dCons (dOp fdivW (dVar 0) (dC (.int 8))) (dCons (dC (.int 1)) (dCons (dVar 1) dNil)))) dNil)))))
noncomputable def q5u(K:PySem.W.Frag)(a:Adr)(r:Nat->List W->FR):List S->SR:=
 (dSeq (dSet 5 (dCall (r q16) (dCons (dVar 0) (dCons (dVar 4) (dCons (dC (.int 5)) dNil)))))
  (dIfS (dOr (dTest (dOp ltW (dVar 5) (dC (.int 2)))) (dTest (dOp eq2 (dOp modW (dVar 0) (dC (.int 4))) (dC (.int 1)))))
  (dSet 3 (dTup (dCons (dC (.str "not")) (dCons (dVar 3) dNil))))
  (dIfS (dTest (dOp eq2 (dVar 5) (dC (.int 2))))
  (dSet 3 (dTup (dCons (dC (.str "and")) (dCons (dVar 3) (dCons (dCall (r q1z) (dCons (dOp addX (dVar 0) (dOp mulW (dC (.int 8)) (dVar 4))) (dCons (dVar 1) dNil))) dNil)))))
  (dSet 3 (dTup (dCons (dOp ixW (dFz (dLst (dCons (dC (.str "or")) (dCons (dC (.str "odd")) dNil)))) (dOp subW (dVar 5) (dC (.int 3)))) (dCons (dCall (r q1z) (dCons (dOp addX (dVar 0) (dOp mulW (dC (.int 8)) (dVar 4))) (dCons (dVar 1) dNil))) (dCons (dVar 3) dNil))))))))
noncomputable def q4v(K:PySem.W.Frag)(a:Adr)(r:Nat->List W->FR):List S->SR:=
 (dSeq (dSet 3 (dCall (r q1z) (dCons (dVar 0) (dCons (dVar 1) dNil))))
  (dSeq (dForR 4 rng1 (dCons (dVar 2) dNil)
  (q5u K a r))
  (dRet (dVar 3))))
noncomputable def q27(K:PySem.W.Frag)(a:Adr)(r:Nat->List W->FR):Den Bool:=
 (dTest (dOp gtW (dFnV 2 len1) (dC (.int 1))))
noncomputable def q33(K:PySem.W.Frag)(a:Adr)(r:Nat->List W->FR):List S->SR:=
 (dSeq (dSet 5 (dPop 2))
  (dApp 2 (dCons (dTup (dCons (dOp ixW (dFz (dLst (dCons (dC (.str "and")) (dCons (dC (.str "or")) (dCons (dC (.str "odd")) dNil))))) (dOp modW (dFnV 2 len1) (dC (.int 3)))) (dCons (dPop 2) (dCons (dVar 5) dNil)))) dNil)))
noncomputable def q28(K:PySem.W.Frag)(a:Adr)(r:Nat->List W->FR):List S->SR:=
 (dSeq (dSet 4 (dOp modW (dVar 3) (dC (.int 8))))
  (dIfS (dAnd (dTest (dOp eq2 (dVar 4) (dC (.int 4)))) (dTest (dOp gtW (dFnV 2 len1) (dC (.int 0)))))
  (dApp 2 (dCons (dTup (dCons (dC (.str "not")) (dCons (dPop 2) dNil))) dNil))
  (dIfS (dAnd (dTest (dOp gtW (dVar 4) (dC (.int 4)))) (dTest (dOp gtW (dFnV 2 len1) (dC (.int 1)))))
  (dSeq (dSet 5 (dPop 2))
  (dApp 2 (dCons (dTup (dCons (dOp ixW (dFz (dLst (dCons (dC (.str "and")) (dCons (dC (.str "or")) (dCons (dC (.str "odd")) dNil))))) (dOp subW (dVar 4) (dC (.int 5)))) (dCons (dPop 2) (dCons (dVar 5) dNil)))) dNil)))
  (dApp 2 (dCons (dCall (r q1z) (dCons (dVar 3) (dCons (dVar 1) dNil))) dNil)))))
noncomputable def q3n(K:PySem.W.Frag)(a:Adr)(r:Nat->List W->FR):List S->SR:=
 (dSeq (dIfS (dAnd (dTest (dOp gtW (dFn len1 (dCons (dVar 0) dNil)) (dC (.int 0)))) (dTest (dOp eq2 (dOp modW (dOp ixW (dVar 0) (dC (.int 0))) (dC (.int 16))) (dC (.int 5)))))
  (dRet (dCall (r q3h) (dCons (dOp fdivW (dOp ixW (dVar 0) (dC (.int 0))) (dC (.int 16))) (dCons (dVar 1) (dCons (dOp addX (dC (.int 4)) (dOp modW (dOp fdivW (dOp ixW (dVar 0) (dC (.int 0))) (dC (.int 16))) (dC (.int 55)))) dNil)))))
  dNx)
  (dSeq (dSetO 2 (dLst dNil))
  (dSeq (dFor 3 (dVar 0)
  (q28 K a r))
  (dSeq (dIfS (dTest (dOp eq2 (dFnV 2 len1) (dC (.int 0))))
  (dRet (dTup (dCons (dC (.str "is")) (dCons (dC (.bl false)) dNil))))
  dNx)
  (dSeq (whileD (q27 K a r)
  (q33 K a r) 1000000)
  (dRet (dIxV 2 (dC (.int 0)))))))))
noncomputable def q1v(K:PySem.W.Frag)(a:Adr)(r:Nat->List W->FR):List S->SR:=
 (dSeq (dIfS (dTest (dOp eq2 (dOp ixW (dVar 0) (dC (.int 0))) (dC (.str "is"))))
  (dRet (dOp ixW (dVar 0) (dC (.int 1))))
  dNx)
  (dSeq (dIfS (dTest (dOp eq2 (dOp ixW (dVar 0) (dC (.int 0))) (dC (.str "at"))))
  (dRet (dOp ixW (dVar 1) (dOp ixW (dVar 0) (dC (.int 1)))))
  dNx)
  (dSeq (dIfS (dTest (dOp eq2 (dOp ixW (dVar 0) (dC (.int 0))) (dC (.str "not"))))
  (dRet (dOp isW (dCall (r q1g) (dCons (dOp ixW (dVar 0) (dC (.int 1))) (dCons (dVar 1) dNil))) (dC (.bl false))))
  dNx)
  (dSeq (dSet 2 (dFz (dLst (dCons (dCall (r q1g) (dCons (dOp ixW (dVar 0) (dC (.int 1))) (dCons (dVar 1) dNil))) (dCons (dCall (r q1g) (dCons (dOp ixW (dVar 0) (dC (.int 2))) (dCons (dVar 1) dNil))) dNil)))))
  (dSeq (dIfS (dTest (dOp eq2 (dOp ixW (dVar 0) (dC (.int 0))) (dC (.str "and"))))
  (dRet (dOp eq2 (dVar 2) (dFz (dLst (dCons (dC (.bl true)) (dCons (dC (.bl true)) dNil))))))
  dNx)
  (dSeq (dIfS (dTest (dOp eq2 (dOp ixW (dVar 0) (dC (.int 0))) (dC (.str "or"))))
  (dRet (dOp ne2 (dVar 2) (dFz (dLst (dCons (dC (.bl false)) (dCons (dC (.bl false)) dNil))))))
  dNx)
  (dRet (dOp ne2 (dOp ixW (dVar 2) (dC (.int 0))) (dOp ixW (dVar 2) (dC (.int 1)))))))))))
noncomputable def q8o(K:PySem.W.Frag)(a:Adr)(r:Nat->List W->FR):Den W:=
 (dOp eq2 (dCall (r q16) (dCons (dVar 1) (dCons (dVar 0) (dCons (dC (.int 2)) dNil)))) (dC (.int 1)))
noncomputable def q5b(K:PySem.W.Frag)(a:Adr)(r:Nat->List W->FR):List S->SR:=
 (dRet (dFn tup1 (dCons (dFz (dCompR rng1 [0] (dCons (dVar 1) dNil) dYes (q8o K a r))) dNil)))
noncomputable def q5h(K:PySem.W.Frag)(a:Adr)(r:Nat->List W->FR):List S->SR:=
 (dSet 1 (dOp mulW (dC (.int 2)) (dVar 1)))
noncomputable def q4i(K:PySem.W.Frag)(a:Adr)(r:Nat->List W->FR):List S->SR:=
 (dSeq (dSet 1 (dC (.int 1)))
  (dSeq (dForR 2 rng1 (dCons (dVar 0) dNil)
  (q5h K a r))
  (dRet (dVar 1))))
noncomputable def q5c(K:PySem.W.Frag)(a:Adr)(r:Nat->List W->FR):List S->SR:=
 (dApp 2 (dCons (dOp eq2 (dOp modW (dOp fdivW (dVar 0) (dCall (r q2p) (dCons (dOp subW (dOp subW (dVar 1) (dC (.int 1))) (dVar 3)) dNil))) (dC (.int 2))) (dC (.int 1))) dNil))
noncomputable def q35(K:PySem.W.Frag)(a:Adr)(r:Nat->List W->FR):List S->SR:=
 (dSeq (dSetO 2 (dLst dNil))
  (dSeq (dForR 3 rng1 (dCons (dVar 1) dNil)
  (q5c K a r))
  (dRet (dFn tup1 (dCons (dVar 2) dNil)))))
noncomputable def q34(K:PySem.W.Frag)(a:Adr)(r:Nat->List W->FR):Den W:=
 (dCall (r q2o) (dCons (dVar 0) dNil))
noncomputable def q3o(K:PySem.W.Frag)(a:Adr)(r:Nat->List W->FR):List S->SR:=
 (dSeq (dIfS (dOr (dNot (dTru (dIsi K (.type "tuple") (dVar 0)))) (dOr (dTest (dOp ne2 (dFn len1 (dCons (dVar 0) dNil)) (dC (.int 3)))) (dNot (dTru (dFn all1 (dCons (dFz (dComp [] (dVar 0) dYes (q34 K a r))) dNil))))))
  (dRet (dC (.bl false)))
  dNx)
  (dRet (dAndV (dOp geW (dOp ixW (dVar 0) (dC (.int 0))) (dC (.int 0))) (dAndV (dOp ne2 (dOp ixW (dVar 0) (dC (.int 1))) (dOp ixW (dVar 0) (dC (.int 2)))) (dAndV (dOp leW (dC (.int 0)) (dFn minT (dCons (dSl (dVar 0) (dPart (dC (.int 1))) dNoPart) dNil))) (dOp ltW (dFn maxT (dCons (dSl (dVar 0) (dPart (dC (.int 1))) dNoPart) dNil)) (dOp addX (dVar 1) (dC (.int 2)))))))))
noncomputable def q1i(K:PySem.W.Frag)(a:Adr)(r:Nat->List W->FR):Den Bool:=
 (dTest (dOp gtW (dFnV 3 len1) (dC (.int 0))))
noncomputable def q05(K:PySem.W.Frag)(a:Adr)(r:Nat->List W->FR):List S->SR:=
 (dSeq (dSet 5 (dPop 3))
  (dIfS (dTru (dOp ixW (dVar 5) (dC (.int 1))))
  (dApp 2 (dCons (dOp ixW (dVar 5) (dC (.int 0))) dNil))
  (dIfS (dBorrowT (dTest (dOp ninW (dOp ixW (dVar 5) (dC (.int 0))) (dVar 4))))
  (dSeq (dApp 4 (dCons (dOp ixW (dVar 5) (dC (.int 0))) dNil))
  (dSeq (dApp 3 (dCons (dTup (dCons (dOp ixW (dVar 5) (dC (.int 0))) (dCons (dC (.bl true)) dNil))) dNil))
  (dSeq (dApp 3 (dCons (dTup (dCons (dOp ixW (dOp ixW (dVar 0) (dOp subW (dOp ixW (dVar 5) (dC (.int 0))) (dC (.int 2)))) (dC (.int 2))) (dCons (dC (.bl false)) dNil))) dNil))
  (dApp 3 (dCons (dTup (dCons (dOp ixW (dOp ixW (dVar 0) (dOp subW (dOp ixW (dVar 5) (dC (.int 0))) (dC (.int 2)))) (dC (.int 1))) (dCons (dC (.bl false)) dNil))) dNil)))))
  dNx)))
noncomputable def q3p(K:PySem.W.Frag)(a:Adr)(r:Nat->List W->FR):List S->SR:=
 (dSeq (dSetO 2 (dLst dNil))
  (dSeq (dSetO 3 (dLst (dCons (dTup (dCons (dVar 1) (dCons (dC (.bl false)) dNil))) dNil)))
  (dSeq (dSetO 4 (dLst (dCons (dC (.int 0)) (dCons (dC (.int 1)) dNil))))
  (dSeq (whileD (q1i K a r)
  (q05 K a r) 1000000)
  (dRetO 2)))))
noncomputable def q4m(K:PySem.W.Frag)(a:Adr)(r:Nat->List W->FR):Den W:=
 (dOp addX (dVar 0) (dC (.int 2)))
noncomputable def q3j(K:PySem.W.Frag)(a:Adr)(r:Nat->List W->FR):List S->SR:=
 (dIfS (dOr (dAnd (dTest (dOp gtW (dVar 3) (dC (.int 1)))) (dTest (dOp leW (dOp ixW (dOp ixW (dVar 1) (dOp subW (dVar 3) (dC (.int 2)))) (dC (.int 0))) (dOp ixW (dOp ixW (dVar 1) (dVar 2)) (dC (.int 0)))))) (dTest (dOp inL (dOp ixW (dVar 1) (dVar 2)) (dSl (dVar 1) dNoPart (dPart (dVar 2))))))
  (dRet (dC (.bl false)))
  dNx)
noncomputable def q2x(K:PySem.W.Frag)(a:Adr)(r:Nat->List W->FR):List S->SR:=
 (dFor 3 (dSl (dOp ixW (dVar 1) (dVar 2)) (dPart (dC (.int 1))) dNoPart)
  (q3j K a r))
noncomputable def q4n(K:PySem.W.Frag)(a:Adr)(r:Nat->List W->FR):Den W:=
 (dCall (r q2e) (dCons (dOp ixW (dVar 1) (dVar 0)) (dCons (dVar 0) dNil)))
noncomputable def q3c(K:PySem.W.Frag)(a:Adr)(r:Nat->List W->FR):List S->SR:=
 (dSeq (dIfS (dOr (dNot (dTru (dIsi K (.type "tuple") (dVar 0)))) (dOr (dTest (dOp ne2 (dFn len1 (dCons (dVar 0) dNil)) (dC (.int 2)))) (dOr (dNot (dTru (dIsi K (.type "list") (dOp ixW (dVar 0) (dC (.int 0)))))) (dNot (dTru (dCall (r q2o) (dCons (dOp ixW (dVar 0) (dC (.int 1))) dNil)))))))
  (dRet (dC (.bl false)))
  dNx)
  (dSeq (dSet 1 (dOp ixW (dVar 0) (dC (.int 0))))
  (dSeq (dIfS (dOr (dNot (dTru (dFn all1 (dCons (dFz (dCompR rng1 [1] (dCons (dFn len1 (dCons (dVar 1) dNil)) dNil) dYes (q4n K a r))) dNil)))) (dOr (dTest (dOp ltW (dOp ixW (dVar 0) (dC (.int 1))) (dC (.int 0)))) (dTest (dOp gtW (dOp ixW (dVar 0) (dC (.int 1))) (dOp addX (dFn len1 (dCons (dVar 1) dNil)) (dC (.int 1)))))))
  (dRet (dC (.bl false)))
  dNx)
  (dSeq (dForR 2 rng1 (dCons (dFn len1 (dCons (dVar 1) dNil)) dNil)
  (q2x K a r))
  (dRet (dOp eq2 (dCall (r q2f) (dCons (dVar 1) (dCons (dOp ixW (dVar 0) (dC (.int 1))) dNil))) (dFz (dCompR rng1 [] (dCons (dFn len1 (dCons (dVar 1) dNil)) dNil) dYes (q4m K a r)))))))))
noncomputable def q41(K:PySem.W.Frag)(a:Adr)(r:Nat->List W->FR):Den Bool:=
 (dTest (dOp gtW (dVar 2) (dC (.int 1))))
noncomputable def q5v(K:PySem.W.Frag)(a:Adr)(r:Nat->List W->FR):List S->SR:=
 (dSeq (dSet 3 (dOp ixW (dOp ixW (dVar 0) (dC (.int 0))) (dOp subW (dVar 2) (dC (.int 2)))))
  (dSet 2 (dOp ixW (dVar 3) (dOp addX (dC (.int 1)) (dFn int1 (dCons (dOp ixW (dVar 1) (dOp ixW (dVar 3) (dC (.int 0)))) dNil))))))
noncomputable def q4w(K:PySem.W.Frag)(a:Adr)(r:Nat->List W->FR):List S->SR:=
 (dSeq (dSet 2 (dOp ixW (dVar 0) (dC (.int 1))))
  (dSeq (whileD (q41 K a r)
  (q5v K a r) 1000000)
  (dRet (dOp eq2 (dVar 2) (dC (.int 1))))))
noncomputable def q5w(K:PySem.W.Frag)(a:Adr)(r:Nat->List W->FR):Den W:=
 (dCall (r q3x) (dCons (dOp addX (dVar 1) (dOp mulW (dC (.int 3)) (dVar 0))) (dCons (dVar 2) dNil)))
noncomputable def q5x(K:PySem.W.Frag)(a:Adr)(r:Nat->List W->FR):Den W:=
 (dCall (r q2s) (dCons (dVar 0) (dCons (dVar 1) dNil)))
noncomputable def q4x(K:PySem.W.Frag)(a:Adr)(r:Nat->List W->FR):List S->SR:=
 (dSeq (dIfS (dTest (dOp ltW (dVar 1) (dC (.int 6))))
  (dRetF (dCompR rng1 [1] (dCons (dCall (r q2p) (dCons (dVar 1) dNil)) dNil) dYes (q5x K a r)))
  dNx)
  (dRetF (dCompR rng1 [0,1] (dCons (dC (.int 24)) dNil) dYes (q5w K a r))))
noncomputable def q4y(K:PySem.W.Frag)(a:Adr)(r:Nat->List W->FR):List S->SR:=
 (dSeq (dIfS (dTest (dOp gtW (dOp modW (dVar 0) (dC (.int 16))) (dC (.int 8))))
  (dRet (dOp addX (dC (.int 6)) (dOp modW (dOp fdivW (dVar 0) (dC (.int 16))) (dC (.int 7)))))
  dNx)
  (dRet (dOp modW (dOp modW (dVar 0) (dC (.int 16))) (dC (.int 6)))))
noncomputable def q5i(K:PySem.W.Frag)(a:Adr)(r:Nat->List W->FR):Den W:=
 (dOp addX (dOp addX (dOp mulW (dOp fdivW (dVar 0) (dC (.int 16))) (dC (.int 16))) (dC (.int 8))) (dOp modW (dVar 0) (dC (.int 8))))
noncomputable def q4j(K:PySem.W.Frag)(a:Adr)(r:Nat->List W->FR):List S->SR:=
 (dRet (dOp addX (dSl (dVar 0) dNoPart (dPart (dC (.int 1)))) (dFz (dComp [] (dSl (dVar 0) (dPart (dC (.int 1))) dNoPart) dYes (q5i K a r)))))
noncomputable def q3q(K:PySem.W.Frag)(a:Adr)(r:Nat->List W->FR):List S->SR:=
 (dSeq (dIfS (dTest (dOp eq2 (dVar 0) (dC (.str "and"))))
  (dRet (dOp eq2 (dFz (dLst (dCons (dVar 1) (dCons (dVar 2) dNil)))) (dFz (dLst (dCons (dC (.bl true)) (dCons (dC (.bl true)) dNil))))))
  dNx)
  (dSeq (dIfS (dTest (dOp eq2 (dVar 0) (dC (.str "or"))))
  (dRet (dOp ne2 (dFz (dLst (dCons (dVar 1) (dCons (dVar 2) dNil)))) (dFz (dLst (dCons (dC (.bl false)) (dCons (dC (.bl false)) dNil))))))
  dNx)
  (dRet (dOp ne2 (dVar 1) (dVar 2)))))
noncomputable def q64(K:PySem.W.Frag)(a:Adr)(r:Nat->List W->FR):List S->SR:=
 (dSeq (dSet 12 (dFz (dLst (dCons (dCall (r q1g) (dCons (dVar 3) (dCons (dVar 11) dNil))) (dCons (dCall (r q1g) (dCons (dVar 4) (dCons (dVar 11) dNil))) dNil)))))
  (dIfS (dOr (dTest (dOp eq2 (dCall (r q2z) (dCons (dVar 9) (dCons (dVar 11) dNil))) (dOp ixW (dVar 12) (dC (.int 0))))) (dTest (dOp ne2 (dCall (r q2z) (dCons (dVar 10) (dCons (dVar 11) dNil))) (dCall (r q2g) (dCons (dVar 5) (dCons (dOp ixW (dVar 12) (dC (.int 0))) (dCons (dOp ixW (dVar 12) (dC (.int 1))) dNil)))))))
  (dRet (dC (.bl false)))
  dNx))
noncomputable def q9c(K:PySem.W.Frag)(a:Adr)(r:Nat->List W->FR):List S->SR:=
 (dSeq (dIfS (dTest (dOp ne2 (dVar 13) (dOp ixW (dVar 8) (dC (.int 0)))))
  (dRet (dC (.bl false)))
  dNx)
  (dMutNw 13
  dNx))
noncomputable def x1a(K:PySem.W.Frag)(a:Adr)(r:Nat->List W->FR):List S->SR:=
 (dSeq (dSet 1 (dCall (r q21) (dCons (dCall (r q04) (dCons (dVar 0) (dCons (dC (.int 0)) dNil))) dNil)))
  (dSeq (dSet 2 (dCall (r q2q) (dCons (dSl (dVar 0) (dPart (dC (.int 3))) (dPart (dC (.int 33)))) dNil)))
  (dSeq (dSet 3 (dCall (r q1b) (dCons (dSl (dVar 2) dNoPart (dPart (dOp fdivW (dFn len1 (dCons (dVar 2) dNil)) (dC (.int 2))))) (dCons (dVar 1) dNil))))
  (dSeq (dSet 4 (dCall (r q1b) (dCons (dSl (dVar 2) (dPart (dOp fdivW (dFn len1 (dCons (dVar 2) dNil)) (dC (.int 2)))) dNoPart) (dCons (dVar 1) dNil))))
  (dSeq (dSet 5 (dOp ixW (dFz (dLst (dCons (dC (.str "and")) (dCons (dC (.str "or")) (dCons (dC (.str "odd")) dNil))))) (dOp modW (dCall (r q04) (dCons (dVar 0) (dCons (dC (.int 1)) dNil))) (dC (.int 3)))))
  (dSeq (dSet 6 (dCall (r q18) (dCons (dVar 3) dNil)))
  (dSeq (dSet 7 (dCall (r q18) (dCons (dVar 4) dNil)))
  (dSeq (dSet 8 (dFz (dLst (dCons (dTup (dCons (dFz (dList (dCons (dOp ixW (dVar 6) (dC (.int 0))) dNil))) (dCons (dOp ixW (dVar 6) (dC (.int 1))) dNil))) (dCons (dTup (dCons (dFz (dList (dCons (dOp ixW (dVar 7) (dC (.int 0))) dNil))) (dCons (dOp ixW (dVar 7) (dC (.int 1))) dNil))) dNil)))))
  (dBase (dSeq (dSetNw 9 (dCallN (r q2d) (dCons (dVar 6) dNil)))
  (dSeq (dSetNw 10 (dCallN (r q0y) (dCons (dVar 5) (dCons (dVar 6) (dCons (dVar 7) dNil)))))
  (dSeq (dIfS (dOr (dNot (dTru (dCall (r q09) (dCons (dVar 9) dNil)))) (dOr (dNot (dTru (dCall (r q09) (dCons (dVar 10) dNil)))) (dTest (dOp ne2 (dFz (dLst (dCons (dVar 6) (dCons (dVar 7) dNil)))) (dVar 8)))))
  (dRet (dC (.bl false)))
  dNx)
  (dSeq (dFor 11 (dCall (r q20) (dCons (dCall (r q04) (dCons (dVar 0) (dCons (dC (.int 2)) dNil))) (dCons (dVar 1) dNil)))
  (q64 K a r))
  (dMutN2 9 10
  (dSeq (dIfS (dOr (dTest (dOp ne2 (dCall (r q2d) (dCons (dCall (r q2d) (dCons (dVar 6) dNil)) dNil)) (dOp ixW (dVar 8) (dC (.int 0))))) (dTest (dOp ne2 (dFz (dLst (dCons (dVar 6) (dCons (dVar 7) dNil)))) (dVar 8))))
  (dRet (dC (.bl false)))
  dNx)
  (dForN 13 (dCallN (r q0y) (dCons (dC (.str "and")) (dCons (dVar 6) (dCons (dVar 6) dNil)))) (dCallN (r q0y) (dCons (dC (.str "or")) (dCons (dVar 6) (dCons (dTup (dCons (dFz (dLst dNil)) (dCons (dC (.int 0)) dNil))) dNil)))) (dCallN (r q0y) (dCons (dC (.str "and")) (dCons (dTup (dCons (dFz (dLst dNil)) (dCons (dC (.int 1)) dNil))) (dCons (dVar 6) dNil))))
  (q9c K a r)
  (dRet (dAndV (dOp eq2 (dCall (r q0y) (dCons (dC (.str "odd")) (dCons (dVar 6) (dCons (dVar 6) dNil)))) (dTup (dCons (dFz (dLst dNil)) (dCons (dC (.int 0)) dNil)))) (dAndV (dOp eq2 (dCall (r q0y) (dCons (dC (.str "or")) (dCons (dVar 6) (dCons (dVar 6) dNil)))) (dOp ixW (dVar 8) (dC (.int 0)))) (dOp eq2 (dFz (dLst (dCons (dVar 6) (dCons (dVar 7) dNil)))) (dVar 8)))))))))))))))))))))
noncomputable def body(K:PySem.W.Frag)(a:Adr)(r:Nat->List W->FR)(ws:List W):Nat->FR
 |0=>if ws.length=1 then(q4s K a r (init 1 ws)).fn else .no
 |1=>if ws.length=3 then(q63 K a r (init 3 ws)).fn else .no
 |2=>if ws.length=3 then(q4e K a r (init 3 ws)).fn else .no
 |3=>lgF lams (recN r q2m) ws
 |4=>nfB r q2m ws
 |5=>.no
 |6=>if ws.length=2 then(q5r K a r (init 2 ws)).fn else .no
 |7=>if ws.length=1 then(q6e K a r (init 1 ws)).fn else .no
 |8=>if ws.length=1 then(q6f K a r (init 2 ws)).fn else .no
 |9=>if ws.length=1 then(q4t K a r (init 1 ws)).fn else .no
 |10=>if ws.length=3 then(q6g K a r (init 3 ws)).fn else .no
 |11=>if ws.length=4 then(q24 K a r (init 9 ws)).fn else .no
 |12=>if ws.length=1 then(q4f K a r (init 1 ws)).fn else .no
 |13=>if ws.length=4 then(q5s K a r (init 4 ws)).fn else .no
 |14=>if ws.length=1 then(q47 K a r (init 2 ws)).fn else .no
 |15=>if ws.length=2 then(q3m K a r (init 2 ws)).fn else .no
 |16=>if ws.length=1 then(q4g K a r (init 1 ws)).fn else .no
 |17=>if ws.length=3 then(q4h K a r (init 5 ws)).fn else .no
 |18=>if ws.length=2 then(q4u K a r (init 2 ws)).fn else .no
 |19=>if ws.length=3 then(q4v K a r (init 6 ws)).fn else .no
 |20=>if ws.length=2 then(q3n K a r (init 6 ws)).fn else .no
 |21=>if ws.length=2 then(q1v K a r (init 3 ws)).fn else .no
 |22=>if ws.length=2 then(q5b K a r (init 2 ws)).fn else .no
 |23=>if ws.length=1 then(q4i K a r (init 3 ws)).fn else .no
 |24=>if ws.length=2 then(q35 K a r (init 4 ws)).fn else .no
 |25=>if ws.length=2 then(q3o K a r (init 2 ws)).fn else .no
 |26=>if ws.length=2 then(q3p K a r (init 6 ws)).fn else .no
 |27=>if ws.length=1 then(q3c K a r (init 4 ws)).fn else .no
 |28=>if ws.length=2 then(q4w K a r (init 4 ws)).fn else .no
 |29=>if ws.length=2 then(q4x K a r (init 2 ws)).fn else .no
 |30=>if ws.length=1 then(q4y K a r (init 1 ws)).fn else .no
 |31=>if ws.length=1 then(q4j K a r (init 1 ws)).fn else .no
 |32=>if ws.length=3 then(q3q K a r (init 3 ws)).fn else .no
 |33=>if ws.length=1 then(x1a K a r (init 14 ws)).fn else .no
 |34=>if ws.length=4 then exprFR (q4l K a r (ws.map .fr))else .no
 |_=>.no
noncomputable def run(K:PySem.W.Frag)(a:Adr):Nat->Nat->List W->FR
 |0,_,_=>.no
 |n+1,i,ws=>body K a (run K a n) ws i
theorem q7x:run K a (n+1) q3f ws=if ws.length=1 then(q4s K a (run K a n) (init 1 ws)).fn else .no:=rfl
theorem x24:run K a (n+1) q5g ws=if ws.length=3 then(q63 K a (run K a n) (init 3 ws)).fn else .no:=rfl
theorem q65:run K a (n+1) q2l ws=if ws.length=3 then(q4e K a (run K a n) (init 3 ws)).fn else .no:=rfl
theorem x1b:run K a (n+1) q3a ws=lgF lams (recN (run K a n) q2m) ws:=rfl
theorem q9m:run K a (n+1) q3b ws=if ws.length=2 then(q5r K a (run K a n) (init 2 ws)).fn else .no:=rfl
theorem x1c:run K a (n+1) q3g ws=if ws.length=1 then(q6e K a (run K a n) (init 1 ws)).fn else .no:=rfl
theorem x1d:run K a (n+1) q2d ws=if ws.length=1 then(q6f K a (run K a n) (init 2 ws)).fn else .no:=rfl
theorem q7y:run K a (n+1) q2j ws=if ws.length=1 then(q4t K a (run K a n) (init 1 ws)).fn else .no:=rfl
theorem x1e:run K a (n+1) q0y ws=if ws.length=3 then(q6g K a (run K a n) (init 3 ws)).fn else .no:=rfl
theorem q42:run K a (n+1) q1l ws=if ws.length=4 then(q24 K a (run K a n) (init 9 ws)).fn else .no:=rfl
theorem q66:run K a (n+1) q2n ws=if ws.length=1 then(q4f K a (run K a n) (init 1 ws)).fn else .no:=rfl
theorem q9n:run K a (n+1) q3s ws=if ws.length=4 then(q5s K a (run K a n) (init 4 ws)).fn else .no:=rfl
theorem q5t:run K a (n+1) q18 ws=if ws.length=1 then(q47 K a (run K a n) (init 2 ws)).fn else .no:=rfl
theorem q6h:run K a (n+1) q04 ws=if ws.length=2 then(q3m K a (run K a n) (init 2 ws)).fn else .no:=rfl
theorem q67:run K a (n+1) q2o ws=if ws.length=1 then(q4g K a (run K a n) (init 1 ws)).fn else .no:=rfl
theorem q68:run K a (n+1) q16 ws=if ws.length=3 then(q4h K a (run K a n) (init 5 ws)).fn else .no:=rfl
theorem q7z:run K a (n+1) q1z ws=if ws.length=2 then(q4u K a (run K a n) (init 2 ws)).fn else .no:=rfl
theorem q70:run K a (n+1) q3h ws=if ws.length=3 then(q4v K a (run K a n) (init 6 ws)).fn else .no:=rfl
theorem q6i:run K a (n+1) q1b ws=if ws.length=2 then(q3n K a (run K a n) (init 6 ws)).fn else .no:=rfl
theorem q2h:run K a (n+1) q1g ws=if ws.length=2 then(q1v K a (run K a n) (init 3 ws)).fn else .no:=rfl
theorem q8p:run K a (n+1) q3x ws=if ws.length=2 then(q5b K a (run K a n) (init 2 ws)).fn else .no:=rfl
theorem q69:run K a (n+1) q2p ws=if ws.length=1 then(q4i K a (run K a n) (init 3 ws)).fn else .no:=rfl
theorem q6s:run K a (n+1) q2s ws=if ws.length=2 then(q35 K a (run K a n) (init 4 ws)).fn else .no:=rfl
theorem q6j:run K a (n+1) q2e ws=if ws.length=2 then(q3o K a (run K a n) (init 2 ws)).fn else .no:=rfl
theorem q6k:run K a (n+1) q2f ws=if ws.length=2 then(q3p K a (run K a n) (init 6 ws)).fn else .no:=rfl
theorem q5y:run K a (n+1) q09 ws=if ws.length=1 then(q3c K a (run K a n) (init 4 ws)).fn else .no:=rfl
theorem q71:run K a (n+1) q2z ws=if ws.length=2 then(q4w K a (run K a n) (init 4 ws)).fn else .no:=rfl
theorem q72:run K a (n+1) q20 ws=if ws.length=2 then(q4x K a (run K a n) (init 2 ws)).fn else .no:=rfl
theorem q73:run K a (n+1) q21 ws=if ws.length=1 then(q4y K a (run K a n) (init 1 ws)).fn else .no:=rfl
theorem q7a:run K a (n+1) q2q ws=if ws.length=1 then(q4j K a (run K a n) (init 1 ws)).fn else .no:=rfl
theorem q6l:run K a (n+1) q2g ws=if ws.length=3 then(q3q K a (run K a n) (init 3 ws)).fn else .no:=rfl
theorem x69:run K a (n+1) q6r ws=if ws.length=1 then(x1a K a (run K a n) (init 14 ws)).fn else .no:=rfl
theorem q43:run K a (n+1) q0x ws=if ws.length=4 then exprFR (q4l K a (run K a n) (ws.map .fr))else .no:=rfl
section
variable{P:Program}{w:World}{base:Heap}
structure Mks(K:PySem.W.Frag)(mg:Str->Option Value):Prop where
 joined:∀f oc od fd sl,mg "joined"=some (.ref f)->K.lookup f=some ⟨oc,od,.func fd,sl⟩->MakK K "joined" fd.code
structure Ats(K:PySem.W.Frag)(mg:Str->Option Value):Prop where
 eased_not:At K mg "eased_not" q10 ["form"]
 eased:At K mg "eased" q4a ["word", "form", "other"]
 with_truth:At K mg "with_truth" q1p ["word", "truth", "form"]
 least_graph:At K mg "least_graph" q2t ["begin", "ask"]
 number_for:At K mg "number_for" q25 ["thing", "ask", "nodes", "numbers", "seen"]
 node_number:At K mg "node_number" q2u ["node", "nodes", "numbers"]
 node_at:At K mg "node_at" q22 ["graph", "number"]
 is_end:At K mg "is_end" q3i ["number"]
 turned:At K mg "turned" q26 ["graph"]
 other_end:At K mg "other_end" q11 ["number"]
 joined:At K mg "joined" q2v ["word", "graph", "other"]
 told_of_pair:At K mg "told_of_pair" q01 ["word", "graph", "other", "pair"]
 known_form:At K mg "known_form" q1q ["number"]
 gone_on:At K mg "gone_on" q23 ["graph", "number", "place", "truth"]
 graph:At K mg "graph" q4b ["form"]
 _law_cell_at:At K mg "_law_cell_at" q1c ["_law_script", "_law_k"]
 _law_whole:At K mg "_law_whole" q1r ["_law_found"]
 _law_mixed:At K mg "_law_mixed" q1s ["_law_cell", "_law_k", "_law_many_here"]
 _law_leaf:At K mg "_law_leaf" q12 ["_law_cell", "_law_many_here"]
 _law_deep:At K mg "_law_deep" q13 ["_law_cell", "_law_many_here", "_law_tall"]
 _law_form_by:At K mg "_law_form_by" q1d ["_law_cells_here", "_law_many_here"]
 _law_truth:At K mg "_law_truth" q1t ["_law_form", "_law_row_here"]
 _law_row:At K mg "_law_row" q17 ["_law_cell", "_law_many_here"]
 _law_count:At K mg "_law_count" q1u ["_law_many_here"]
 _law_row_of:At K mg "_law_row_of" q1j ["_law_number", "_law_many_here"]
 _law_is_node:At K mg "_law_is_node" q08 ["_law_node", "_law_many_here"]
 _law_reached:At K mg "_law_reached" q1e ["_law_nodes", "_law_begin"]
 _law_is_least:At K mg "_law_is_least" q02 ["_law_found"]
 _law_walk:At K mg "_law_walk" q14 ["_law_found", "_law_row_here"]
 _law_rows:At K mg "_law_rows" q1k ["_law_cell", "_law_many_here"]
 _law_many:At K mg "_law_many" q15 ["_law_cell"]
 _law_cells:At K mg "_law_cells" q1h ["_law_cells_here"]
 _law_word_of:At K mg "_law_word_of" q1f ["_law_word", "_law_one", "_law_other"]
 law:At K mg "law" q40 ["_law_script"]
structure Cals(P:Program)(w:World)(K:PySem.W.Frag)(mg:Str->Option Value)(base:Heap)(a:Adr)(n:Nat):Prop where
 eased_not:Cal P w K mg base n "eased_not" ["form"] (spF K (run K a n q3f))
 eased:Cal P w K mg base n "eased" ["word", "form", "other"] (spF K (run K a n q5g))
 with_truth:Cal P w K mg base n "with_truth" ["word", "truth", "form"] (spF K (run K a n q2l))
 least_graph:Cal P w K mg base n "least_graph" ["begin", "ask"] (spF K (run K a n q3a))
 number_for:Cal P w K mg base n "number_for" ["thing", "ask", "nodes", "numbers", "seen"] (spNF K lams (recN (run K a n) q2m))
 node_number:Cal P w K mg base n "node_number" ["node", "nodes", "numbers"] (spNNp K (0<n))
 node_at:Cal P w K mg base n "node_at" ["graph", "number"] (spF K (run K a n q3b))
 is_end:Cal P w K mg base n "is_end" ["number"] (spF K (run K a n q3g))
 turned:Cal P w K mg base n "turned" ["graph"] (spF K (run K a n q2d))
 other_end:Cal P w K mg base n "other_end" ["number"] (spF K (run K a n q2j))
 joined:Cal P w K mg base n "joined" ["word", "graph", "other"] (spF K (run K a n q0y))
 told_of_pair:Cal P w K mg base n "told_of_pair" ["word", "graph", "other", "pair"] (spF K (run K a n q1l))
 known_form:Cal P w K mg base n "known_form" ["number"] (spF K (run K a n q2n))
 gone_on:Cal P w K mg base n "gone_on" ["graph", "number", "place", "truth"] (spF K (run K a n q3s))
 graph:Cal P w K mg base n "graph" ["form"] (spF K (run K a n q18))
 _law_cell_at:Cal P w K mg base n "_law_cell_at" ["_law_script", "_law_k"] (spF K (run K a n q04))
 _law_whole:Cal P w K mg base n "_law_whole" ["_law_found"] (spF K (run K a n q2o))
 _law_mixed:Cal P w K mg base n "_law_mixed" ["_law_cell", "_law_k", "_law_many_here"] (spF K (run K a n q16))
 _law_leaf:Cal P w K mg base n "_law_leaf" ["_law_cell", "_law_many_here"] (spF K (run K a n q1z))
 _law_deep:Cal P w K mg base n "_law_deep" ["_law_cell", "_law_many_here", "_law_tall"] (spF K (run K a n q3h))
 _law_form_by:Cal P w K mg base n "_law_form_by" ["_law_cells_here", "_law_many_here"] (spF K (run K a n q1b))
 _law_truth:Cal P w K mg base n "_law_truth" ["_law_form", "_law_row_here"] (spF K (run K a n q1g))
 _law_row:Cal P w K mg base n "_law_row" ["_law_cell", "_law_many_here"] (spF K (run K a n q3x))
 _law_count:Cal P w K mg base n "_law_count" ["_law_many_here"] (spF K (run K a n q2p))
 _law_row_of:Cal P w K mg base n "_law_row_of" ["_law_number", "_law_many_here"] (spF K (run K a n q2s))
 _law_is_node:Cal P w K mg base n "_law_is_node" ["_law_node", "_law_many_here"] (spF K (run K a n q2e))
 _law_reached:Cal P w K mg base n "_law_reached" ["_law_nodes", "_law_begin"] (spF K (run K a n q2f))
 _law_is_least:Cal P w K mg base n "_law_is_least" ["_law_found"] (spF K (run K a n q09))
 _law_walk:Cal P w K mg base n "_law_walk" ["_law_found", "_law_row_here"] (spF K (run K a n q2z))
 _law_rows:Cal P w K mg base n "_law_rows" ["_law_cell", "_law_many_here"] (spF K (run K a n q20))
 _law_many:Cal P w K mg base n "_law_many" ["_law_cell"] (spF K (run K a n q21))
 _law_cells:Cal P w K mg base n "_law_cells" ["_law_cells_here"] (spF K (run K a n q2q))
 _law_word_of:Cal P w K mg base n "_law_word_of" ["_law_word", "_law_one", "_law_other"] (spF K (run K a n q2g))
 law:Cal P w K mg base n "law" ["_law_script"] (spF K (run K a n q6r))
 lam:FnV P w K mg base (CX1 P w) n (spV K lams (run K a n))
structure CalsH(P:Program)(w:World)(K:PySem.W.Frag)(mg:Str->Option Value)(base:Heap)(a:Adr)(n:Nat):Prop where
 z:True
theorem x6d(B:Blt mg)(M:Exs K mg a)(C:Cals P w K mg base a n)(CH:CalsH P w K mg base a n)(BM:BMain base mg)(MK:Mks K mg){outer:List Env}(hr:Room n (A.deeper (PyProof.Rows.envOfC "eased_not" (defScope q10) s.heap.objs.size f cdv))):
  DSs Z (cxOf (CX1 P w) P w K mg base ["form"] "eased_not" (defScope q10) f cdv A outer s H E) (fun _=>E) (defBody q10) (q4s K a (run K a n)):=
 (q0f (q03 (q1y (q0k hr) (q0h (dv 0) q0b) q0r)
  (q0e (q0p (q00 (q0a q0r (q0a (x9e (q0h (dv 0) q0b)) q0c)))))
  q0s)
  (q0e (q0p (q00 (q0a q0r (q0a (dv 0) q0c))))))
theorem q9o(h:run K a (n+1) q3f ws≠.no):ws.length=1/\(q4s K a (run K a n) (init 1 ws)).fn=run K a (n+1) q3f ws:=by
 rw[q7x]at h |-;split at h
 ·rename_i hl;rw[if_pos hl];exact⟨hl,rfl⟩
 ·exact absurd rfl h
theorem x49(B:Blt mg)(M:Exs K mg a)(C:Cals P w K mg base a n)(CH:CalsH P w K mg base a n)(BM:BMain base mg)(MK:Mks K mg)(A:Ats K mg):Cal P w K mg base (n+1) "eased_not" ["form"] (spF K (run K a (n+1) q3f)):=
 con A.eased_not x44 (fun ws hw=>(q9o hw).1) fun ws hw f cdv A outer s H E Z hr=>⟨_,x6d B M C CH BM MK hr,(q9o hw).2⟩
theorem y7p(B:Blt mg)(M:Exs K mg a)(C:Cals P w K mg base a n)(CH:CalsH P w K mg base a n)(BM:BMain base mg)(MK:Mks K mg){outer:List Env}(hr:Room n (A.deeper (PyProof.Rows.envOfC "eased" (defScope q4a) s.heap.objs.size f cdv))):
  DSs Z (cxOf (CX1 P w) P w K mg base ["word", "form", "other"] "eased" (defScope q4a) f cdv A outer s H E) (fun _=>E) (defBody q4a) (q63 K a (run K a n)):=
 (q0f (q03 (q1y (q0k hr) (q0h (dv 1) q0b) q0r)
  (q0e (q0p (q0n C.with_truth hr pass1 (q0a (dv 0) (q0a (q0h (dv 1) q0b) (q0a (dv 2) q0c))))))
  q0s)
  (q0f (q03 (q1y (q0k hr) (q0h (dv 2) q0b) q0r)
  (q0e (q0p (q0n C.with_truth hr pass1 (q0a (dv 0) (q0a (q0h (dv 2) q0b) (q0a (dv 1) q0c))))))
  q0s)
  (q0e (q0p (q00 (q0a (dv 0) (q0a (dv 1) (q0a (dv 2) q0c))))))))
theorem x7a(h:run K a (n+1) q5g ws≠.no):ws.length=3/\(q63 K a (run K a n) (init 3 ws)).fn=run K a (n+1) q5g ws:=by
 rw[x24]at h |-;split at h
 ·rename_i hl;rw[if_pos hl];exact⟨hl,rfl⟩
 ·exact absurd rfl h
theorem y3f(B:Blt mg)(M:Exs K mg a)(C:Cals P w K mg base a n)(CH:CalsH P w K mg base a n)(BM:BMain base mg)(MK:Mks K mg)(A:Ats K mg):Cal P w K mg base (n+1) "eased" ["word", "form", "other"] (spF K (run K a (n+1) q5g)):=
 con A.eased y3e (fun ws hw=>(x7a hw).1) fun ws hw f cdv A outer s H E Z hr=>⟨_,y7p B M C CH BM MK hr,(x7a hw).2⟩
theorem x5a(B:Blt mg)(M:Exs K mg a)(C:Cals P w K mg base a n)(CH:CalsH P w K mg base a n)(BM:BMain base mg)(MK:Mks K mg){outer:List Env}(hr:Room n (A.deeper (PyProof.Rows.envOfC "with_truth" (defScope q1p) s.heap.objs.size f cdv))):
  DSs Z (cxOf (CX1 P w) P w K mg base ["word", "truth", "form"] "with_truth" (defScope q1p) f cdv A outer s H E) (fun _=>E) (defBody q1p) (q4e K a (run K a n)):=
 (q0f (q03 (q1y (q0k hr) (dv 0) q0r)
  (q0e (q0p (q7n (q19 (dv 1)) (dv 2) (q00 (q0a q0r (q0a q1o q0c))))))
  q0s)
  (q0f (q03 (q1y (q0k hr) (dv 0) q0r)
  (q0e (q0p (q7n (q19 (dv 1)) (q00 (q0a q0r (q0a q1o q0c))) (dv 2))))
  q0s)
  (q0e (q0p (q7n (q19 (dv 1)) (q0n C.eased_not hr pass1 (q0a (dv 2) q0c)) (dv 2))))))
theorem q8q(h:run K a (n+1) q2l ws≠.no):ws.length=3/\(q4e K a (run K a n) (init 3 ws)).fn=run K a (n+1) q2l ws:=by
 rw[q65]at h |-;split at h
 ·rename_i hl;rw[if_pos hl];exact⟨hl,rfl⟩
 ·exact absurd rfl h
theorem x3g(B:Blt mg)(M:Exs K mg a)(C:Cals P w K mg base a n)(CH:CalsH P w K mg base a n)(BM:BMain base mg)(MK:Mks K mg)(A:Ats K mg):Cal P w K mg base (n+1) "with_truth" ["word", "truth", "form"] (spF K (run K a (n+1) q2l)):=
 con A.with_truth x3c (fun ws hw=>(q8q hw).1) fun ws hw f cdv A outer s H E Z hr=>⟨_,x5a B M C CH BM MK hr,(q8q hw).2⟩
theorem x15(B:Blt mg)(M:Exs K mg a)(C:Cals P w K mg base a n)(CH:CalsH P w K mg base a n)(BM:BMain base mg)(MK:Mks K mg)(A:Ats K mg):Cal P w K mg base (n+1) "least_graph" ["begin", "ask"] (spF K (run K a (n+1) q3a)):=
 A.least_graph.cal sc_least_graph (fun vs H Q E h=>z0u h) fun f cdv A outer s H vs Q E hr h=>⟨_,q1w (q6n 2 sc_least_graph.nd (x36 q1n)) (q1w (q6n 3 sc_least_graph.nd (q6x C.number_for hr pass1 (q0o (pv 0) (q0o (pv 1) (q0o (pv 2) (q0o (x4n (sh:=shN)) (q0o y24 q1n)))))))
  (q36 (q5o (q55 (q0o (pv 2) (q0o (pv 3) q1n)))))),z3c h _ rfl⟩
theorem x3h(B : Blt mg)(M : Exs K mg a)(C : Cals P w K mg base a n)(CH : CalsH P w K mg base a n)(BM : BMain base mg)(MK : Mks K mg)(A : Ats K mg) : Cal P w K mg base (n + 1) "number_for" ["thing", "ask", "nodes", "numbers", "seen"] (spNF K lams (recN (run K a (n + 1)) q2m)) :=
  A.number_for.cal sc_number_for (fun vs H Q E h => z0s h) fun f cdv A outer s H vs Q E hr h => ⟨_, q1w (x0r (x8x (x20 (hu1 (q0k hr)) (pv 0) (pv 4)) rfl)
    (q1w (q6n 5 sc_number_for.nd (y1p C.lam hr (pv 1) pass1 (q0o (pv 0) q1n)))
     (q36 (x0r (PW.pt (y3y (q83 x4h (pv 5) x7k (nomark _)) (x8y (q83 x4h (pv 5) x7k (nomark _)))))
        (q36 (x1y (hu1 (q0k hr)) (pv 4) (pv 0) (x31 (x35 (pv 5) (fun _ => rfl)) q1m q1m) rfl))
        (q1w (q6n 6 sc_number_for.nd (q6x C.number_for hr pass1 (q0o (pe_ix ix_tup (pv 5) q1m (by intro _ _; rfl)) (q0o (pv 1) (q0o (pv 2) (q0o (pv 3) (q0o (pv 4) q1n)))))))
         (q1w (q6n 7 sc_number_for.nd (q6x C.number_for hr pass1 (q0o (pe_ix ix_tup (pv 5) q1m (by intro _ _; rfl)) (q0o (pv 1) (q0o (pv 2) (q0o (pv 3) (q0o (pv 4) q1n)))))))
          (q36 (x1y (hu1 (q0k hr)) (pv 4) (pv 0) (q6x C.node_number hr pass1 (q0o (q55 (q0o (pe_ix ix_tup (pv 5) q1m (by intro _ _; rfl)) (q0o (pv 6) (q0o (pv 7) q1n)))) (q0o (pv 2) (q0o (pv 3) q1n)))) rfl))))))) q82)
    (q36 (q5o (x63 (hu1 (q0k hr)) (pv 4) (pv 0) (by intro _ _; rfl)))), nf_ok M.nt h (fun i l caps t st v st' e => (x4y (r := run K a n) (fun _ => rfl) i l caps t st).symm.trans e) (fun f t st x e => by cases n with
      | zero => cases e
      | succ n => exact Nat.succ_pos n) _ rfl⟩
theorem x16(B:Blt mg)(M:Exs K mg a)(C:Cals P w K mg base a n)(CH:CalsH P w K mg base a n)(BM:BMain base mg)(MK:Mks K mg)(A:Ats K mg):Cal P w K mg base (n+1) "node_number" ["node", "nodes", "numbers"] (spNNp K (0<n+1)):=
 A.node_number.cal x14 (fun vs H Q E h=>z0t h) fun f cdv A outer s H vs Q E hr h=>⟨_,q1w (x0r (q83 z1h (pe_ix ix_tup (pv 0) q1m (by intro _ _;rfl)) (pe_ix ix_tup (pv 0) q1m (by intro _ _;rfl)) (nomark _)) (q36 (q5o (pe_ix ix_tup (pv 0) q1m (by intro _ _;rfl)))) q82)
  (q1w (x0r (x8x (x20 (hu1 (q0k hr)) (pv 0) (pv 2)) rfl) (q1w (q6w (q8b (pv 1) (q0o (pv 0) q1n))) (q36 (x1y (hu1 (q0k hr)) (pv 2) (pv 0) (y3z op_add (y8s q9x B.b_len (q0o (pv 1) q1n)) q1m) rfl))) q82)
  (q36 (q5o (x63 (hu1 (q0k hr)) (pv 2) (pv 0) (by intro _ _;rfl))))),nn_ok M.nt h.2 _ rfl⟩
theorem y0t(B:Blt mg)(M:Exs K mg a)(C:Cals P w K mg base a n)(CH:CalsH P w K mg base a n)(BM:BMain base mg)(MK:Mks K mg){outer:List Env}(hr:Room n (A.deeper (PyProof.Rows.envOfC "node_at" (defScope q22) s.heap.objs.size f cdv))):
  DSs Z (cxOf (CX1 P w) P w K mg base ["graph", "number"] "node_at" (defScope q22) f cdv A outer s H E) (fun _=>E) (defBody q22) (q5r K a (run K a n)):=
 (q0e (q0p (q0h (q0h (dv 0) q0b) (q4q (dv 1) q0b))))
theorem x25(h:run K a (n+1) q3b ws≠.no):ws.length=2/\(q5r K a (run K a n) (init 2 ws)).fn=run K a (n+1) q3b ws:=by
 rw[q9m]at h |-;split at h
 ·rename_i hl;rw[if_pos hl];exact⟨hl,rfl⟩
 ·exact absurd rfl h
theorem x8l(B:Blt mg)(M:Exs K mg a)(C:Cals P w K mg base a n)(CH:CalsH P w K mg base a n)(BM:BMain base mg)(MK:Mks K mg)(A:Ats K mg):Cal P w K mg base (n+1) "node_at" ["graph", "number"] (spF K (run K a (n+1) q3b)):=
 con A.node_at x8j (fun ws hw=>(x25 hw).1) fun ws hw f cdv A outer s H E Z hr=>⟨_,y0t B M C CH BM MK hr,(x25 hw).2⟩
theorem y3g(B:Blt mg)(M:Exs K mg a)(C:Cals P w K mg base a n)(CH:CalsH P w K mg base a n)(BM:BMain base mg)(MK:Mks K mg){outer:List Env}(hr:Room n (A.deeper (PyProof.Rows.envOfC "is_end" (defScope q3i) s.heap.objs.size f cdv))):
  DSs Z (cxOf (CX1 P w) P w K mg base ["number"] "is_end" (defScope q3i) f cdv A outer s H E) (fun _=>E) (defBody q3i) (q6e K a (run K a n)):=
 (q0e (q0p (y38 (dv 0) q0b)))
theorem x5b(h:run K a (n+1) q3g ws≠.no):ws.length=1/\(q6e K a (run K a n) (init 1 ws)).fn=run K a (n+1) q3g ws:=by
 rw[x1c]at h |-;split at h
 ·rename_i hl;rw[if_pos hl];exact⟨hl,rfl⟩
 ·exact absurd rfl h
theorem y0u(B:Blt mg)(M:Exs K mg a)(C:Cals P w K mg base a n)(CH:CalsH P w K mg base a n)(BM:BMain base mg)(MK:Mks K mg)(A:Ats K mg):Cal P w K mg base (n+1) "is_end" ["number"] (spF K (run K a (n+1) q3g)):=
 con A.is_end y0r (fun ws hw=>(x5b hw).1) fun ws hw f cdv A outer s H E Z hr=>⟨_,y3g B M C CH BM MK hr,(x5b hw).2⟩
theorem y3h(B:Blt mg)(M:Exs K mg a)(C:Cals P w K mg base a n)(CH:CalsH P w K mg base a n)(BM:BMain base mg)(MK:Mks K mg){outer:List Env}(hr:Room n (A.deeper (PyProof.Rows.envOfC "turned" (defScope q26) s.heap.objs.size f cdv))):
  DSs Z (cxOf (CX1 P w) P w K mg base ["graph", "nodes"] "turned" (defScope q26) f cdv A outer s H E) (fun _=>E) (defBody q26) (q6f K a (run K a n)):=
 (q0f (x7w 1 sc_turned.nd (x:="node") (Nf:=[]) (js:=[]) (sc:=defScope q26) (N:=["graph", "nodes"]) rfl (q0h (dv 0) q0b) (by decide +kernel)
   (fun _ _ _ _ _ _=>q37)
   (fun _ _ _ _ _ _=>(q00 (q0a (q0h (dv 0) q0b) (q0a (q0n C.other_end hr passE (q0a (q0h (dv 0) q0b) q0c)) (q0a (q0n C.other_end hr passE (q0a (q0h (dv 0) q0b) q0c)) q0c)))))
   (fun _ _ _ _ _=>q4c 0 (show(["node"]:List Str).Nodup by decide +kernel)))
  (q0e (q5f (x4s (q5e (z0n 1) (q5e (x10 (q0n C.other_end hr pass1 (q0a (q0h (dv 0) q0b) q0c))) x11))))))
theorem x5c(h:run K a (n+1) q2d ws≠.no):ws.length=1/\(q6f K a (run K a n) (init 2 ws)).fn=run K a (n+1) q2d ws:=by
 rw[x1d]at h |-;split at h
 ·rename_i hl;rw[if_pos hl];exact⟨hl,rfl⟩
 ·exact absurd rfl h
theorem y0v(B:Blt mg)(M:Exs K mg a)(C:Cals P w K mg base a n)(CH:CalsH P w K mg base a n)(BM:BMain base mg)(MK:Mks K mg)(A:Ats K mg):Cal P w K mg base (n+1) "turned" ["graph"] (spF K (run K a (n+1) q2d)):=
 con A.turned sc_turned (fun ws hw=>(x5c hw).1) fun ws hw f cdv A outer s H E Z hr=>⟨_,y3h B M C CH BM MK hr,(x5c hw).2⟩
theorem x6e(B:Blt mg)(M:Exs K mg a)(C:Cals P w K mg base a n)(CH:CalsH P w K mg base a n)(BM:BMain base mg)(MK:Mks K mg){outer:List Env}(hr:Room n (A.deeper (PyProof.Rows.envOfC "other_end" (defScope q11) s.heap.objs.size f cdv))):
  DSs Z (cxOf (CX1 P w) P w K mg base ["number"] "other_end" (defScope q11) f cdv A outer s H E) (fun _=>E) (defBody q11) (q4t K a (run K a n)):=
 (q0e (q0p (q7n (q19 (q0n C.is_end hr pass1 (q0a (dv 0) q0c))) (q4q q0b (dv 0)) (dv 0))))
theorem q9p(h:run K a (n+1) q2j ws≠.no):ws.length=1/\(q4t K a (run K a n) (init 1 ws)).fn=run K a (n+1) q2j ws:=by
 rw[q7y]at h |-;split at h
 ·rename_i hl;rw[if_pos hl];exact⟨hl,rfl⟩
 ·exact absurd rfl h
theorem x5d(B:Blt mg)(M:Exs K mg a)(C:Cals P w K mg base a n)(CH:CalsH P w K mg base a n)(BM:BMain base mg)(MK:Mks K mg)(A:Ats K mg):Cal P w K mg base (n+1) "other_end" ["number"] (spF K (run K a (n+1) q2j)):=
 con A.other_end x45 (fun ws hw=>(q9p hw).1) fun ws hw f cdv A outer s H E Z hr=>⟨_,x6e B M C CH BM MK hr,(q9p hw).2⟩
theorem y3i(B:Blt mg)(M:Exs K mg a)(C:Cals P w K mg base a n)(CH:CalsH P w K mg base a n)(BM:BMain base mg)(MK:Mks K mg){outer:List Env}(hr:Room n (A.deeper (PyProof.Rows.envOfC "joined" (defScope q2v) s.heap.objs.size f cdv)))(hmk:MakK K "joined" cdv):
  DSs Z (cxOf (CX1 P w) P w K mg base ["word", "graph", "other"] "joined" (defScope q2v) f cdv A outer s H E) (fun _=>E) (defBody q2v) (q6g K a (run K a n)):=
 (q0e (q5f (x8c 34 q3y C.least_graph hr pass1 (z3a hmk BM) (fun _=>rfl) (q00 (q0a (q0h (dv 1) q0b) (q0a (q0h (dv 2) q0b) q0c))) (sc:=defScope q2v) (N:=["word", "graph", "other"]) (nf:=["word", "graph", "other"]) (by decide +kernel))))
theorem x5e(h:run K a (n+1) q0y ws≠.no):ws.length=3/\(q6g K a (run K a n) (init 3 ws)).fn=run K a (n+1) q0y ws:=by
 rw[x1e]at h |-;split at h
 ·rename_i hl;rw[if_pos hl];exact⟨hl,rfl⟩
 ·exact absurd rfl h
theorem y0w(B:Blt mg)(M:Exs K mg a)(C:Cals P w K mg base a n)(CH:CalsH P w K mg base a n)(BM:BMain base mg)(MK:Mks K mg)(A:Ats K mg):Cal P w K mg base (n+1) "joined" ["word", "graph", "other"] (spF K (run K a (n+1) q0y)):=
 conM A.joined MK.joined y0s (fun ws hw=>(x5e hw).1) fun ws hw f cdv A outer s H E Z hr hmk=>⟨_,y3i B M C CH BM MK hr hmk,(x5e hw).2⟩
theorem x17(B:Blt mg)(M:Exs K mg a)(C:Cals P w K mg base a n)(CH:CalsH P w K mg base a n)(BM:BMain base mg)(MK:Mks K mg){outer:List Env}(hr:Room n (A.deeper (PyProof.Rows.envOfC "told_of_pair" (defScope q01) s.heap.objs.size f cdv))):
  DSs Z (cxOf (CX1 P w) P w K mg base ["word", "graph", "other", "pair", "known", "sides", "place", "low", "high"] "told_of_pair" (defScope q01) f cdv A outer s H E) (fun _=>E) (defBody q01) (q24 K a (run K a n)):=
 (q0f (q0z 4 sc_told_of_pair.nd (q0n C.eased hr pass1 (q0a (dv 0) (q0a (q0n C.known_form hr pass1 (q0a (q0h (dv 3) q0b) q0c)) (q0a (q0n C.known_form hr pass1 (q0a (q0h (dv 3) q0b) q0c)) q0c)))))
  (q0f (q03 (q1y (q0k hr) (q0h (dv 4) q0b) q0r)
  (q0e (q0p (q0h (dv 4) q0b)))
  q0s)
  (q0f (q0z 5 sc_told_of_pair.nd (q00 (q0a (q00 (q0a (dv 1) (q0a (q0h (dv 3) q0b) q0c))) (q0a (q00 (q0a (dv 2) (q0a (q0h (dv 3) q0b) q0c))) q0c))))
  (q0f (q0z 6 sc_told_of_pair.nd (y6l rfl B.b_min (q0a (q1a (q99 (x:="side") (y:="number") (Nf:=[]) (js:=[]) (sc:=defScope q01) (N:=["word", "graph", "other", "pair", "known", "sides", "place", "low", "high"]) rfl (x0a (dv 5)) (by decide +kernel)
   (fun _ _ _ _ _ _=>(y47 (q48 (q19 (q0n C.is_end hr passE (q0a (dv 1) q0c))))))
   (fun _ _ _ _ _ _=>(q0h (q0n C.node_at hr passE (q0a (dv 0) (q0a (dv 1) q0c))) q0b))
   (fun _ _ _ _ _=>x4k (show(["side", "number"]:List Str).Nodup by decide +kernel) rfl))) q0c)))
  (q0f (q0z 7 sc_told_of_pair.nd (q7p B.b_tuple (q0a (q1a (q99 (x:="side") (y:="number") (Nf:=["place"]) (js:=[6]) (sc:=defScope q01) (N:=["word", "graph", "other", "pair", "known", "sides", "place", "low", "high"]) rfl (x0a (dv 5)) (by decide +kernel)
   (fun _ _ _ _ _ _=>q37)
   (fun _ _ _ _ _ _=>(q0n C.gone_on hr passE (q0a (dv 0) (q0a (dv 1) (q0a (dv 2) (q0a q1o q0c))))))
   (fun _ _ _ _ _=>x4k (show(["side", "number", "place"]:List Str).Nodup by decide +kernel) rfl))) q0c)))
  (q0f (q0z 8 sc_told_of_pair.nd (q7p B.b_tuple (q0a (q1a (q99 (x:="side") (y:="number") (Nf:=["place"]) (js:=[6]) (sc:=defScope q01) (N:=["word", "graph", "other", "pair", "known", "sides", "place", "low", "high"]) rfl (x0a (dv 5)) (by decide +kernel)
   (fun _ _ _ _ _ _=>q37)
   (fun _ _ _ _ _ _=>(q0n C.gone_on hr passE (q0a (dv 0) (q0a (dv 1) (q0a (dv 2) (q0a q1o q0c))))))
   (fun _ _ _ _ _=>x4k (show(["side", "number", "place"]:List Str).Nodup by decide +kernel) rfl))) q0c)))
  (q0e (q0p (q00 (q0a (dv 6) (q0a (dv 7) (q0a (dv 8) q0c))))))))))))
theorem q7b(h:run K a (n+1) q1l ws≠.no):ws.length=4/\(q24 K a (run K a n) (init 9 ws)).fn=run K a (n+1) q1l ws:=by
 rw[q42]at h |-;split at h
 ·rename_i hl;rw[if_pos hl];exact⟨hl,rfl⟩
 ·exact absurd rfl h
theorem x1f(B:Blt mg)(M:Exs K mg a)(C:Cals P w K mg base a n)(CH:CalsH P w K mg base a n)(BM:BMain base mg)(MK:Mks K mg)(A:Ats K mg):Cal P w K mg base (n+1) "told_of_pair" ["word", "graph", "other", "pair"] (spF K (run K a (n+1) q1l)):=
 con A.told_of_pair sc_told_of_pair (fun ws hw=>(q7b hw).1) fun ws hw f cdv A outer s H E Z hr=>⟨_,x17 B M C CH BM MK hr,(q7b hw).2⟩
theorem x5f(B:Blt mg)(M:Exs K mg a)(C:Cals P w K mg base a n)(CH:CalsH P w K mg base a n)(BM:BMain base mg)(MK:Mks K mg){outer:List Env}(hr:Room n (A.deeper (PyProof.Rows.envOfC "known_form" (defScope q1q) s.heap.objs.size f cdv))):
  DSs Z (cxOf (CX1 P w) P w K mg base ["number"] "known_form" (defScope q1q) f cdv A outer s H E) (fun _=>E) (defBody q1q) (q4f K a (run K a n)):=
 (q0e (q0p (q7n (q19 (q0n C.is_end hr pass1 (q0a (dv 0) q0c))) (q00 (q0a q0r (q0a (q5a (q0k hr) (dv 0) q0b) q0c))) (q00 (q0a q0r (q0a (dv 0) q0c))))))
theorem q8r(h:run K a (n+1) q2n ws≠.no):ws.length=1/\(q4f K a (run K a n) (init 1 ws)).fn=run K a (n+1) q2n ws:=by
 rw[q66]at h |-;split at h
 ·rename_i hl;rw[if_pos hl];exact⟨hl,rfl⟩
 ·exact absurd rfl h
theorem x3i(B:Blt mg)(M:Exs K mg a)(C:Cals P w K mg base a n)(CH:CalsH P w K mg base a n)(BM:BMain base mg)(MK:Mks K mg)(A:Ats K mg):Cal P w K mg base (n+1) "known_form" ["number"] (spF K (run K a (n+1) q2n)):=
 con A.known_form x3d (fun ws hw=>(q8r hw).1) fun ws hw f cdv A outer s H E Z hr=>⟨_,x5f B M C CH BM MK hr,(q8r hw).2⟩
theorem y0x(B:Blt mg)(M:Exs K mg a)(C:Cals P w K mg base a n)(CH:CalsH P w K mg base a n)(BM:BMain base mg)(MK:Mks K mg){outer:List Env}(hr:Room n (A.deeper (PyProof.Rows.envOfC "gone_on" (defScope q23) s.heap.objs.size f cdv))):
  DSs Z (cxOf (CX1 P w) P w K mg base ["graph", "number", "place", "truth"] "gone_on" (defScope q23) f cdv A outer s H E) (fun _=>E) (defBody q23) (q5s K a (run K a n)):=
 (q0f (q03 (dt_w (q3u (q19 (q0n C.is_end hr pass1 (q0a (dv 1) q0c))) (q4o (q6p (q0k hr) (q0h (q0n C.node_at hr pass1 (q0a (dv 0) (q0a (dv 1) q0c))) q0b) (dv 2)))))
  (q0e (q0p (dv 1)))
  q0s)
  (q0e (q0p (q0h (q0n C.node_at hr pass1 (q0a (dv 0) (q0a (dv 1) q0c))) (q7n (q19 (dv 3)) q0b q0b)))))
theorem x26(h:run K a (n+1) q3s ws≠.no):ws.length=4/\(q5s K a (run K a n) (init 4 ws)).fn=run K a (n+1) q3s ws:=by
 rw[q9n]at h |-;split at h
 ·rename_i hl;rw[if_pos hl];exact⟨hl,rfl⟩
 ·exact absurd rfl h
theorem x8m(B:Blt mg)(M:Exs K mg a)(C:Cals P w K mg base a n)(CH:CalsH P w K mg base a n)(BM:BMain base mg)(MK:Mks K mg)(A:Ats K mg):Cal P w K mg base (n+1) "gone_on" ["graph", "number", "place", "truth"] (spF K (run K a (n+1) q3s)):=
 con A.gone_on x8k (fun ws hw=>(x26 hw).1) fun ws hw f cdv A outer s H E Z hr=>⟨_,y0x B M C CH BM MK hr,(x26 hw).2⟩
theorem y7q(B:Blt mg)(M:Exs K mg a)(C:Cals P w K mg base a n)(CH:CalsH P w K mg base a n)(BM:BMain base mg)(MK:Mks K mg){outer:List Env}(hr:Room n (A.deeper (PyProof.Rows.envOfC "graph" (defScope q4b) s.heap.objs.size f cdv))):
  DSs Z (cxOf (CX1 P w) P w K mg base ["form", "word"] "graph" (defScope q4b) f cdv A outer s H E) (fun _=>E) (defBody q4b) (q47 K a (run K a n)):=
 (q0f (q0z 1 sc_graph.nd (q0h (dv 0) q0b))
  (q0f (q03 (q1y (q0k hr) (dv 1) q0r)
  (q0e (q5f (x4s (q5e (y4a (q07 q0c)) (q5e (x10 (q7n (q19 (q0h (dv 0) q0b)) q0b q0b)) x11)))))
  q0s)
  (q0f (q03 (q1y (q0k hr) (dv 1) q0r)
  (q0e (q5f (x4s (q5e (y4a (q07 (q0a (q00 (q0a (q0h (dv 0) q0b) (q0a q0b (q0a q0b q0c)))) q0c))) (q5e (x10 q0b) x11)))))
  q0s)
  (q0f (q03 (q1y (q0k hr) (dv 1) q0r)
  (q0e (q5f (q6c C.turned hr pass1 (q0a (q0n C.graph hr pass1 (q0a (q0h (dv 0) q0b) q0c)) q0c))))
  q0s)
  (q0e (q5f (q6c C.joined hr pass1 (q0a (dv 1) (q0a (q0n C.graph hr pass1 (q0a (q0h (dv 0) q0b) q0c)) (q0a (q0n C.graph hr pass1 (q0a (q0h (dv 0) q0b) q0c)) q0c))))))))))
theorem x7b(h:run K a (n+1) q18 ws≠.no):ws.length=1/\(q47 K a (run K a n) (init 2 ws)).fn=run K a (n+1) q18 ws:=by
 rw[q5t]at h |-;split at h
 ·rename_i hl;rw[if_pos hl];exact⟨hl,rfl⟩
 ·exact absurd rfl h
theorem y3j(B:Blt mg)(M:Exs K mg a)(C:Cals P w K mg base a n)(CH:CalsH P w K mg base a n)(BM:BMain base mg)(MK:Mks K mg)(A:Ats K mg):Cal P w K mg base (n+1) "graph" ["form"] (spF K (run K a (n+1) q18)):=
 con A.graph sc_graph (fun ws hw=>(x7b hw).1) fun ws hw f cdv A outer s H E Z hr=>⟨_,y7q B M C CH BM MK hr,(x7b hw).2⟩
theorem x18(B:Blt mg)(M:Exs K mg a)(C:Cals P w K mg base a n)(CH:CalsH P w K mg base a n)(BM:BMain base mg)(MK:Mks K mg){outer:List Env}(hr:Room n (A.deeper (PyProof.Rows.envOfC "_law_cell_at" (defScope q1c) s.heap.objs.size f cdv))):
  DSs Z (cxOf (CX1 P w) P w K mg base ["_law_script", "_law_k"] "_law_cell_at" (defScope q1c) f cdv A outer s H E) (fun _=>E) (defBody q1c) (q3m K a (run K a n)):=
 (q0f (q03 (x3r (dv 1) (q4r B.b_len (q0a (dv 0) q0c)))
  (q0e (q0p (q0h (dv 0) (dv 1))))
  q0s)
  (q0e (q0p q0b)))
theorem q7c(h:run K a (n+1) q04 ws≠.no):ws.length=2/\(q3m K a (run K a n) (init 2 ws)).fn=run K a (n+1) q04 ws:=by
 rw[q6h]at h |-;split at h
 ·rename_i hl;rw[if_pos hl];exact⟨hl,rfl⟩
 ·exact absurd rfl h
theorem x1g(B:Blt mg)(M:Exs K mg a)(C:Cals P w K mg base a n)(CH:CalsH P w K mg base a n)(BM:BMain base mg)(MK:Mks K mg)(A:Ats K mg):Cal P w K mg base (n+1) "_law_cell_at" ["_law_script", "_law_k"] (spF K (run K a (n+1) q04)):=
 con A._law_cell_at x07 (fun ws hw=>(q7c hw).1) fun ws hw f cdv A outer s H E Z hr=>⟨_,x18 B M C CH BM MK hr,(q7c hw).2⟩
theorem x5g(B:Blt mg)(M:Exs K mg a)(C:Cals P w K mg base a n)(CH:CalsH P w K mg base a n)(BM:BMain base mg)(MK:Mks K mg){outer:List Env}(hr:Room n (A.deeper (PyProof.Rows.envOfC "_law_whole" (defScope q1r) s.heap.objs.size f cdv))):
  DSs Z (cxOf (CX1 P w) P w K mg base ["_law_found"] "_law_whole" (defScope q1r) f cdv A outer s H E) (fun _=>E) (defBody q1r) (q4g K a (run K a n)):=
 (q0e (q0p (q6z (q8i (c0:=.ty _) rfl (q61 PyProof.Rows.Boot.«int» B.b_int) B.b_isinstance (dv 0)) (x4c (x9e (q8i (c0:=.ty _) rfl (q61 PyProof.Rows.Boot.«bool» B.b_bool) B.b_isinstance (dv 0)))))))
theorem q8s(h:run K a (n+1) q2o ws≠.no):ws.length=1/\(q4g K a (run K a n) (init 1 ws)).fn=run K a (n+1) q2o ws:=by
 rw[q67]at h |-;split at h
 ·rename_i hl;rw[if_pos hl];exact⟨hl,rfl⟩
 ·exact absurd rfl h
theorem x3j(B:Blt mg)(M:Exs K mg a)(C:Cals P w K mg base a n)(CH:CalsH P w K mg base a n)(BM:BMain base mg)(MK:Mks K mg)(A:Ats K mg):Cal P w K mg base (n+1) "_law_whole" ["_law_found"] (spF K (run K a (n+1) q2o)):=
 con A._law_whole x3e (fun ws hw=>(q8s hw).1) fun ws hw f cdv A outer s H E Z hr=>⟨_,x5g B M C CH BM MK hr,(q8s hw).2⟩
theorem x5h(B:Blt mg)(M:Exs K mg a)(C:Cals P w K mg base a n)(CH:CalsH P w K mg base a n)(BM:BMain base mg)(MK:Mks K mg){outer:List Env}(hr:Room n (A.deeper (PyProof.Rows.envOfC "_law_mixed" (defScope q1s) s.heap.objs.size f cdv))):
  DSs Z (cxOf (CX1 P w) P w K mg base ["_law_cell", "_law_k", "_law_many_here", "_law_some", "_law_made"] "_law_mixed" (defScope q1s) f cdv A outer s H E) (fun _=>E) (defBody q1s) (q4h K a (run K a n)):=
 (q0f (q0z 3 sc__law_mixed.nd (q1a (q07 (q0a q0b (q0a q0b (q0a q0b (q0a q0b (q0a q0b (q0a q0b (q0a q0b (q0a q0b (q0a q0b (q0a q0b (q0a q0b q0c))))))))))))))
  (q0f (q0z 4 sc__law_mixed.nd (q2a (q49 (q2c (dv 0) (q49 q0b (dv 1))) q0b) (q0h (dv 3) (q2a (dv 1) q0b))))
  (q0e (q0p (q2a (q2a (q2c (q2c (q49 (q49 (dv 4) (dv 4)) q0b) (dv 4)) (dv 1)) q0b) (dv 2))))))
theorem q8t(h:run K a (n+1) q16 ws≠.no):ws.length=3/\(q4h K a (run K a n) (init 5 ws)).fn=run K a (n+1) q16 ws:=by
 rw[q68]at h |-;split at h
 ·rename_i hl;rw[if_pos hl];exact⟨hl,rfl⟩
 ·exact absurd rfl h
theorem x3k(B:Blt mg)(M:Exs K mg a)(C:Cals P w K mg base a n)(CH:CalsH P w K mg base a n)(BM:BMain base mg)(MK:Mks K mg)(A:Ats K mg):Cal P w K mg base (n+1) "_law_mixed" ["_law_cell", "_law_k", "_law_many_here"] (spF K (run K a (n+1) q16)):=
 con A._law_mixed sc__law_mixed (fun ws hw=>(q8t hw).1) fun ws hw f cdv A outer s H E Z hr=>⟨_,x5h B M C CH BM MK hr,(q8t hw).2⟩
theorem x6f(B:Blt mg)(M:Exs K mg a)(C:Cals P w K mg base a n)(CH:CalsH P w K mg base a n)(BM:BMain base mg)(MK:Mks K mg){outer:List Env}(hr:Room n (A.deeper (PyProof.Rows.envOfC "_law_leaf" (defScope q12) s.heap.objs.size f cdv))):
  DSs Z (cxOf (CX1 P w) P w K mg base ["_law_cell", "_law_many_here"] "_law_leaf" (defScope q12) f cdv A outer s H E) (fun _=>E) (defBody q12) (q4u K a (run K a n)):=
 (q0f (q03 (dt_w (q3u (q1y (q0k hr) (dv 1) q0b) (q4o (q1y (q0k hr) (q2a (dv 0) q0b) q0b))))
  (q0e (q0p (q00 (q0a q0r (q0a (q5a (q0k hr) (q2a (q4k (dv 0) q0b) q0b) q0b) q0c)))))
  q0s)
  (q0e (q0p (q00 (q0a q0r (q0a (q0n C._law_mixed hr pass1 (q0a (q4k (dv 0) q0b) (q0a q0b (q0a (dv 1) q0c)))) q0c))))))
theorem q9q(h:run K a (n+1) q1z ws≠.no):ws.length=2/\(q4u K a (run K a n) (init 2 ws)).fn=run K a (n+1) q1z ws:=by
 rw[q7z]at h |-;split at h
 ·rename_i hl;rw[if_pos hl];exact⟨hl,rfl⟩
 ·exact absurd rfl h
theorem x5i(B:Blt mg)(M:Exs K mg a)(C:Cals P w K mg base a n)(CH:CalsH P w K mg base a n)(BM:BMain base mg)(MK:Mks K mg)(A:Ats K mg):Cal P w K mg base (n+1) "_law_leaf" ["_law_cell", "_law_many_here"] (spF K (run K a (n+1) q1z)):=
 con A._law_leaf x46 (fun ws hw=>(q9q hw).1) fun ws hw f cdv A outer s H E Z hr=>⟨_,x6f B M C CH BM MK hr,(q9q hw).2⟩
theorem x6g(B:Blt mg)(M:Exs K mg a)(C:Cals P w K mg base a n)(CH:CalsH P w K mg base a n)(BM:BMain base mg)(MK:Mks K mg){outer:List Env}(hr:Room n (A.deeper (PyProof.Rows.envOfC "_law_deep" (defScope q13) s.heap.objs.size f cdv))):
  DSs Z (cxOf (CX1 P w) P w K mg base ["_law_cell", "_law_many_here", "_law_tall", "_law_form", "_law_k", "_law_way"] "_law_deep" (defScope q13) f cdv A outer s H E) (fun _=>E) (defBody q13) (q4v K a (run K a n)):=
 (q0f (q0z 3 sc__law_deep.nd (q0n C._law_leaf hr pass1 (q0a (dv 0) (q0a (dv 1) q0c))))
  (q0f (q86 4 sc__law_deep.nd PassesOwn.leaving rfl B.b_range (q0a (dv 2) q0c)
  (q0f (q0z 5 sc__law_deep.nd (q0n C._law_mixed hr pass1 (q0a (dv 0) (q0a (dv 4) (q0a q0b q0c)))))
  (q0e (q03 (dt_w (q3u (x3r (dv 5) q0b) (q4o (q1y (q0k hr) (q2a (dv 0) q0b) q0b))))
  (q0e (q0z 3 sc__law_deep.nd (q00 (q0a q0r (q0a (dv 3) q0c)))))
  (q0e (q03 (q1y (q0k hr) (dv 5) q0b)
  (q0e (q0z 3 sc__law_deep.nd (q00 (q0a q0r (q0a (dv 3) (q0a (q0n C._law_leaf hr pass1 (q0a (q2c (dv 0) (q49 q0b (dv 4))) (q0a (dv 1) q0c))) q0c))))))
  (q0e (q0z 3 sc__law_deep.nd (q00 (q0a (q0h (q1a (q07 (q0a q0r (q0a q0r q0c)))) (q4q (dv 5) q0b)) (q0a (q0n C._law_leaf hr pass1 (q0a (q2c (dv 0) (q49 q0b (dv 4))) (q0a (dv 1) q0c))) (q0a (dv 3) q0c))))))))))))
  (q0e (q0p (dv 3)))))
theorem q9r(h:run K a (n+1) q3h ws≠.no):ws.length=3/\(q4v K a (run K a n) (init 6 ws)).fn=run K a (n+1) q3h ws:=by
 rw[q70]at h |-;split at h
 ·rename_i hl;rw[if_pos hl];exact⟨hl,rfl⟩
 ·exact absurd rfl h
theorem x5j(B:Blt mg)(M:Exs K mg a)(C:Cals P w K mg base a n)(CH:CalsH P w K mg base a n)(BM:BMain base mg)(MK:Mks K mg)(A:Ats K mg):Cal P w K mg base (n+1) "_law_deep" ["_law_cell", "_law_many_here", "_law_tall"] (spF K (run K a (n+1) q3h)):=
 con A._law_deep sc__law_deep (fun ws hw=>(q9r hw).1) fun ws hw f cdv A outer s H E Z hr=>⟨_,x6g B M C CH BM MK hr,(q9r hw).2⟩
theorem x19(B:Blt mg)(M:Exs K mg a)(C:Cals P w K mg base a n)(CH:CalsH P w K mg base a n)(BM:BMain base mg)(MK:Mks K mg){outer:List Env}(hr:Room n (A.deeper (PyProof.Rows.envOfC "_law_form_by" (defScope q1d) s.heap.objs.size f cdv))):
  DSs Z (cxOf (CX1 P w) P w K mg base ["_law_cells_here", "_law_many_here", "_law_stack", "_law_cell", "_law_way", "_law_other"] "_law_form_by" (defScope q1d) f cdv A outer s H E) (fun _=>E) (defBody q1d) (q3n K a (run K a n)):=
 (q0f (q03 (dt_w (x0y (q5l (q4r B.b_len (q0a (dv 0) q0c)) q0b) (q85 (q1y (q0k hr) (q2a (q0h (dv 0) q0b) q0b) q0b))))
  (q0e (q0p (q0n C._law_deep hr pass1 (q0a (q4k (q0h (dv 0) q0b) q0b) (q0a (dv 1) (q0a (q2c q0b (q2a (q4k (q0h (dv 0) q0b) q0b) q0b)) q0c))))))
  q0s)
  (q0f (q8f 2 sc__law_form_by.nd (q07 q0c))
  (q0f (x4d 3 sc__law_form_by.nd PassesOwn.leaving rfl (dv 0)
  (q0f (q0z 4 sc__law_form_by.nd (q2a (dv 3) q0b))
  (q0e (q03 (dt_w (x0y (q1y (q0k hr) (dv 4) q0b) (q85 (q5l (q52 2 B.b_len) q0b))))
  (q0e (q4p 2 (q0a (q00 (q0a q0r (q0a (q60 2) q0c))) q0c)))
  (q0e (q03 (dt_w (x0y (q5l (dv 4) q0b) (q85 (q5l (q52 2 B.b_len) q0b))))
  (q0f (q0z 5 sc__law_form_by.nd (q60 2))
  (q0e (q4p 2 (q0a (q00 (q0a (q0h (q1a (q07 (q0a q0r (q0a q0r (q0a q0r q0c))))) (q4q (dv 4) q0b)) (q0a (q60 2) (q0a (dv 5) q0c)))) q0c))))
  (q0e (q4p 2 (q0a (q0n C._law_leaf hr pass1 (q0a (dv 3) (q0a (dv 1) q0c))) q0c)))))))))
  (q0f (q03 (q1y (q0k hr) (q52 2 B.b_len) q0b)
  (q0e (q0p (q00 (q0a q0r (q0a q1o q0c)))))
  q0s)
  (q0f (q92 1000000 PassesOwn.leaving (q5l (q52 2 B.b_len) q0b)
  (q0f (q0z 5 sc__law_form_by.nd (q60 2))
  (q0e (q4p 2 (q0a (q00 (q0a (q0h (q1a (q07 (q0a q0r (q0a q0r (q0a q0r q0c))))) (q2a (q52 2 B.b_len) q0b)) (q0a (q60 2) (q0a (dv 5) q0c)))) q0c)))))
  (q0e (q0p (y8y 2 q0b))))))))
theorem q7d(h:run K a (n+1) q1b ws≠.no):ws.length=2/\(q3n K a (run K a n) (init 6 ws)).fn=run K a (n+1) q1b ws:=by
 rw[q6i]at h |-;split at h
 ·rename_i hl;rw[if_pos hl];exact⟨hl,rfl⟩
 ·exact absurd rfl h
theorem x1h(B:Blt mg)(M:Exs K mg a)(C:Cals P w K mg base a n)(CH:CalsH P w K mg base a n)(BM:BMain base mg)(MK:Mks K mg)(A:Ats K mg):Cal P w K mg base (n+1) "_law_form_by" ["_law_cells_here", "_law_many_here"] (spF K (run K a (n+1) q1b)):=
 con A._law_form_by sc__law_form_by (fun ws hw=>(q7d hw).1) fun ws hw f cdv A outer s H E Z hr=>⟨_,x19 B M C CH BM MK hr,(q7d hw).2⟩
theorem x5k(B:Blt mg)(M:Exs K mg a)(C:Cals P w K mg base a n)(CH:CalsH P w K mg base a n)(BM:BMain base mg)(MK:Mks K mg){outer:List Env}(hr:Room n (A.deeper (PyProof.Rows.envOfC "_law_truth" (defScope q1t) s.heap.objs.size f cdv))):
  DSs Z (cxOf (CX1 P w) P w K mg base ["_law_form", "_law_row_here", "_law_both"] "_law_truth" (defScope q1t) f cdv A outer s H E) (fun _=>E) (defBody q1t) (q1v K a (run K a n)):=
 (q0f (q03 (q1y (q0k hr) (q0h (dv 0) q0b) q0r)
  (q0e (q0p (q0h (dv 0) q0b)))
  q0s)
  (q0f (q03 (q1y (q0k hr) (q0h (dv 0) q0b) q0r)
  (q0e (q0p (q0h (dv 1) (q0h (dv 0) q0b))))
  q0s)
  (q0f (q03 (q1y (q0k hr) (q0h (dv 0) q0b) q0r)
  (q0e (q0p (z1r (q0n C._law_truth hr pass1 (q0a (q0h (dv 0) q0b) (q0a (dv 1) q0c))) q1o)))
  q0s)
  (q0f (q0z 2 sc__law_truth.nd (q1a (q07 (q0a (q0n C._law_truth hr pass1 (q0a (q0h (dv 0) q0b) (q0a (dv 1) q0c))) (q0a (q0n C._law_truth hr pass1 (q0a (q0h (dv 0) q0b) (q0a (dv 1) q0c))) q0c)))))
  (q0f (q03 (q1y (q0k hr) (q0h (dv 0) q0b) q0r)
  (q0e (q0p (q5a (q0k hr) (dv 2) (q1a (q07 (q0a q1o (q0a q1o q0c)))))))
  q0s)
  (q0f (q03 (q1y (q0k hr) (q0h (dv 0) q0b) q0r)
  (q0e (q0p (x01 (q0k hr) (dv 2) (q1a (q07 (q0a q1o (q0a q1o q0c)))))))
  q0s)
  (q0e (q0p (x01 (q0k hr) (q0h (dv 2) q0b) (q0h (dv 2) q0b))))))))))
theorem q8u(h:run K a (n+1) q1g ws≠.no):ws.length=2/\(q1v K a (run K a n) (init 3 ws)).fn=run K a (n+1) q1g ws:=by
 rw[q2h]at h |-;split at h
 ·rename_i hl;rw[if_pos hl];exact⟨hl,rfl⟩
 ·exact absurd rfl h
theorem x3l(B:Blt mg)(M:Exs K mg a)(C:Cals P w K mg base a n)(CH:CalsH P w K mg base a n)(BM:BMain base mg)(MK:Mks K mg)(A:Ats K mg):Cal P w K mg base (n+1) "_law_truth" ["_law_form", "_law_row_here"] (spF K (run K a (n+1) q1g)):=
 con A._law_truth sc__law_truth (fun ws hw=>(q8u hw).1) fun ws hw f cdv A outer s H E Z hr=>⟨_,x5k B M C CH BM MK hr,(q8u hw).2⟩
theorem x8n(B:Blt mg)(M:Exs K mg a)(C:Cals P w K mg base a n)(CH:CalsH P w K mg base a n)(BM:BMain base mg)(MK:Mks K mg){outer:List Env}(hr:Room n (A.deeper (PyProof.Rows.envOfC "_law_row" (defScope q17) s.heap.objs.size f cdv))):
  DSs Z (cxOf (CX1 P w) P w K mg base ["_law_cell", "_law_many_here"] "_law_row" (defScope q17) f cdv A outer s H E) (fun _=>E) (defBody q17) (q5b K a (run K a n)):=
 (q0e (q0p (q7p B.b_tuple (q0a (q1a (q6b (x:="_law_k") (Nf:=["_law_cell"]) (js:=[0]) (sc:=defScope q17) (N:=["_law_cell", "_law_many_here"]) rfl B.b_range (q0a (dv 1) q0c) (by decide +kernel)
   (fun _ _ _ _ _ _=>q37)
   (fun _ _ _ _ _ _=>(q5a (q0k hr) (q0n C._law_mixed hr passE (q0a (dv 1) (q0a (dv 0) (q0a q0b q0c)))) q0b))
   (fun _ _ _ _ _=>q4c 0 (show(["_law_k", "_law_cell"]:List Str).Nodup by decide +kernel)))) q0c))))
theorem x1i(h:run K a (n+1) q3x ws≠.no):ws.length=2/\(q5b K a (run K a n) (init 2 ws)).fn=run K a (n+1) q3x ws:=by
 rw[q8p]at h |-;split at h
 ·rename_i hl;rw[if_pos hl];exact⟨hl,rfl⟩
 ·exact absurd rfl h
theorem x6h(B:Blt mg)(M:Exs K mg a)(C:Cals P w K mg base a n)(CH:CalsH P w K mg base a n)(BM:BMain base mg)(MK:Mks K mg)(A:Ats K mg):Cal P w K mg base (n+1) "_law_row" ["_law_cell", "_law_many_here"] (spF K (run K a (n+1) q3x)):=
 con A._law_row x6c (fun ws hw=>(x1i hw).1) fun ws hw f cdv A outer s H E Z hr=>⟨_,x8n B M C CH BM MK hr,(x1i hw).2⟩
theorem x5l(B:Blt mg)(M:Exs K mg a)(C:Cals P w K mg base a n)(CH:CalsH P w K mg base a n)(BM:BMain base mg)(MK:Mks K mg){outer:List Env}(hr:Room n (A.deeper (PyProof.Rows.envOfC "_law_count" (defScope q1u) s.heap.objs.size f cdv))):
  DSs Z (cxOf (CX1 P w) P w K mg base ["_law_many_here", "_law_count_here", "_law_k"] "_law_count" (defScope q1u) f cdv A outer s H E) (fun _=>E) (defBody q1u) (q4i K a (run K a n)):=
 (q0f (q0z 1 sc__law_count.nd q0b)
  (q0f (q86 2 sc__law_count.nd PassesOwn.leaving rfl B.b_range (q0a (dv 0) q0c)
  (q0e (q0z 1 sc__law_count.nd (q49 q0b (dv 1)))))
  (q0e (q0p (dv 1)))))
theorem q8v(h:run K a (n+1) q2p ws≠.no):ws.length=1/\(q4i K a (run K a n) (init 3 ws)).fn=run K a (n+1) q2p ws:=by
 rw[q69]at h |-;split at h
 ·rename_i hl;rw[if_pos hl];exact⟨hl,rfl⟩
 ·exact absurd rfl h
theorem x3m(B:Blt mg)(M:Exs K mg a)(C:Cals P w K mg base a n)(CH:CalsH P w K mg base a n)(BM:BMain base mg)(MK:Mks K mg)(A:Ats K mg):Cal P w K mg base (n+1) "_law_count" ["_law_many_here"] (spF K (run K a (n+1) q2p)):=
 con A._law_count sc__law_count (fun ws hw=>(q8v hw).1) fun ws hw f cdv A outer s H E Z hr=>⟨_,x5l B M C CH BM MK hr,(q8v hw).2⟩
theorem x3n(B:Blt mg)(M:Exs K mg a)(C:Cals P w K mg base a n)(CH:CalsH P w K mg base a n)(BM:BMain base mg)(MK:Mks K mg){outer:List Env}(hr:Room n (A.deeper (PyProof.Rows.envOfC "_law_row_of" (defScope q1j) s.heap.objs.size f cdv))):
  DSs Z (cxOf (CX1 P w) P w K mg base ["_law_number", "_law_many_here", "_law_found", "_law_k"] "_law_row_of" (defScope q1j) f cdv A outer s H E) (fun _=>E) (defBody q1j) (q35 K a (run K a n)):=
 (q0f (q8f 2 sc__law_row_of.nd (q07 q0c))
  (q0f (q86 3 sc__law_row_of.nd PassesOwn.leaving rfl B.b_range (q0a (dv 1) q0c)
  (q0e (q4p 2 (q0a (q5a (q0k hr) (q2a (q4k (dv 0) (q0n C._law_count hr pass1 (q0a (q4q (q4q (dv 1) q0b) (dv 3)) q0c))) q0b) q0b) q0c))))
  (q0e (q0p (q7p B.b_tuple (q0a (dv 2) q0c))))))
theorem q74(h:run K a (n+1) q2s ws≠.no):ws.length=2/\(q35 K a (run K a n) (init 4 ws)).fn=run K a (n+1) q2s ws:=by
 rw[q6s]at h |-;split at h
 ·rename_i hl;rw[if_pos hl];exact⟨hl,rfl⟩
 ·exact absurd rfl h
theorem x2a(B:Blt mg)(M:Exs K mg a)(C:Cals P w K mg base a n)(CH:CalsH P w K mg base a n)(BM:BMain base mg)(MK:Mks K mg)(A:Ats K mg):Cal P w K mg base (n+1) "_law_row_of" ["_law_number", "_law_many_here"] (spF K (run K a (n+1) q2s)):=
 con A._law_row_of sc__law_row_of (fun ws hw=>(q74 hw).1) fun ws hw f cdv A outer s H E Z hr=>⟨_,x3n B M C CH BM MK hr,(q74 hw).2⟩
theorem x2b(B:Blt mg)(M:Exs K mg a)(C:Cals P w K mg base a n)(CH:CalsH P w K mg base a n)(BM:BMain base mg)(MK:Mks K mg){outer:List Env}(hr:Room n (A.deeper (PyProof.Rows.envOfC "_law_is_node" (defScope q08) s.heap.objs.size f cdv))):
  DSs Z (cxOf (CX1 P w) P w K mg base ["_law_node", "_law_many_here"] "_law_is_node" (defScope q08) f cdv A outer s H E) (fun _=>E) (defBody q08) (q3o K a (run K a n)):=
 (q0f (q03 (dt_w (q3u (q48 (q19 (q8i (c0:=.ty _) rfl (q61 PyProof.Rows.Boot.«tuple» B.b_tuple) B.b_isinstance (dv 0)))) (q3u (q6p (q0k hr) (q4r B.b_len (q0a (dv 0) q0c)) q0b) (q4o (q48 (q19 (x90 rfl B.b_all (q0a (q1a (x6v (x:="_law_one") (Nf:=[]) (js:=[]) (sc:=defScope q08) (N:=["_law_node", "_law_many_here"]) rfl (dv 0) (by decide +kernel)
   (fun _ _ _ _ _ _=>q37)
   (fun _ _ _ _ _ _=>(q0n C._law_whole hr passE (q0a (dv 0) q0c)))
   (fun _ _ _ _ _=>q4c 0 (show(["_law_one"]:List Str).Nodup by decide +kernel)))) q0c))))))))
  (q0e (q0p q1o))
  q0s)
  (q0e (q0p (q6z (z1q (q0h (dv 0) q0b) q0b) (q6z (x01 (q0k hr) (q0h (dv 0) q0b) (q0h (dv 0) q0b)) (q6z (z1p q0b (y7b rfl B.b_min (q0a (q3v (dv 0) (q38 q0b) q45) q0c))) (x4c (y38 (y7c rfl B.b_max (q0a (q3v (dv 0) (q38 q0b) q45) q0c)) (q2c (dv 1) q0b)))))))))
theorem q7e(h:run K a (n+1) q2e ws≠.no):ws.length=2/\(q3o K a (run K a n) (init 2 ws)).fn=run K a (n+1) q2e ws:=by
 rw[q6j]at h |-;split at h
 ·rename_i hl;rw[if_pos hl];exact⟨hl,rfl⟩
 ·exact absurd rfl h
theorem x1j(B:Blt mg)(M:Exs K mg a)(C:Cals P w K mg base a n)(CH:CalsH P w K mg base a n)(BM:BMain base mg)(MK:Mks K mg)(A:Ats K mg):Cal P w K mg base (n+1) "_law_is_node" ["_law_node", "_law_many_here"] (spF K (run K a (n+1) q2e)):=
 con A._law_is_node x08 (fun ws hw=>(q7e hw).1) fun ws hw f cdv A outer s H E Z hr=>⟨_,x2b B M C CH BM MK hr,(q7e hw).2⟩
theorem x2c(B:Blt mg)(M:Exs K mg a)(C:Cals P w K mg base a n)(CH:CalsH P w K mg base a n)(BM:BMain base mg)(MK:Mks K mg){outer:List Env}(hr:Room n (A.deeper (PyProof.Rows.envOfC "_law_reached" (defScope q1e) s.heap.objs.size f cdv))):
  DSs Z (cxOf (CX1 P w) P w K mg base ["_law_nodes", "_law_begin", "_law_order", "_law_waiting", "_law_seen", "_law_one"] "_law_reached" (defScope q1e) f cdv A outer s H E) (fun _=>E) (defBody q1e) (q3p K a (run K a n)):=
 (q0f (q8f 2 sc__law_reached.nd (q07 q0c))
  (q0f (q8f 3 sc__law_reached.nd (q07 (q0a (q00 (q0a (dv 1) (q0a q1o q0c))) q0c)))
  (q0f (q8f 4 sc__law_reached.nd (q07 (q0a q0b (q0a q0b q0c))))
  (q0f (q92 1000000 PassesOwn.leaving (q5l (q52 3 B.b_len) q0b)
  (q0f (q0z 5 sc__law_reached.nd (q60 3))
  (q0e (q03 (q19 (q0h (dv 5) q0b))
  (q0e (q4p 2 (q0a (q0h (dv 5) q0b) q0c)))
  (q0e (q03 (x94 fun _=>(z0h (q0k hr) (q0h (dv 5) q0b) (dv 4)))
  (q0f (q4p 4 (q0a (q0h (dv 5) q0b) q0c))
  (q0f (q4p 3 (q0a (q00 (q0a (q0h (dv 5) q0b) (q0a q1o q0c))) q0c))
  (q0f (q4p 3 (q0a (q00 (q0a (q0h (q0h (dv 0) (q4q (q0h (dv 5) q0b) q0b)) q0b) (q0a q1o q0c))) q0c))
  (q0e (q4p 3 (q0a (q00 (q0a (q0h (q0h (dv 0) (q4q (q0h (dv 5) q0b) q0b)) q0b) (q0a q1o q0c))) q0c))))))
  q0s))))))
  (q0e (y43 2))))))
theorem q7f(h:run K a (n+1) q2f ws≠.no):ws.length=2/\(q3p K a (run K a n) (init 6 ws)).fn=run K a (n+1) q2f ws:=by
 rw[q6k]at h |-;split at h
 ·rename_i hl;rw[if_pos hl];exact⟨hl,rfl⟩
 ·exact absurd rfl h
theorem x1k(B:Blt mg)(M:Exs K mg a)(C:Cals P w K mg base a n)(CH:CalsH P w K mg base a n)(BM:BMain base mg)(MK:Mks K mg)(A:Ats K mg):Cal P w K mg base (n+1) "_law_reached" ["_law_nodes", "_law_begin"] (spF K (run K a (n+1) q2f)):=
 con A._law_reached sc__law_reached (fun ws hw=>(q7f hw).1) fun ws hw f cdv A outer s H E Z hr=>⟨_,x2c B M C CH BM MK hr,(q7f hw).2⟩
theorem x1l(B:Blt mg)(M:Exs K mg a)(C:Cals P w K mg base a n)(CH:CalsH P w K mg base a n)(BM:BMain base mg)(MK:Mks K mg){outer:List Env}(hr:Room n (A.deeper (PyProof.Rows.envOfC "_law_is_least" (defScope q02) s.heap.objs.size f cdv))):
  DSs Z (cxOf (CX1 P w) P w K mg base ["_law_found", "_law_nodes", "_law_k", "_law_at"] "_law_is_least" (defScope q02) f cdv A outer s H E) (fun _=>E) (defBody q02) (q3c K a (run K a n)):=
 (q0f (q03 (dt_w (q3u (q48 (q19 (q8i (c0:=.ty _) rfl (q61 PyProof.Rows.Boot.«tuple» B.b_tuple) B.b_isinstance (dv 0)))) (q3u (q6p (q0k hr) (q4r B.b_len (q0a (dv 0) q0c)) q0b) (q3u (q48 (q19 (q8i (c0:=.ty _) rfl (q61 PyProof.Rows.Boot.«list» B.b_list) B.b_isinstance (q0h (dv 0) q0b)))) (q4o (q48 (q19 (q0n C._law_whole hr pass1 (q0a (q0h (dv 0) q0b) q0c)))))))))
  (q0e (q0p q1o))
  q0s)
  (q0f (q0z 1 sc__law_is_least.nd (q0h (dv 0) q0b))
  (q0f (q03 (dt_w (q3u (q48 (q19 (x90 rfl B.b_all (q0a (q1a (q6b (x:="_law_k") (Nf:=["_law_nodes"]) (js:=[1]) (sc:=defScope q02) (N:=["_law_found", "_law_nodes", "_law_k", "_law_at"]) rfl B.b_range (q0a (q4r B.b_len (q0a (dv 1) q0c)) q0c) (by decide +kernel)
   (fun _ _ _ _ _ _=>q37)
   (fun _ _ _ _ _ _=>(q0n C._law_is_node hr passE (q0a (q0h (dv 1) (dv 0)) (q0a (dv 0) q0c))))
   (fun _ _ _ _ _=>q4c 0 (show(["_law_k", "_law_nodes"]:List Str).Nodup by decide +kernel)))) q0c)))) (q3u (x3r (q0h (dv 0) q0b) q0b) (q4o (q5l (q0h (dv 0) q0b) (q2c (q4r B.b_len (q0a (dv 1) q0c)) q0b))))))
  (q0e (q0p q1o))
  q0s)
  (q0f (q86 2 sc__law_is_least.nd PassesOwn.leaving rfl B.b_range (q0a (q4r B.b_len (q0a (dv 1) q0c)) q0c)
  (q0e (x4d 3 sc__law_is_least.nd PassesOwn.leaving rfl (q3v (q0h (dv 1) (dv 2)) (q38 q0b) q45)
  (q0e (q03 (dt_w (q3u (dt_w (x0y (q5l (dv 3) q0b) (q85 (z1s (q0h (q0h (dv 1) (q4q (dv 3) q0b)) q0b) (q0h (q0h (dv 1) (dv 2)) q0b))))) (q4o (z0z (q0k hr) (q0h (dv 1) (dv 2)) (q3v (dv 1) q45 (q38 (dv 2)))))))
  (q0e (q0p q1o))
  q0s)))))
  (q0e (q0p (q5a (q0k hr) (q0n C._law_reached hr pass1 (q0a (dv 1) (q0a (q0h (dv 0) q0b) q0c))) (q1a (q6b (x:="_law_k") (Nf:=[]) (js:=[]) (sc:=defScope q02) (N:=["_law_found", "_law_nodes", "_law_k", "_law_at"]) rfl B.b_range (q0a (q4r B.b_len (q0a (dv 1) q0c)) q0c) (by decide +kernel)
   (fun _ _ _ _ _ _=>q37)
   (fun _ _ _ _ _ _=>(q2c (dv 0) q0b))
   (fun _ _ _ _ _=>q4c 0 (show(["_law_k"]:List Str).Nodup by decide +kernel)))))))))))
theorem q6t(h:run K a (n+1) q09 ws≠.no):ws.length=1/\(q3c K a (run K a n) (init 4 ws)).fn=run K a (n+1) q09 ws:=by
 rw[q5y]at h |-;split at h
 ·rename_i hl;rw[if_pos hl];exact⟨hl,rfl⟩
 ·exact absurd rfl h
theorem x0j(B:Blt mg)(M:Exs K mg a)(C:Cals P w K mg base a n)(CH:CalsH P w K mg base a n)(BM:BMain base mg)(MK:Mks K mg)(A:Ats K mg):Cal P w K mg base (n+1) "_law_is_least" ["_law_found"] (spF K (run K a (n+1) q09)):=
 con A._law_is_least sc__law_is_least (fun ws hw=>(q6t hw).1) fun ws hw f cdv A outer s H E Z hr=>⟨_,x1l B M C CH BM MK hr,(q6t hw).2⟩
theorem x6i(B:Blt mg)(M:Exs K mg a)(C:Cals P w K mg base a n)(CH:CalsH P w K mg base a n)(BM:BMain base mg)(MK:Mks K mg){outer:List Env}(hr:Room n (A.deeper (PyProof.Rows.envOfC "_law_walk" (defScope q14) s.heap.objs.size f cdv))):
  DSs Z (cxOf (CX1 P w) P w K mg base ["_law_found", "_law_row_here", "_law_at", "_law_node"] "_law_walk" (defScope q14) f cdv A outer s H E) (fun _=>E) (defBody q14) (q4w K a (run K a n)):=
 (q0f (q0z 2 sc__law_walk.nd (q0h (dv 0) q0b))
  (q0f (q92 1000000 PassesOwn.leaving (q5l (dv 2) q0b)
  (q0f (q0z 3 sc__law_walk.nd (q0h (q0h (dv 0) q0b) (q4q (dv 2) q0b)))
  (q0e (q0z 2 sc__law_walk.nd (q0h (dv 3) (q2c q0b (y6c B.b_int (q0a (q0h (dv 1) (q0h (dv 3) q0b)) q0c))))))))
  (q0e (q0p (q5a (q0k hr) (dv 2) q0b)))))
theorem q9s(h:run K a (n+1) q2z ws≠.no):ws.length=2/\(q4w K a (run K a n) (init 4 ws)).fn=run K a (n+1) q2z ws:=by
 rw[q71]at h |-;split at h
 ·rename_i hl;rw[if_pos hl];exact⟨hl,rfl⟩
 ·exact absurd rfl h
theorem x5m(B:Blt mg)(M:Exs K mg a)(C:Cals P w K mg base a n)(CH:CalsH P w K mg base a n)(BM:BMain base mg)(MK:Mks K mg)(A:Ats K mg):Cal P w K mg base (n+1) "_law_walk" ["_law_found", "_law_row_here"] (spF K (run K a (n+1) q2z)):=
 con A._law_walk sc__law_walk (fun ws hw=>(q9s hw).1) fun ws hw f cdv A outer s H E Z hr=>⟨_,x6i B M C CH BM MK hr,(q9s hw).2⟩
theorem x6j(B:Blt mg)(M:Exs K mg a)(C:Cals P w K mg base a n)(CH:CalsH P w K mg base a n)(BM:BMain base mg)(MK:Mks K mg){outer:List Env}(hr:Room n (A.deeper (PyProof.Rows.envOfC "_law_rows" (defScope q1k) s.heap.objs.size f cdv))):
  DSs Z (cxOf (CX1 P w) P w K mg base ["_law_cell", "_law_many_here"] "_law_rows" (defScope q1k) f cdv A outer s H E) (fun _=>E) (defBody q1k) (q4x K a (run K a n)):=
 (q0f (q03 (x3r (dv 1) q0b)
  (q0e (x6t (q6b (x:="_law_number") (Nf:=["_law_many_here"]) (js:=[1]) (sc:=defScope q1k) (N:=["_law_cell", "_law_many_here"]) rfl B.b_range (q0a (q0n C._law_count hr pass1 (q0a (dv 1) q0c)) q0c) (by decide +kernel)
   (fun _ _ _ _ _ _=>q37)
   (fun _ _ _ _ _ _=>(q0n C._law_row_of hr passE (q0a (dv 0) (q0a (dv 1) q0c))))
   (fun _ _ _ _ _=>q4c 0 (show(["_law_number", "_law_many_here"]:List Str).Nodup by decide +kernel)))))
  q0s)
  (q0e (x6t (q6b (x:="_law_k") (Nf:=["_law_cell", "_law_many_here"]) (js:=[0,1]) (sc:=defScope q1k) (N:=["_law_cell", "_law_many_here"]) rfl B.b_range (q0a q0b q0c) (by decide +kernel)
   (fun _ _ _ _ _ _=>q37)
   (fun _ _ _ _ _ _=>(q0n C._law_row hr passE (q0a (q2c (dv 1) (q49 q0b (dv 0))) (q0a (dv 2) q0c))))
   (fun _ _ _ _ _=>q4c 0 (show(["_law_k", "_law_cell", "_law_many_here"]:List Str).Nodup by decide +kernel))))))
theorem q9t(h:run K a (n+1) q20 ws≠.no):ws.length=2/\(q4x K a (run K a n) (init 2 ws)).fn=run K a (n+1) q20 ws:=by
 rw[q72]at h |-;split at h
 ·rename_i hl;rw[if_pos hl];exact⟨hl,rfl⟩
 ·exact absurd rfl h
theorem x5n(B:Blt mg)(M:Exs K mg a)(C:Cals P w K mg base a n)(CH:CalsH P w K mg base a n)(BM:BMain base mg)(MK:Mks K mg)(A:Ats K mg):Cal P w K mg base (n+1) "_law_rows" ["_law_cell", "_law_many_here"] (spF K (run K a (n+1) q20)):=
 con A._law_rows x47 (fun ws hw=>(q9t hw).1) fun ws hw f cdv A outer s H E Z hr=>⟨_,x6j B M C CH BM MK hr,(q9t hw).2⟩
theorem x6k(B:Blt mg)(M:Exs K mg a)(C:Cals P w K mg base a n)(CH:CalsH P w K mg base a n)(BM:BMain base mg)(MK:Mks K mg){outer:List Env}(hr:Room n (A.deeper (PyProof.Rows.envOfC "_law_many" (defScope q15) s.heap.objs.size f cdv))):
  DSs Z (cxOf (CX1 P w) P w K mg base ["_law_cell"] "_law_many" (defScope q15) f cdv A outer s H E) (fun _=>E) (defBody q15) (q4y K a (run K a n)):=
 (q0f (q03 (q5l (q2a (dv 0) q0b) q0b)
  (q0e (q0p (q2c q0b (q2a (q4k (dv 0) q0b) q0b))))
  q0s)
  (q0e (q0p (q2a (q2a (dv 0) q0b) q0b))))
theorem q9u(h:run K a (n+1) q21 ws≠.no):ws.length=1/\(q4y K a (run K a n) (init 1 ws)).fn=run K a (n+1) q21 ws:=by
 rw[q73]at h |-;split at h
 ·rename_i hl;rw[if_pos hl];exact⟨hl,rfl⟩
 ·exact absurd rfl h
theorem x5o(B:Blt mg)(M:Exs K mg a)(C:Cals P w K mg base a n)(CH:CalsH P w K mg base a n)(BM:BMain base mg)(MK:Mks K mg)(A:Ats K mg):Cal P w K mg base (n+1) "_law_many" ["_law_cell"] (spF K (run K a (n+1) q21)):=
 con A._law_many x48 (fun ws hw=>(q9u hw).1) fun ws hw f cdv A outer s H E Z hr=>⟨_,x6k B M C CH BM MK hr,(q9u hw).2⟩
theorem x5p(B:Blt mg)(M:Exs K mg a)(C:Cals P w K mg base a n)(CH:CalsH P w K mg base a n)(BM:BMain base mg)(MK:Mks K mg){outer:List Env}(hr:Room n (A.deeper (PyProof.Rows.envOfC "_law_cells" (defScope q1h) s.heap.objs.size f cdv))):
  DSs Z (cxOf (CX1 P w) P w K mg base ["_law_cells_here"] "_law_cells" (defScope q1h) f cdv A outer s H E) (fun _=>E) (defBody q1h) (q4j K a (run K a n)):=
 (q0e (q0p (q2c (q3v (dv 0) q45 (q38 q0b)) (q1a (x6v (x:="_law_cell") (Nf:=[]) (js:=[]) (sc:=defScope q1h) (N:=["_law_cells_here"]) rfl (q3v (dv 0) (q38 q0b) q45) (by decide +kernel)
   (fun _ _ _ _ _ _=>q37)
   (fun _ _ _ _ _ _=>(q2c (q2c (q49 (q4k (dv 0) q0b) q0b) q0b) (q2a (dv 0) q0b)))
   (fun _ _ _ _ _=>q4c 0 (show(["_law_cell"]:List Str).Nodup by decide +kernel)))))))
theorem q8w(h:run K a (n+1) q2q ws≠.no):ws.length=1/\(q4j K a (run K a n) (init 1 ws)).fn=run K a (n+1) q2q ws:=by
 rw[q7a]at h |-;split at h
 ·rename_i hl;rw[if_pos hl];exact⟨hl,rfl⟩
 ·exact absurd rfl h
theorem x3o(B:Blt mg)(M:Exs K mg a)(C:Cals P w K mg base a n)(CH:CalsH P w K mg base a n)(BM:BMain base mg)(MK:Mks K mg)(A:Ats K mg):Cal P w K mg base (n+1) "_law_cells" ["_law_cells_here"] (spF K (run K a (n+1) q2q)):=
 con A._law_cells x3f (fun ws hw=>(q8w hw).1) fun ws hw f cdv A outer s H E Z hr=>⟨_,x5p B M C CH BM MK hr,(q8w hw).2⟩
theorem x2d(B:Blt mg)(M:Exs K mg a)(C:Cals P w K mg base a n)(CH:CalsH P w K mg base a n)(BM:BMain base mg)(MK:Mks K mg){outer:List Env}(hr:Room n (A.deeper (PyProof.Rows.envOfC "_law_word_of" (defScope q1f) s.heap.objs.size f cdv))):
  DSs Z (cxOf (CX1 P w) P w K mg base ["_law_word", "_law_one", "_law_other"] "_law_word_of" (defScope q1f) f cdv A outer s H E) (fun _=>E) (defBody q1f) (q3q K a (run K a n)):=
 (q0f (q03 (q1y (q0k hr) (dv 0) q0r)
  (q0e (q0p (q5a (q0k hr) (q1a (q07 (q0a (dv 1) (q0a (dv 2) q0c)))) (q1a (q07 (q0a q1o (q0a q1o q0c)))))))
  q0s)
  (q0f (q03 (q1y (q0k hr) (dv 0) q0r)
  (q0e (q0p (x01 (q0k hr) (q1a (q07 (q0a (dv 1) (q0a (dv 2) q0c)))) (q1a (q07 (q0a q1o (q0a q1o q0c)))))))
  q0s)
  (q0e (q0p (x01 (q0k hr) (dv 1) (dv 2))))))
theorem q7g(h:run K a (n+1) q2g ws≠.no):ws.length=3/\(q3q K a (run K a n) (init 3 ws)).fn=run K a (n+1) q2g ws:=by
 rw[q6l]at h |-;split at h
 ·rename_i hl;rw[if_pos hl];exact⟨hl,rfl⟩
 ·exact absurd rfl h
theorem x1m(B:Blt mg)(M:Exs K mg a)(C:Cals P w K mg base a n)(CH:CalsH P w K mg base a n)(BM:BMain base mg)(MK:Mks K mg)(A:Ats K mg):Cal P w K mg base (n+1) "_law_word_of" ["_law_word", "_law_one", "_law_other"] (spF K (run K a (n+1) q2g)):=
 con A._law_word_of x09 (fun ws hw=>(q7g hw).1) fun ws hw f cdv A outer s H E Z hr=>⟨_,x2d B M C CH BM MK hr,(q7g hw).2⟩
theorem y4b(B:Blt mg)(M:Exs K mg a)(C:Cals P w K mg base a n)(CH:CalsH P w K mg base a n)(BM:BMain base mg)(MK:Mks K mg){outer:List Env}(hr:Room n (A.deeper (PyProof.Rows.envOfC "law" (defScope q40) s.heap.objs.size f cdv)))(hz:Z.H=H/\Z.io=[]):
  DSs Z (cxOf (CX1 P w) P w K mg base ["_law_script", "_law_many_here", "_law_cells_here", "_law_one", "_law_two", "_law_word", "_law_ones", "_law_twos", "_law_kept", "_law_other", "_law_both", "_law_row_here", "_law_truths", "_law_same"] "law" (defScope q40) f cdv A outer s H E) (fun _=>E) (defBody q40) (x1a K a (run K a n)):=
 (q0f (q0z 1 sc_law.nd (q0n C._law_many hr pass1 (q0a (q0n C._law_cell_at hr pass1 (q0a (dv 0) (q0a q0b q0c))) q0c)))
  (q0f (q0z 2 sc_law.nd (q0n C._law_cells hr pass1 (q0a (q3v (dv 0) (q38 q0b) (q38 q0b)) q0c)))
  (q0f (q0z 3 sc_law.nd (q0n C._law_form_by hr pass1 (q0a (q3v (dv 2) q45 (q38 (q4k (q4r B.b_len (q0a (dv 2) q0c)) q0b))) (q0a (dv 1) q0c))))
  (q0f (q0z 4 sc_law.nd (q0n C._law_form_by hr pass1 (q0a (q3v (dv 2) (q38 (q4k (q4r B.b_len (q0a (dv 2) q0c)) q0b)) q45) (q0a (dv 1) q0c))))
  (q0f (q0z 5 sc_law.nd (q0h (q1a (q07 (q0a q0r (q0a q0r (q0a q0r q0c))))) (q2a (q0n C._law_cell_at hr pass1 (q0a (dv 0) (q0a q0b q0c))) q0b)))
  (q0f (q0z 6 sc_law.nd (q0n C.graph hr pass1 (q0a (dv 3) q0c)))
  (q0f (q0z 7 sc_law.nd (q0n C.graph hr pass1 (q0a (dv 4) q0c)))
  (q0f (q0z 8 sc_law.nd (q1a (q07 (q0a (q00 (q0a (q1a (x6x B.b_list (q0a (q0h (dv 6) q0b) q0c))) (q0a (q0h (dv 6) q0b) q0c))) (q0a (q00 (q0a (q1a (x6x B.b_list (q0a (q0h (dv 7) q0b) q0c))) (q0a (q0h (dv 7) q0b) q0c))) q0c)))))
  (y2t hz.1 hz.2 fun _ hzb hG hio=>
  (q46 (x4t 9 sc_law.nd (q6c C.turned hr pass1 (q0a (dv 6) q0c)))
  (q46 (x4t 10 sc_law.nd (q6c C.joined hr pass1 (q0a (dv 5) (q0a (dv 6) (q0a (dv 7) q0c)))))
  (q46 (q03 (dt_w (q3u (q48 (q19 (q0n C._law_is_least hr pass1 (q0a (dv 9) q0c)))) (q3u (q48 (q19 (q0n C._law_is_least hr pass1 (q0a (dv 10) q0c)))) (q4o (q6p (q0k hr) (q1a (q07 (q0a (dv 6) (q0a (dv 7) q0c)))) (dv 8))))))
  (q0e (q0p q1o))
  q0s)
  (q46 (x4d 11 sc_law.nd PassesOwn.leaving rfl (q0n C._law_rows hr pass1 (q0a (q0n C._law_cell_at hr pass1 (q0a (dv 0) (q0a q0b q0c))) (q0a (dv 1) q0c)))
  (q0f (q0z 12 sc_law.nd (q1a (q07 (q0a (q0n C._law_truth hr pass1 (q0a (dv 3) (q0a (dv 11) q0c))) (q0a (q0n C._law_truth hr pass1 (q0a (dv 4) (q0a (dv 11) q0c))) q0c)))))
  (q0e (q03 (dt_w (q3u (q1y (q0k hr) (q0n C._law_walk hr pass1 (q0a (dv 9) (q0a (dv 11) q0c))) (q0h (dv 12) q0b)) (q4o (q6p (q0k hr) (q0n C._law_walk hr pass1 (q0a (dv 10) (q0a (dv 11) q0c))) (q0n C._law_word_of hr pass1 (q0a (dv 5) (q0a (q0h (dv 12) q0b) (q0a (q0h (dv 12) q0b) q0c))))))))
  (q0e (q0p q1o))
  q0s))))
  (x8h 9 10 hG hio
  (q46 (q03 (dt_w (q3u (q6p (q0k hr) (q0n C.turned hr pass1 (q0a (q0n C.turned hr pass1 (q0a (dv 6) q0c)) q0c)) (q0h (dv 8) q0b)) (q4o (q6p (q0k hr) (q1a (q07 (q0a (dv 6) (q0a (dv 7) q0c)))) (dv 8)))))
  (q0e (q0p q1o))
  q0s)
  (y0q 13 hzb hG hio sc_law.nd PassesOwn.leaving rfl (fun _ hzb=>(q6c C.joined hr pass1 (q0a q0r (q0a (dv 6) (q0a (dv 6) q0c))))) (fun _ hzb=>(q6c C.joined hr pass1 (q0a q0r (q0a (dv 6) (q0a (q00 (q0a (q1a (q07 q0c)) (q0a q0b q0c))) q0c))))) (fun _ hzb=>(q6c C.joined hr pass1 (q0a q0r (q0a (q00 (q0a (q1a (q07 q0c)) (q0a q0b q0c))) (q0a (dv 6) q0c)))))
  (fun _ hzb hG hio=>(q46 (q03 (q6p (q0k hr) (dv 13) (q0h (dv 8) q0b))
  (q0e (q0p q1o))
  q0s)
  (x8f 13 hG hio
  y27)))
  (y2s (q0p (q6z (q5a (q0k hr) (q0n C.joined hr pass1 (q0a q0r (q0a (dv 6) (q0a (dv 6) q0c)))) (q00 (q0a (q1a (q07 q0c)) (q0a q0b q0c)))) (q6z (q5a (q0k hr) (q0n C.joined hr pass1 (q0a q0r (q0a (dv 6) (q0a (dv 6) q0c)))) (q0h (dv 8) q0b)) (x4c (q5a (q0k hr) (q1a (q07 (q0a (dv 6) (q0a (dv 7) q0c)))) (dv 8)))))))))))))))))))))))
theorem x3x(h:run K a (n+1) q6r ws≠.no):ws.length=1/\(x1a K a (run K a n) (init 14 ws)).fn=run K a (n+1) q6r ws:=by
 rw[x69]at h |-;split at h
 ·rename_i hl;rw[if_pos hl];exact⟨hl,rfl⟩
 ·exact absurd rfl h
theorem z07(B:Blt mg)(M:Exs K mg a)(C:Cals P w K mg base a n)(CH:CalsH P w K mg base a n)(BM:BMain base mg)(MK:Mks K mg)(A:Ats K mg):Cal P w K mg base (n+1) "law" ["_law_script"] (spF K (run K a (n+1) q6r)):=
 conZ A.law sc_law (fun ws hw=>(x3x hw).1) fun ws hw f cdv A outer s H E Z hr hz=>⟨_,y4b B M C CH BM MK hr hz,(x3x hw).2⟩
theorem allH(A:Ats K mg)(B:Blt mg)(M:Exs K mg a):∀n,CalsH P w K mg base a n
 |0=>⟨trivial⟩
 |n+1=>⟨trivial⟩
theorem x5q(B:Blt mg)(M:Exs K mg a)(C:Cals P w K mg base a n)(CH:CalsH P w K mg base a n):LamOk P w K mg base n q3y ["pair"] (run K a (n+1) q0x) where
 sc:=⟨rfl,rfl,rfl,by decide +kernel,by decide +kernel,by decide +kernel,by decide +kernel⟩
 bind:=fun cl pm c' ctv=>us1 fun _=>rfl
 len:=fun ws h=>by
  rw[q43]at h;split at h
  ·assumption
  ·exact absurd rfl h
 body:=fun ws h Z f cd cl A outer s H hr=>⟨q4l K a (run K a n),(q0n C.told_of_pair hr passE (q0a (dv 1) (q0a (dv 2) (q0a (dv 3) (q0a (dv 0) q0c))))),by
  rw[q43]at h |-;split at h
  ·rename_i hl;rw[if_pos hl]
  ·exact absurd rfl h⟩
theorem okl(B:Blt mg)(M:Exs K mg a)(C:Cals P w K mg base a n)(CH:CalsH P w K mg base a n):FnV P w K mg base (CX1 P w) (n+1) (spV K lams (run K a (n+1))):=z0m fun i l h=>by
 unfold lams at h;split at h
 ·cases h;exact⟨_,x5q B M C CH⟩
 ·cases h
theorem all(A:Ats K mg)(B:Blt mg)(M:Exs K mg a)(BM:BMain base mg)(MK:Mks K mg):∀n,Cals P w K mg base a n
 |0=>⟨con0 A.eased_not,con0 A.eased,con0 A.with_truth,con0 A.least_graph,con0X A.number_for (fun _ _ _ _ h=>z3d (fun _ _ _=>rfl) h),con0X A.node_number (fun _ _ _ _ h=>absurd h.1 (w1j 0)),con0 A.node_at,con0 A.is_end,con0 A.turned,con0 A.other_end,con0 A.joined,con0 A.told_of_pair,con0 A.known_form,con0 A.gone_on,con0 A.graph,con0 A._law_cell_at,con0 A._law_whole,con0 A._law_mixed,con0 A._law_leaf,con0 A._law_deep,con0 A._law_form_by,con0 A._law_truth,con0 A._law_row,con0 A._law_count,con0 A._law_row_of,con0 A._law_is_node,con0 A._law_reached,con0 A._law_is_least,con0 A._law_walk,con0 A._law_rows,con0 A._law_many,con0 A._law_cells,con0 A._law_word_of,con0 A.law,fnV0⟩
 |n+1=>⟨x49 B M (all A B M BM MK n) (allH A B M n) BM MK A,y3f B M (all A B M BM MK n) (allH A B M n) BM MK A,x3g B M (all A B M BM MK n) (allH A B M n) BM MK A,x15 B M (all A B M BM MK n) (allH A B M n) BM MK A,x3h B M (all A B M BM MK n) (allH A B M n) BM MK A,x16 B M (all A B M BM MK n) (allH A B M n) BM MK A,x8l B M (all A B M BM MK n) (allH A B M n) BM MK A,y0u B M (all A B M BM MK n) (allH A B M n) BM MK A,y0v B M (all A B M BM MK n) (allH A B M n) BM MK A,x5d B M (all A B M BM MK n) (allH A B M n) BM MK A,y0w B M (all A B M BM MK n) (allH A B M n) BM MK A,x1f B M (all A B M BM MK n) (allH A B M n) BM MK A,x3i B M (all A B M BM MK n) (allH A B M n) BM MK A,x8m B M (all A B M BM MK n) (allH A B M n) BM MK A,y3j B M (all A B M BM MK n) (allH A B M n) BM MK A,x1g B M (all A B M BM MK n) (allH A B M n) BM MK A,x3j B M (all A B M BM MK n) (allH A B M n) BM MK A,x3k B M (all A B M BM MK n) (allH A B M n) BM MK A,x5i B M (all A B M BM MK n) (allH A B M n) BM MK A,x5j B M (all A B M BM MK n) (allH A B M n) BM MK A,x1h B M (all A B M BM MK n) (allH A B M n) BM MK A,x3l B M (all A B M BM MK n) (allH A B M n) BM MK A,x6h B M (all A B M BM MK n) (allH A B M n) BM MK A,x3m B M (all A B M BM MK n) (allH A B M n) BM MK A,x2a B M (all A B M BM MK n) (allH A B M n) BM MK A,x1j B M (all A B M BM MK n) (allH A B M n) BM MK A,x1k B M (all A B M BM MK n) (allH A B M n) BM MK A,x0j B M (all A B M BM MK n) (allH A B M n) BM MK A,x5m B M (all A B M BM MK n) (allH A B M n) BM MK A,x5n B M (all A B M BM MK n) (allH A B M n) BM MK A,x5o B M (all A B M BM MK n) (allH A B M n) BM MK A,x3o B M (all A B M BM MK n) (allH A B M n) BM MK A,x1m B M (all A B M BM MK n) (allH A B M n) BM MK A,z07 B M (all A B M BM MK n) (allH A B M n) BM MK A,okl B M (all A B M BM MK n) (allH A B M n)⟩
theorem law_fn{fd:FuncData}(A:Ats K mg)(B:Blt mg)(M:Exs K mg a)(BM:BMain base mg)(MK:Mks K mg)(F:Fun K "law" "law" q40 f fd)(n:Nat):FnOk P w K mg base (CX1 P w) (n+1) f fd ["_law_script"] (spF K (run K a (n+1) q6r)):=
 conFZ F sc_law (fun ws hw=>(x3x hw).1) fun ws hw cdv A' outer s H E Z hr hz=>⟨_,y4b B M (all A B M BM MK n) (allH A B M n) BM MK hr hz,(x3x hw).2⟩
end
theorem mk{l:PySem.W.OpenLaw}{w:World}{h:Heap}{fa:Addr}(X:K.In h)(G:h.Ns mainGlobals mg)(hfa:mg "law"=some (.ref fa))
  {f0:Addr}{od0 an0:Option Addr}{sl0:Array (Option Value)}{oc0 kV0 dc0 pm0 cd0 ct0:Value}
  {f1:Addr}{od1 an1:Option Addr}{sl1:Array (Option Value)}{oc1 kV1 dc1 pm1 cd1 ct1:Value}
  {f2:Addr}{od2 an2:Option Addr}{sl2:Array (Option Value)}{oc2 kV2 dc2 pm2 cd2 ct2:Value}
  {f3:Addr}{od3 an3:Option Addr}{sl3:Array (Option Value)}{oc3 kV3 dc3 pm3 cd3 ct3:Value}
  {f4:Addr}{od4 an4:Option Addr}{sl4:Array (Option Value)}{oc4 kV4 dc4 pm4 cd4 ct4:Value}
  {f5:Addr}{od5 an5:Option Addr}{sl5:Array (Option Value)}{oc5 kV5 dc5 pm5 cd5 ct5:Value}
  {f6:Addr}{od6 an6:Option Addr}{sl6:Array (Option Value)}{oc6 kV6 dc6 pm6 cd6 ct6:Value}
  {f7:Addr}{od7 an7:Option Addr}{sl7:Array (Option Value)}{oc7 kV7 dc7 pm7 cd7 ct7:Value}
  {f8:Addr}{od8 an8:Option Addr}{sl8:Array (Option Value)}{oc8 kV8 dc8 pm8 cd8 ct8:Value}
  {f9:Addr}{od9 an9:Option Addr}{sl9:Array (Option Value)}{oc9 kV9 dc9 pm9 cd9 ct9:Value}
  {f10:Addr}{od10 an10:Option Addr}{sl10:Array (Option Value)}{oc10 kV10 dc10 pm10 cd10 ct10:Value}
  {f11:Addr}{od11 an11:Option Addr}{sl11:Array (Option Value)}{oc11 kV11 dc11 pm11 cd11 ct11:Value}
  {f12:Addr}{od12 an12:Option Addr}{sl12:Array (Option Value)}{oc12 kV12 dc12 pm12 cd12 ct12:Value}
  {f13:Addr}{od13 an13:Option Addr}{sl13:Array (Option Value)}{oc13 kV13 dc13 pm13 cd13 ct13:Value}
  {f14:Addr}{od14 an14:Option Addr}{sl14:Array (Option Value)}{oc14 kV14 dc14 pm14 cd14 ct14:Value}
  {f15:Addr}{od15 an15:Option Addr}{sl15:Array (Option Value)}{oc15 kV15 dc15 pm15 cd15 ct15:Value}
  {f16:Addr}{od16 an16:Option Addr}{sl16:Array (Option Value)}{oc16 kV16 dc16 pm16 cd16 ct16:Value}
  {f17:Addr}{od17 an17:Option Addr}{sl17:Array (Option Value)}{oc17 kV17 dc17 pm17 cd17 ct17:Value}
  {f18:Addr}{od18 an18:Option Addr}{sl18:Array (Option Value)}{oc18 kV18 dc18 pm18 cd18 ct18:Value}
  {f19:Addr}{od19 an19:Option Addr}{sl19:Array (Option Value)}{oc19 kV19 dc19 pm19 cd19 ct19:Value}
  {f20:Addr}{od20 an20:Option Addr}{sl20:Array (Option Value)}{oc20 kV20 dc20 pm20 cd20 ct20:Value}
  {f21:Addr}{od21 an21:Option Addr}{sl21:Array (Option Value)}{oc21 kV21 dc21 pm21 cd21 ct21:Value}
  {f22:Addr}{od22 an22:Option Addr}{sl22:Array (Option Value)}{oc22 kV22 dc22 pm22 cd22 ct22:Value}
  {f23:Addr}{od23 an23:Option Addr}{sl23:Array (Option Value)}{oc23 kV23 dc23 pm23 cd23 ct23:Value}
  {f24:Addr}{od24 an24:Option Addr}{sl24:Array (Option Value)}{oc24 kV24 dc24 pm24 cd24 ct24:Value}
  {f25:Addr}{od25 an25:Option Addr}{sl25:Array (Option Value)}{oc25 kV25 dc25 pm25 cd25 ct25:Value}
  {f26:Addr}{od26 an26:Option Addr}{sl26:Array (Option Value)}{oc26 kV26 dc26 pm26 cd26 ct26:Value}
  {f27:Addr}{od27 an27:Option Addr}{sl27:Array (Option Value)}{oc27 kV27 dc27 pm27 cd27 ct27:Value}
  {f28:Addr}{od28 an28:Option Addr}{sl28:Array (Option Value)}{oc28 kV28 dc28 pm28 cd28 ct28:Value}
  {f29:Addr}{od29 an29:Option Addr}{sl29:Array (Option Value)}{oc29 kV29 dc29 pm29 cd29 ct29:Value}
  {f30:Addr}{od30 an30:Option Addr}{sl30:Array (Option Value)}{oc30 kV30 dc30 pm30 cd30 ct30:Value}
  {f31:Addr}{od31 an31:Option Addr}{sl31:Array (Option Value)}{oc31 kV31 dc31 pm31 cd31 ct31:Value}
  {f32:Addr}{od32 an32:Option Addr}{sl32:Array (Option Value)}{oc32 kV32 dc32 pm32 cd32 ct32:Value}
  {f33:Addr}{od33 an33:Option Addr}{sl33:Array (Option Value)}{oc33 kV33 dc33 pm33 cd33 ct33:Value}
  {cc10 PP10:Addr}
  (a0:PySem.W.nsIn K mainGlobals "eased_not"=some (some (.ref f0)))
  (l0:K.lookup f0=some ⟨oc0,od0,.func (PySem.W.fnOf "eased_not" "eased_not" (defArgs q10) (defBody q10) (defScope q10) .none kV0 dc0 pm0 an0 cd0 ct0),sl0⟩)
  (c0:PySem.W.codeIn K cd0 "eased_not"=true)
  (k0:keepIn K (.ref f0)=true)
  (a1:PySem.W.nsIn K mainGlobals "eased"=some (some (.ref f1)))
  (l1:K.lookup f1=some ⟨oc1,od1,.func (PySem.W.fnOf "eased" "eased" (defArgs q4a) (defBody q4a) (defScope q4a) .none kV1 dc1 pm1 an1 cd1 ct1),sl1⟩)
  (c1:PySem.W.codeIn K cd1 "eased"=true)
  (k1:keepIn K (.ref f1)=true)
  (a2:PySem.W.nsIn K mainGlobals "with_truth"=some (some (.ref f2)))
  (l2:K.lookup f2=some ⟨oc2,od2,.func (PySem.W.fnOf "with_truth" "with_truth" (defArgs q1p) (defBody q1p) (defScope q1p) .none kV2 dc2 pm2 an2 cd2 ct2),sl2⟩)
  (c2:PySem.W.codeIn K cd2 "with_truth"=true)
  (k2:keepIn K (.ref f2)=true)
  (a3:PySem.W.nsIn K mainGlobals "least_graph"=some (some (.ref f3)))
  (l3:K.lookup f3=some ⟨oc3,od3,.func (PySem.W.fnOf "least_graph" "least_graph" (defArgs q2t) (defBody q2t) (defScope q2t) .none kV3 dc3 pm3 an3 cd3 ct3),sl3⟩)
  (c3:PySem.W.codeIn K cd3 "least_graph"=true)
  (k3:keepIn K (.ref f3)=true)
  (a4:PySem.W.nsIn K mainGlobals "number_for"=some (some (.ref f4)))
  (l4:K.lookup f4=some ⟨oc4,od4,.func (PySem.W.fnOf "number_for" "number_for" (defArgs q25) (defBody q25) (defScope q25) .none kV4 dc4 pm4 an4 cd4 ct4),sl4⟩)
  (c4:PySem.W.codeIn K cd4 "number_for"=true)
  (k4:keepIn K (.ref f4)=true)
  (a5:PySem.W.nsIn K mainGlobals "node_number"=some (some (.ref f5)))
  (l5:K.lookup f5=some ⟨oc5,od5,.func (PySem.W.fnOf "node_number" "node_number" (defArgs q2u) (defBody q2u) (defScope q2u) .none kV5 dc5 pm5 an5 cd5 ct5),sl5⟩)
  (c5:PySem.W.codeIn K cd5 "node_number"=true)
  (k5:keepIn K (.ref f5)=true)
  (a6:PySem.W.nsIn K mainGlobals "node_at"=some (some (.ref f6)))
  (l6:K.lookup f6=some ⟨oc6,od6,.func (PySem.W.fnOf "node_at" "node_at" (defArgs q22) (defBody q22) (defScope q22) .none kV6 dc6 pm6 an6 cd6 ct6),sl6⟩)
  (c6:PySem.W.codeIn K cd6 "node_at"=true)
  (k6:keepIn K (.ref f6)=true)
  (a7:PySem.W.nsIn K mainGlobals "is_end"=some (some (.ref f7)))
  (l7:K.lookup f7=some ⟨oc7,od7,.func (PySem.W.fnOf "is_end" "is_end" (defArgs q3i) (defBody q3i) (defScope q3i) .none kV7 dc7 pm7 an7 cd7 ct7),sl7⟩)
  (c7:PySem.W.codeIn K cd7 "is_end"=true)
  (k7:keepIn K (.ref f7)=true)
  (a8:PySem.W.nsIn K mainGlobals "turned"=some (some (.ref f8)))
  (l8:K.lookup f8=some ⟨oc8,od8,.func (PySem.W.fnOf "turned" "turned" (defArgs q26) (defBody q26) (defScope q26) .none kV8 dc8 pm8 an8 cd8 ct8),sl8⟩)
  (c8:PySem.W.codeIn K cd8 "turned"=true)
  (k8:keepIn K (.ref f8)=true)
  (a9:PySem.W.nsIn K mainGlobals "other_end"=some (some (.ref f9)))
  (l9:K.lookup f9=some ⟨oc9,od9,.func (PySem.W.fnOf "other_end" "other_end" (defArgs q11) (defBody q11) (defScope q11) .none kV9 dc9 pm9 an9 cd9 ct9),sl9⟩)
  (c9:PySem.W.codeIn K cd9 "other_end"=true)
  (k9:keepIn K (.ref f9)=true)
  (a10:PySem.W.nsIn K mainGlobals "joined"=some (some (.ref f10)))
  (l10:K.lookup f10=some ⟨oc10,od10,.func (PySem.W.fnOf "joined" "joined" (defArgs q2v) (defBody q2v) (defScope q2v) .none kV10 dc10 pm10 an10 cd10 ct10),sl10⟩)
  (c10:PySem.W.codeIn K cd10 "joined"=true)
  (k10:keepIn K (.ref f10)=true)
  (a11:PySem.W.nsIn K mainGlobals "told_of_pair"=some (some (.ref f11)))
  (l11:K.lookup f11=some ⟨oc11,od11,.func (PySem.W.fnOf "told_of_pair" "told_of_pair" (defArgs q01) (defBody q01) (defScope q01) .none kV11 dc11 pm11 an11 cd11 ct11),sl11⟩)
  (c11:PySem.W.codeIn K cd11 "told_of_pair"=true)
  (k11:keepIn K (.ref f11)=true)
  (a12:PySem.W.nsIn K mainGlobals "known_form"=some (some (.ref f12)))
  (l12:K.lookup f12=some ⟨oc12,od12,.func (PySem.W.fnOf "known_form" "known_form" (defArgs q1q) (defBody q1q) (defScope q1q) .none kV12 dc12 pm12 an12 cd12 ct12),sl12⟩)
  (c12:PySem.W.codeIn K cd12 "known_form"=true)
  (k12:keepIn K (.ref f12)=true)
  (a13:PySem.W.nsIn K mainGlobals "gone_on"=some (some (.ref f13)))
  (l13:K.lookup f13=some ⟨oc13,od13,.func (PySem.W.fnOf "gone_on" "gone_on" (defArgs q23) (defBody q23) (defScope q23) .none kV13 dc13 pm13 an13 cd13 ct13),sl13⟩)
  (c13:PySem.W.codeIn K cd13 "gone_on"=true)
  (k13:keepIn K (.ref f13)=true)
  (a14:PySem.W.nsIn K mainGlobals "graph"=some (some (.ref f14)))
  (l14:K.lookup f14=some ⟨oc14,od14,.func (PySem.W.fnOf "graph" "graph" (defArgs q4b) (defBody q4b) (defScope q4b) .none kV14 dc14 pm14 an14 cd14 ct14),sl14⟩)
  (c14:PySem.W.codeIn K cd14 "graph"=true)
  (k14:keepIn K (.ref f14)=true)
  (a15:PySem.W.nsIn K mainGlobals "_law_cell_at"=some (some (.ref f15)))
  (l15:K.lookup f15=some ⟨oc15,od15,.func (PySem.W.fnOf "_law_cell_at" "_law_cell_at" (defArgs q1c) (defBody q1c) (defScope q1c) .none kV15 dc15 pm15 an15 cd15 ct15),sl15⟩)
  (c15:PySem.W.codeIn K cd15 "_law_cell_at"=true)
  (k15:keepIn K (.ref f15)=true)
  (a16:PySem.W.nsIn K mainGlobals "_law_whole"=some (some (.ref f16)))
  (l16:K.lookup f16=some ⟨oc16,od16,.func (PySem.W.fnOf "_law_whole" "_law_whole" (defArgs q1r) (defBody q1r) (defScope q1r) .none kV16 dc16 pm16 an16 cd16 ct16),sl16⟩)
  (c16:PySem.W.codeIn K cd16 "_law_whole"=true)
  (k16:keepIn K (.ref f16)=true)
  (a17:PySem.W.nsIn K mainGlobals "_law_mixed"=some (some (.ref f17)))
  (l17:K.lookup f17=some ⟨oc17,od17,.func (PySem.W.fnOf "_law_mixed" "_law_mixed" (defArgs q1s) (defBody q1s) (defScope q1s) .none kV17 dc17 pm17 an17 cd17 ct17),sl17⟩)
  (c17:PySem.W.codeIn K cd17 "_law_mixed"=true)
  (k17:keepIn K (.ref f17)=true)
  (a18:PySem.W.nsIn K mainGlobals "_law_leaf"=some (some (.ref f18)))
  (l18:K.lookup f18=some ⟨oc18,od18,.func (PySem.W.fnOf "_law_leaf" "_law_leaf" (defArgs q12) (defBody q12) (defScope q12) .none kV18 dc18 pm18 an18 cd18 ct18),sl18⟩)
  (c18:PySem.W.codeIn K cd18 "_law_leaf"=true)
  (k18:keepIn K (.ref f18)=true)
  (a19:PySem.W.nsIn K mainGlobals "_law_deep"=some (some (.ref f19)))
  (l19:K.lookup f19=some ⟨oc19,od19,.func (PySem.W.fnOf "_law_deep" "_law_deep" (defArgs q13) (defBody q13) (defScope q13) .none kV19 dc19 pm19 an19 cd19 ct19),sl19⟩)
  (c19:PySem.W.codeIn K cd19 "_law_deep"=true)
  (k19:keepIn K (.ref f19)=true)
  (a20:PySem.W.nsIn K mainGlobals "_law_form_by"=some (some (.ref f20)))
  (l20:K.lookup f20=some ⟨oc20,od20,.func (PySem.W.fnOf "_law_form_by" "_law_form_by" (defArgs q1d) (defBody q1d) (defScope q1d) .none kV20 dc20 pm20 an20 cd20 ct20),sl20⟩)
  (c20:PySem.W.codeIn K cd20 "_law_form_by"=true)
  (k20:keepIn K (.ref f20)=true)
  (a21:PySem.W.nsIn K mainGlobals "_law_truth"=some (some (.ref f21)))
  (l21:K.lookup f21=some ⟨oc21,od21,.func (PySem.W.fnOf "_law_truth" "_law_truth" (defArgs q1t) (defBody q1t) (defScope q1t) .none kV21 dc21 pm21 an21 cd21 ct21),sl21⟩)
  (c21:PySem.W.codeIn K cd21 "_law_truth"=true)
  (k21:keepIn K (.ref f21)=true)
  (a22:PySem.W.nsIn K mainGlobals "_law_row"=some (some (.ref f22)))
  (l22:K.lookup f22=some ⟨oc22,od22,.func (PySem.W.fnOf "_law_row" "_law_row" (defArgs q17) (defBody q17) (defScope q17) .none kV22 dc22 pm22 an22 cd22 ct22),sl22⟩)
  (c22:PySem.W.codeIn K cd22 "_law_row"=true)
  (k22:keepIn K (.ref f22)=true)
  (a23:PySem.W.nsIn K mainGlobals "_law_count"=some (some (.ref f23)))
  (l23:K.lookup f23=some ⟨oc23,od23,.func (PySem.W.fnOf "_law_count" "_law_count" (defArgs q1u) (defBody q1u) (defScope q1u) .none kV23 dc23 pm23 an23 cd23 ct23),sl23⟩)
  (c23:PySem.W.codeIn K cd23 "_law_count"=true)
  (k23:keepIn K (.ref f23)=true)
  (a24:PySem.W.nsIn K mainGlobals "_law_row_of"=some (some (.ref f24)))
  (l24:K.lookup f24=some ⟨oc24,od24,.func (PySem.W.fnOf "_law_row_of" "_law_row_of" (defArgs q1j) (defBody q1j) (defScope q1j) .none kV24 dc24 pm24 an24 cd24 ct24),sl24⟩)
  (c24:PySem.W.codeIn K cd24 "_law_row_of"=true)
  (k24:keepIn K (.ref f24)=true)
  (a25:PySem.W.nsIn K mainGlobals "_law_is_node"=some (some (.ref f25)))
  (l25:K.lookup f25=some ⟨oc25,od25,.func (PySem.W.fnOf "_law_is_node" "_law_is_node" (defArgs q08) (defBody q08) (defScope q08) .none kV25 dc25 pm25 an25 cd25 ct25),sl25⟩)
  (c25:PySem.W.codeIn K cd25 "_law_is_node"=true)
  (k25:keepIn K (.ref f25)=true)
  (a26:PySem.W.nsIn K mainGlobals "_law_reached"=some (some (.ref f26)))
  (l26:K.lookup f26=some ⟨oc26,od26,.func (PySem.W.fnOf "_law_reached" "_law_reached" (defArgs q1e) (defBody q1e) (defScope q1e) .none kV26 dc26 pm26 an26 cd26 ct26),sl26⟩)
  (c26:PySem.W.codeIn K cd26 "_law_reached"=true)
  (k26:keepIn K (.ref f26)=true)
  (a27:PySem.W.nsIn K mainGlobals "_law_is_least"=some (some (.ref f27)))
  (l27:K.lookup f27=some ⟨oc27,od27,.func (PySem.W.fnOf "_law_is_least" "_law_is_least" (defArgs q02) (defBody q02) (defScope q02) .none kV27 dc27 pm27 an27 cd27 ct27),sl27⟩)
  (c27:PySem.W.codeIn K cd27 "_law_is_least"=true)
  (k27:keepIn K (.ref f27)=true)
  (a28:PySem.W.nsIn K mainGlobals "_law_walk"=some (some (.ref f28)))
  (l28:K.lookup f28=some ⟨oc28,od28,.func (PySem.W.fnOf "_law_walk" "_law_walk" (defArgs q14) (defBody q14) (defScope q14) .none kV28 dc28 pm28 an28 cd28 ct28),sl28⟩)
  (c28:PySem.W.codeIn K cd28 "_law_walk"=true)
  (k28:keepIn K (.ref f28)=true)
  (a29:PySem.W.nsIn K mainGlobals "_law_rows"=some (some (.ref f29)))
  (l29:K.lookup f29=some ⟨oc29,od29,.func (PySem.W.fnOf "_law_rows" "_law_rows" (defArgs q1k) (defBody q1k) (defScope q1k) .none kV29 dc29 pm29 an29 cd29 ct29),sl29⟩)
  (c29:PySem.W.codeIn K cd29 "_law_rows"=true)
  (k29:keepIn K (.ref f29)=true)
  (a30:PySem.W.nsIn K mainGlobals "_law_many"=some (some (.ref f30)))
  (l30:K.lookup f30=some ⟨oc30,od30,.func (PySem.W.fnOf "_law_many" "_law_many" (defArgs q15) (defBody q15) (defScope q15) .none kV30 dc30 pm30 an30 cd30 ct30),sl30⟩)
  (c30:PySem.W.codeIn K cd30 "_law_many"=true)
  (k30:keepIn K (.ref f30)=true)
  (a31:PySem.W.nsIn K mainGlobals "_law_cells"=some (some (.ref f31)))
  (l31:K.lookup f31=some ⟨oc31,od31,.func (PySem.W.fnOf "_law_cells" "_law_cells" (defArgs q1h) (defBody q1h) (defScope q1h) .none kV31 dc31 pm31 an31 cd31 ct31),sl31⟩)
  (c31:PySem.W.codeIn K cd31 "_law_cells"=true)
  (k31:keepIn K (.ref f31)=true)
  (a32:PySem.W.nsIn K mainGlobals "_law_word_of"=some (some (.ref f32)))
  (l32:K.lookup f32=some ⟨oc32,od32,.func (PySem.W.fnOf "_law_word_of" "_law_word_of" (defArgs q1f) (defBody q1f) (defScope q1f) .none kV32 dc32 pm32 an32 cd32 ct32),sl32⟩)
  (c32:PySem.W.codeIn K cd32 "_law_word_of"=true)
  (k32:keepIn K (.ref f32)=true)
  (a33:PySem.W.nsIn K mainGlobals "law"=some (some (.ref f33)))
  (l33:K.lookup f33=some ⟨oc33,od33,.func (PySem.W.fnOf "law" "law" (defArgs q40) (defBody q40) (defScope q40) .none kV33 dc33 pm33 an33 cd33 ct33),sl33⟩)
  (c33:PySem.W.codeIn K cd33 "law"=true)
  (k33:keepIn K (.ref f33)=true)
  (v10:cd10=.ref cc10)
  (h10:codeHdIn K cc10 PP10=true)
  (m10:(mainGlobals,markO PP10 (("joined"++".<locals>.")++"<lambda>"))∈K)
  (z_all:PySem.W.nsIn K mainGlobals "all"=some none)
  (z_bool:PySem.W.nsIn K mainGlobals "bool"=some none)
  (z_int:PySem.W.nsIn K mainGlobals "int"=some none)
  (z_isinstance:PySem.W.nsIn K mainGlobals "isinstance"=some none)
  (z_len:PySem.W.nsIn K mainGlobals "len"=some none)
  (z_list:PySem.W.nsIn K mainGlobals "list"=some none)
  (z_max:PySem.W.nsIn K mainGlobals "max"=some none)
  (z_min:PySem.W.nsIn K mainGlobals "min"=some none)
  (z_range:PySem.W.nsIn K mainGlobals "range"=some none)
  (z_tuple:PySem.W.nsIn K mainGlobals "tuple"=some none)
  (t_NoneType_int:kitOne K (.type "NoneType") (.type "int")=some false)
  (t_bool_int:kitOne K (.type "bool") (.type "int")=some true)
  (t_int_int:kitOne K (.type "int") (.type "int")=some true)
  (t_str_int:kitOne K (.type "str") (.type "int")=some false)
  (t_tuple_int:kitOne K (.type "tuple") (.type "int")=some false)
  (t_list_int:kitOne K (.type "list") (.type "int")=some false)
  (t_NoneType_bool:kitOne K (.type "NoneType") (.type "bool")=some false)
  (t_bool_bool:kitOne K (.type "bool") (.type "bool")=some true)
  (t_int_bool:kitOne K (.type "int") (.type "bool")=some false)
  (t_str_bool:kitOne K (.type "str") (.type "bool")=some false)
  (t_tuple_bool:kitOne K (.type "tuple") (.type "bool")=some false)
  (t_list_bool:kitOne K (.type "list") (.type "bool")=some false)
  (t_NoneType_tuple:kitOne K (.type "NoneType") (.type "tuple")=some false)
  (t_bool_tuple:kitOne K (.type "bool") (.type "tuple")=some false)
  (t_int_tuple:kitOne K (.type "int") (.type "tuple")=some false)
  (t_str_tuple:kitOne K (.type "str") (.type "tuple")=some false)
  (t_tuple_tuple:kitOne K (.type "tuple") (.type "tuple")=some true)
  (t_list_tuple:kitOne K (.type "list") (.type "tuple")=some false)
  (t_NoneType_list:kitOne K (.type "NoneType") (.type "list")=some false)
  (t_bool_list:kitOne K (.type "bool") (.type "list")=some false)
  (t_int_list:kitOne K (.type "int") (.type "list")=some false)
  (t_str_list:kitOne K (.type "str") (.type "list")=some false)
  (t_tuple_list:kitOne K (.type "tuple") (.type "list")=some false)
  (t_list_list:kitOne K (.type "list") (.type "list")=some true)
  (nt:NoTup K)
  (n:Nat)(hL:∀a:Adr,Exs K mg a->∀ns:List Int,ns.length<=63->run K a (n+1) q6r [.lst (ns.map .int)]=.ok (.fr (.bl true))):
  ∃fd:FuncData,(∀(s:Shared)(v:Value),BindsTo s fd ⟨[v],[]⟩ [("_law_script", v)])/\∀base:Heap,K.In base->base.Ns mainGlobals mg->BMain base mg->FnOk l.prog w K mg base (CX1 l.prog w) (n+1) fa fd ["_law_script"] (spLaw K):=by
 have e:=hfa.symm.trans (mg_of X G a33);cases e
 have A:Ats K mg:=⟨⟨⟨_,_,q0i (st:=q10) l0 c0 k0,mg_of X G a0,(q0i (st:=q10) l0 c0 k0).binds (ps:=["form"]) fun _ _ _ _ _ _=>us1 fun _=>rfl⟩⟩,
  ⟨⟨_,_,q0i (st:=q4a) l1 c1 k1,mg_of X G a1,(q0i (st:=q4a) l1 c1 k1).binds (ps:=["word", "form", "other"]) fun _ _ _ _ _ _=>us3 fun _ _ _=>rfl⟩⟩,
  ⟨⟨_,_,q0i (st:=q1p) l2 c2 k2,mg_of X G a2,(q0i (st:=q1p) l2 c2 k2).binds (ps:=["word", "truth", "form"]) fun _ _ _ _ _ _=>us3 fun _ _ _=>rfl⟩⟩,
  ⟨⟨_,_,q0i (st:=q2t) l3 c3 k3,mg_of X G a3,(q0i (st:=q2t) l3 c3 k3).binds (ps:=["begin", "ask"]) fun _ _ _ _ _ _=>us2 fun _ _=>rfl⟩⟩,
  ⟨⟨_,_,q0i (st:=q25) l4 c4 k4,mg_of X G a4,(q0i (st:=q25) l4 c4 k4).binds (ps:=["thing", "ask", "nodes", "numbers", "seen"]) fun _ _ _ _ _ _=>us5 fun _ _ _ _ _=>rfl⟩⟩,
  ⟨⟨_,_,q0i (st:=q2u) l5 c5 k5,mg_of X G a5,(q0i (st:=q2u) l5 c5 k5).binds (ps:=["node", "nodes", "numbers"]) fun _ _ _ _ _ _=>us3 fun _ _ _=>rfl⟩⟩,
  ⟨⟨_,_,q0i (st:=q22) l6 c6 k6,mg_of X G a6,(q0i (st:=q22) l6 c6 k6).binds (ps:=["graph", "number"]) fun _ _ _ _ _ _=>us2 fun _ _=>rfl⟩⟩,
  ⟨⟨_,_,q0i (st:=q3i) l7 c7 k7,mg_of X G a7,(q0i (st:=q3i) l7 c7 k7).binds (ps:=["number"]) fun _ _ _ _ _ _=>us1 fun _=>rfl⟩⟩,
  ⟨⟨_,_,q0i (st:=q26) l8 c8 k8,mg_of X G a8,(q0i (st:=q26) l8 c8 k8).binds (ps:=["graph"]) fun _ _ _ _ _ _=>us1 fun _=>rfl⟩⟩,
  ⟨⟨_,_,q0i (st:=q11) l9 c9 k9,mg_of X G a9,(q0i (st:=q11) l9 c9 k9).binds (ps:=["number"]) fun _ _ _ _ _ _=>us1 fun _=>rfl⟩⟩,
  ⟨⟨_,_,q0i (st:=q2v) l10 c10 k10,mg_of X G a10,(q0i (st:=q2v) l10 c10 k10).binds (ps:=["word", "graph", "other"]) fun _ _ _ _ _ _=>us3 fun _ _ _=>rfl⟩⟩,
  ⟨⟨_,_,q0i (st:=q01) l11 c11 k11,mg_of X G a11,(q0i (st:=q01) l11 c11 k11).binds (ps:=["word", "graph", "other", "pair"]) fun _ _ _ _ _ _=>us4 fun _ _ _ _=>rfl⟩⟩,
  ⟨⟨_,_,q0i (st:=q1q) l12 c12 k12,mg_of X G a12,(q0i (st:=q1q) l12 c12 k12).binds (ps:=["number"]) fun _ _ _ _ _ _=>us1 fun _=>rfl⟩⟩,
  ⟨⟨_,_,q0i (st:=q23) l13 c13 k13,mg_of X G a13,(q0i (st:=q23) l13 c13 k13).binds (ps:=["graph", "number", "place", "truth"]) fun _ _ _ _ _ _=>us4 fun _ _ _ _=>rfl⟩⟩,
  ⟨⟨_,_,q0i (st:=q4b) l14 c14 k14,mg_of X G a14,(q0i (st:=q4b) l14 c14 k14).binds (ps:=["form"]) fun _ _ _ _ _ _=>us1 fun _=>rfl⟩⟩,
  ⟨⟨_,_,q0i (st:=q1c) l15 c15 k15,mg_of X G a15,(q0i (st:=q1c) l15 c15 k15).binds (ps:=["_law_script", "_law_k"]) fun _ _ _ _ _ _=>us2 fun _ _=>rfl⟩⟩,
  ⟨⟨_,_,q0i (st:=q1r) l16 c16 k16,mg_of X G a16,(q0i (st:=q1r) l16 c16 k16).binds (ps:=["_law_found"]) fun _ _ _ _ _ _=>us1 fun _=>rfl⟩⟩,
  ⟨⟨_,_,q0i (st:=q1s) l17 c17 k17,mg_of X G a17,(q0i (st:=q1s) l17 c17 k17).binds (ps:=["_law_cell", "_law_k", "_law_many_here"]) fun _ _ _ _ _ _=>us3 fun _ _ _=>rfl⟩⟩,
  ⟨⟨_,_,q0i (st:=q12) l18 c18 k18,mg_of X G a18,(q0i (st:=q12) l18 c18 k18).binds (ps:=["_law_cell", "_law_many_here"]) fun _ _ _ _ _ _=>us2 fun _ _=>rfl⟩⟩,
  ⟨⟨_,_,q0i (st:=q13) l19 c19 k19,mg_of X G a19,(q0i (st:=q13) l19 c19 k19).binds (ps:=["_law_cell", "_law_many_here", "_law_tall"]) fun _ _ _ _ _ _=>us3 fun _ _ _=>rfl⟩⟩,
  ⟨⟨_,_,q0i (st:=q1d) l20 c20 k20,mg_of X G a20,(q0i (st:=q1d) l20 c20 k20).binds (ps:=["_law_cells_here", "_law_many_here"]) fun _ _ _ _ _ _=>us2 fun _ _=>rfl⟩⟩,
  ⟨⟨_,_,q0i (st:=q1t) l21 c21 k21,mg_of X G a21,(q0i (st:=q1t) l21 c21 k21).binds (ps:=["_law_form", "_law_row_here"]) fun _ _ _ _ _ _=>us2 fun _ _=>rfl⟩⟩,
  ⟨⟨_,_,q0i (st:=q17) l22 c22 k22,mg_of X G a22,(q0i (st:=q17) l22 c22 k22).binds (ps:=["_law_cell", "_law_many_here"]) fun _ _ _ _ _ _=>us2 fun _ _=>rfl⟩⟩,
  ⟨⟨_,_,q0i (st:=q1u) l23 c23 k23,mg_of X G a23,(q0i (st:=q1u) l23 c23 k23).binds (ps:=["_law_many_here"]) fun _ _ _ _ _ _=>us1 fun _=>rfl⟩⟩,
  ⟨⟨_,_,q0i (st:=q1j) l24 c24 k24,mg_of X G a24,(q0i (st:=q1j) l24 c24 k24).binds (ps:=["_law_number", "_law_many_here"]) fun _ _ _ _ _ _=>us2 fun _ _=>rfl⟩⟩,
  ⟨⟨_,_,q0i (st:=q08) l25 c25 k25,mg_of X G a25,(q0i (st:=q08) l25 c25 k25).binds (ps:=["_law_node", "_law_many_here"]) fun _ _ _ _ _ _=>us2 fun _ _=>rfl⟩⟩,
  ⟨⟨_,_,q0i (st:=q1e) l26 c26 k26,mg_of X G a26,(q0i (st:=q1e) l26 c26 k26).binds (ps:=["_law_nodes", "_law_begin"]) fun _ _ _ _ _ _=>us2 fun _ _=>rfl⟩⟩,
  ⟨⟨_,_,q0i (st:=q02) l27 c27 k27,mg_of X G a27,(q0i (st:=q02) l27 c27 k27).binds (ps:=["_law_found"]) fun _ _ _ _ _ _=>us1 fun _=>rfl⟩⟩,
  ⟨⟨_,_,q0i (st:=q14) l28 c28 k28,mg_of X G a28,(q0i (st:=q14) l28 c28 k28).binds (ps:=["_law_found", "_law_row_here"]) fun _ _ _ _ _ _=>us2 fun _ _=>rfl⟩⟩,
  ⟨⟨_,_,q0i (st:=q1k) l29 c29 k29,mg_of X G a29,(q0i (st:=q1k) l29 c29 k29).binds (ps:=["_law_cell", "_law_many_here"]) fun _ _ _ _ _ _=>us2 fun _ _=>rfl⟩⟩,
  ⟨⟨_,_,q0i (st:=q15) l30 c30 k30,mg_of X G a30,(q0i (st:=q15) l30 c30 k30).binds (ps:=["_law_cell"]) fun _ _ _ _ _ _=>us1 fun _=>rfl⟩⟩,
  ⟨⟨_,_,q0i (st:=q1h) l31 c31 k31,mg_of X G a31,(q0i (st:=q1h) l31 c31 k31).binds (ps:=["_law_cells_here"]) fun _ _ _ _ _ _=>us1 fun _=>rfl⟩⟩,
  ⟨⟨_,_,q0i (st:=q1f) l32 c32 k32,mg_of X G a32,(q0i (st:=q1f) l32 c32 k32).binds (ps:=["_law_word", "_law_one", "_law_other"]) fun _ _ _ _ _ _=>us3 fun _ _ _=>rfl⟩⟩,
  ⟨⟨_,_,q0i (st:=q40) l33 c33 k33,mg_of X G a33,(q0i (st:=q40) l33 c33 k33).binds (ps:=["_law_script"]) fun _ _ _ _ _ _=>us1 fun _=>rfl⟩⟩⟩
 have B:Blt mg:=⟨mg_none_of X G z_all,mg_none_of X G z_bool,mg_none_of X G z_int,mg_none_of X G z_isinstance,mg_none_of X G z_len,mg_none_of X G z_list,mg_none_of X G z_max,mg_none_of X G z_min,mg_none_of X G z_range,mg_none_of X G z_tuple⟩;have M:Exs K mg ⟨()⟩:=⟨trivial,t_NoneType_int,t_bool_int,t_int_int,t_str_int,t_tuple_int,t_list_int,t_NoneType_bool,t_bool_bool,t_int_bool,t_str_bool,t_tuple_bool,t_list_bool,t_NoneType_tuple,t_bool_tuple,t_int_tuple,t_str_tuple,t_tuple_tuple,t_list_tuple,t_NoneType_list,t_bool_list,t_int_list,t_str_list,t_tuple_list,t_list_list,nt⟩
 have MK:Mks K mg:=⟨fun f oc od fd sl e1 e2=>by
  have z:=(mg_of X G a10).symm.trans e1;cases z;rw[l10]at e2;cases e2;exact⟨cc10,PP10,_,v10,h10,m10⟩⟩
 exact⟨_,fun s v=>.of_eq rfl,fun base _ _ BM=>(law_fn A B M BM MK (q0i (st:=q40) l33 c33 k33) n).imp fun vs H Q E q=>y1z (hL _ M) q⟩
local macro_rules | `(tactic| walk_at "den") => do
 let l:=(("y7m x68 x8i x6b y3a y3b y7n z05 z06 y7o y3c y3d y7d z01 y7e y7f y7g z02 y7h y7i z03 y7j y7k y7l z04 y65 y25 x67 z3b y0e y2r y2p y6o y0b y2m y11 y6f y6g y6h y6i y2i x96 x97 x77 x78 x79 x58 y2g x95 y2h y6d y6e x93 z0i x75 y2e y2f y86 y87 y88 y89 y9a y9b y9c y5e y5a y5b y5c y10 y83 y84 y85 y5d z1t z1u z1v z1w y9d x7z x70 x9t y9e y9f y5h dC_s z1x y5i y5j y9g y9h z1y y9i y5k y9j y5l y9k z1z y9l y5m y9m y9n z14 z15 y5n z16 y9o y5o y5p y5q y9p y9q y9r y5r y5s y5t y14 y5u y5v y15 x9u y16 x9v y9s y5w x9w q9a y5x y5y y5z y50 y51 y17 y9t x9x z17 y9x y9y y9z y52 y90 z19 z2a y91 y53 z2b x9y y54 y18 y92 y93 y56 y57 y19 x71 x72 y94 y2a x9z y59 y2b y96 y97 y98 y99 z0a y6a z0b z2c z2d z2e z2f z2g z2h z2i z2j z2k z2l z2m z2n z2o z2p z2q z2r z2s ix_t ix_l z2t z2u z2v z2w z2x z2y z2z z20 z21 z22 z23 z24 z25 sc_i sc_b sc_s sc_n sl_l at0 at1 at2 z0d rng1 rng2 init Option.map_some Option.bind_some List.map_cons List.map_nil List.length_cons List.length_nil List.replicate_succ List.replicate_zero List.cons_append List.nil_append List.getElem?_cons_zero List.getElem?_cons_succ List.set_cons_zero List.set_cons_succ if_true if_false decide_eq_true_eq reduceIte Bool.false_eq_true ite_true ite_false Nat.reduceSub Nat.reduceAdd Nat.reduceLeDiff Nat.zero_add Nat.le_refl Int.reduceLT Int.reduceLE Int.reduceNeg true_and and_true true_or or_true false_and and_false false_or or_false not_true_eq_false not_false_eq_true decide_true decide_false Bool.not_true Bool.not_false String.reduceEq Nat.reduceEqDiff y2c z26 z27 Int.reduceToNat Int.reducePow Nat.reduceLT cast0 cast1 Int.reduceEq Int.reduceMod Int.reduceDiv Int.reduceAdd Int.reduceSub Int.reduceMul y13 y2u y6q z0o y6r y6s y2v y2w y2x y2y y0f y6u x8e y0g y6v y2z z0p y6w z0q y20 y21 y22 y0h y6x y23 y6y y6z y60 y61 z0r y5f y5g y9u y9v y9w z18 y12".splitOn " ").map fun s=>Lean.mkIdent s.toName).toArray
 `(tactic| try simp only [$[$l:ident],*])
noncomputable def someAt(j:Int):Int:=if j=0 then 99991 else if j=1 then 99989 else if j=2 then 99971 else if j=3 then 99961 else if j=4 then 99929 else if j=5 then 99923 else if j=6 then 99907 else if j=7 then 99901 else if j=8 then 99881 else if j=9 then 99877 else 99871
noncomputable def made(c k:Int):Int:=(c+7*k)*48271%someAt (k%11)
noncomputable def mixed(c k m:Int):Int:=(made c k*made c k*7+made c k+k)%1000003%m
theorem x1n(j:Int):0<someAt j/\someAt j<=99991:=by
 unfold someAt
 repeat (split;· omega)
 omega
theorem y7r(c k:Int):0<=made c k/\made c k<99991:=by
 have h:=x1n (k%11);have h1:=w3m ((c+7*k)*48271) (show someAt (k%11)≠0 by omega);have h2:=w2z ((c+7*k)*48271) h.1;unfold made;omega
theorem x0k{c k m:Int}(h:0<m):0<=mixed c k m/\mixed c k m<m:=⟨w3m _ (by omega),w2z _ h⟩
theorem y7s(h0:0<=j)(h1:j<11):atI [W.int 99991,.int 99989,.int 99971,.int 99961,.int 99929,.int 99923,.int 99907,.int 99901,.int 99881,.int 99877,.int 99871] j=some (.int (someAt j)):=by
 have:j=0\/j=1\/j=2\/j=3\/j=4\/j=5\/j=6\/j=7\/j=8\/j=9\/j=10:=by omega
 rcases this with h|h|h|h|h|h|h|h|h|h|h<;>(subst h;rfl)
theorem q8x(n:Nat)(c k:Int){m:Int}(hm:0<m):run K a (n+1) q16 [.int c,.int k,.int m]=.ok (.fr (.int (mixed c k m))):=by
 rw[q68];unfold q4h;walk_at "den";rw[y7s (w3m _ (by decide)) (w2z _ (by decide))];walk_at "den";rw[if_pos (x1n _).1];have b:=y7r c k;have e:(c+7*k)*48271%someAt (k%11)=made c k:=rfl;walk_at "den";rw[e,if_pos (by omega),if_pos hm];rfl
theorem x0l(n:Nat)(ns:List Int){k:Int}(hk:0<=k):run K a (n+1) q04 [.lst (ns.map .int),.int k]=.ok (.fr (.int (ns.getD k.toNat 0))):=by
 rw[q6h];unfold q3m;walk_at "den"
 by_cases h:k<ns.length
 ·rw[if_pos (by simpa using h),z0c hk]
  have e:(ns.map W.int)[k.toNat]?=some (.int (ns.getD k.toNat 0)):=by
   have:k.toNat<ns.length:=by omega
   simp[List.getD,this]
  rw[e];walk_at "den"
 ·rw[if_neg (by simpa using h)]
  have:ns.getD k.toNat 0=0:=by
   have:¬k.toNat<ns.length:=by omega
   simp[List.getD,this]
  rw[this]
set_option genInjectivity true in
inductive Fm where
 |is (b:Bool)|at (p:Nat)|not (f:Fm)|and (f g:Fm)|or (f g:Fm)|odd (f g:Fm)
noncomputable def enc:Fm->W
 |.is b=>.tup [.str "is", .bl b]
 |.at p=>.tup [.str "at", .int p]
 |.not f=>.tup [.str "not", enc f]
 |.and f g=>.tup [.str "and", enc f,enc g]
 |.or f g=>.tup [.str "or", enc f,enc g]
 |.odd f g=>.tup [.str "odd", enc f,enc g]
noncomputable def Fm.depth:Fm->Nat
 |.is _=>1
 |.at _=>1
 |.not f=>f.depth+1
 |.and f g=>max f.depth g.depth+1
 |.or f g=>max f.depth g.depth+1
 |.odd f g=>max f.depth g.depth+1
def Fm.inb(m:Nat):Fm->Prop
 |.is _=>True
 |.at p=>p<m
 |.not f=>f.inb m
 |.and f g=>f.inb m/\g.inb m
 |.or f g=>f.inb m/\g.inb m
 |.odd f g=>f.inb m/\g.inb m
noncomputable def Fm.val(row:List Bool):Fm->Bool
 |.is b=>b
 |.at p=>row.getD p false
 |.not f=>!f.val row
 |.and f g=>f.val row&&g.val row
 |.or f g=>f.val row||g.val row
 |.odd f g=>f.val row != g.val row
theorem Fm.depth_pos:∀f:Fm,1<=f.depth
 |.is _=>w0g _
 |.at _=>w0g _
 |.not f=>by simp only[Fm.depth];omega
 |.and f g=>by simp only[Fm.depth];omega
 |.or f g=>by simp only[Fm.depth];omega
 |.odd f g=>by simp only[Fm.depth];omega
theorem y0y(h:p<row.length):atI (row.map W.bl) (p:Int)=some (.bl (row.getD p false)):=by
 refine q44 ?_;simp[List.getD,h]
theorem y0z{c d e:Bool}:eq2 (.lst [.bl b,.bl c]) (.lst [.bl d,.bl e])=some (.bl (b==d&&c==e)):=by
 show some (W.bl (b==d&&(c==e&&true)))=_;rw[w3d]
theorem y00{c d e:Bool}:ne2 (.lst [.bl b,.bl c]) (.lst [.bl d,.bl e])=some (.bl (!(b==d&&c==e))):=by
 show some (W.bl (!(b==d&&(c==e&&true))))=_;rw[w3d]
theorem q3d:∀(f:Fm)(n:Nat){row:List Bool},f.depth<=n->f.inb row.length->run K a n q1g [enc f,.tup (row.map .bl)]=.ok (.fr (.bl (f.val row)))
 |.is b,n,row,hd,hb=>by
  obtain⟨n,rfl⟩:∃k,n=k+1:=⟨n-1,by simp only[Fm.depth]at hd;omega⟩;rw[q2h];unfold q1v;simp only[enc];walk_at "den";rfl
 |.at p,n,row,hd,hb=>by
  obtain⟨n,rfl⟩:∃k,n=k+1:=⟨n-1,by simp only[Fm.depth]at hd;omega⟩;rw[q2h];unfold q1v;simp only[enc];walk_at "den";rw[y0y hb];walk_at "den";rfl
 |.not f,n,row,hd,hb=>by
  obtain⟨n,rfl⟩:∃k,n=k+1:=⟨n-1,by simp only[Fm.depth]at hd;omega⟩;rw[q2h];unfold q1v;simp only[enc];walk_at "den";rw[q3d f n (by simp only[Fm.depth]at hd;omega) hb];walk_at "den";simp only[Fm.val];cases f.val row<;>simp
 |.and f g,n,row,hd,hb=>by
  obtain⟨n,rfl⟩:∃k,n=k+1:=⟨n-1,by simp only[Fm.depth]at hd;omega⟩;rw[q2h];unfold q1v;simp only[enc];walk_at "den";rw[q3d f n (by simp only[Fm.depth]at hd;omega) hb.1];walk_at "den";rw[q3d g n (by simp only[Fm.depth]at hd;omega) hb.2];walk_at "den";rw[y0z];walk_at "den";simp only[Fm.val];cases f.val row<;>cases g.val row<;>rfl
 |.or f g,n,row,hd,hb=>by
  obtain⟨n,rfl⟩:∃k,n=k+1:=⟨n-1,by simp only[Fm.depth]at hd;omega⟩;rw[q2h];unfold q1v;simp only[enc];walk_at "den";rw[q3d f n (by simp only[Fm.depth]at hd;omega) hb.1];walk_at "den";rw[q3d g n (by simp only[Fm.depth]at hd;omega) hb.2];walk_at "den";rw[y00];walk_at "den";simp only[Fm.val];cases f.val row<;>cases g.val row<;>rfl
 |.odd f g,n,row,hd,hb=>by
  obtain⟨n,rfl⟩:∃k,n=k+1:=⟨n-1,by simp only[Fm.depth]at hd;omega⟩;rw[q2h];unfold q1v;simp only[enc];walk_at "den";rw[q3d f n (by simp only[Fm.depth]at hd;omega) hb.1];walk_at "den";rw[q3d g n (by simp only[Fm.depth]at hd;omega) hb.2];walk_at "den";simp only[Fm.val];cases f.val row<;>cases g.val row<;>rfl
noncomputable def leafF(c:Int)(m:Nat):Fm:=if m=0\/c%9=8 then .is (decide (c / 9%2=1))else .at (mixed (c / 8) 1 m).toNat
theorem x0m(c:Int)(m:Nat):(leafF c m).inb m:=by
 unfold leafF;split
 ·trivial
 ·rename_i h;have:=x0k (c:=c / 8) (k:=1) (m:=m) (by omega);show(mixed (c / 8) 1 m).toNat<m;omega
theorem q7t(c:Int)(m:Nat):(leafF c m).depth=1:=by
 unfold leafF;split<;>rfl
theorem q5j(n:Nat)(c:Int)(m:Nat):run K a (n+2) q1z [.int c,.int m]=.ok (.fr (enc (leafF c m))):=by
 rw[q7z];unfold q4u;walk_at "den";unfold leafF
 by_cases h:m=0
 ·subst h;simp[enc]
 ·rw[if_neg (by omega)]
  by_cases h9:c%9=8
  ·rw[if_pos h9,if_pos (.inr h9)];rfl
  ·rw[if_neg h9,if_neg (by omega),q8x n _ _ (by omega)];walk_at "den";have:=x0k (c:=c / 8) (k:=1) (m:=m) (by omega);simp only[enc];congr 4;simp;omega
theorem q7h{i:Nat}{b:List S->SR}(I:Nat->List S->Prop):∀(ws:List W)(k:Nat)(e:List S),I k e->(∀(j:Nat)(w:W)(e:List S),w∈ws->I j e->∃e',b (e.set i (.fr w))=.nx e'/\I (j+1) e')->∃e',forD i b ws e=.nx e'/\I (k+ws.length) e'
 |[],k,e,h0,_=>⟨e,rfl,h0⟩
 |w::ws,k,e,h0,h=>by
  obtain⟨e1,h1,h2⟩:=h k w e (by simp) h0;obtain⟨e2,h3,h4⟩:=q7h I ws (k+1) e1 h2 fun j u e hu=>h j u e (by simp[hu])
  refine⟨e2,?_,?_⟩
  ·rw[q97,h1,q9a,h3]
  ·rw[w0q];have:k+1+ws.length=k+(ws.length+1):=by omega
   rw[<- this];exact h4
theorem mem_range{w:W}{lo hi:Int}(h:w∈rangeW lo hi):∃k:Nat,w=.int (lo+k)/\(k:Int)<hi-lo:=by
 unfold rangeW at h;obtain⟨k,h1,rfl⟩:=w1x.mp h;rw[w1i]at h1;exact⟨k,rfl,by omega⟩
theorem len_range{lo hi:Int}:(rangeW lo hi).length=(hi-lo).toNat:=by simp[rangeW]
theorem orodd(h:j=0\/j=1):atI [W.str "or", W.str "odd"] j=some (.str (if j=0 then "or" else "odd")):=by
 rcases h with rfl|rfl<;>rfl
theorem y3k(n:Nat)(c:Int)(m:Nat)(t:Int)(h0:0<=t)(ht:t<1000):∃f:Fm,run K a (n+3) q3h [.int c,.int m,.int t]=.ok (.fr (enc f))/\f.inb m/\f.depth<=t.toNat+1:=by
 rw[q70];unfold q4v;walk_at "den";rw[q5j n c m];walk_at "den";rw[if_pos (q8e (by omega) (by omega))];walk_at "den"
 have step:∀(j:Nat)(w:W)(e:List S),w∈rangeW 0 t->(∃(f:Fm)(z1 z2:S),e=[.fr (.int c),.fr (.int m),.fr (.int t),.fr (enc f),z1,z2]/\f.inb m/\f.depth<=j+1)->∃e',q5u K a (run K a (n+2)) (e.set 4 (.fr w))=.nx e'/\∃(f:Fm)(z1 z2:S),e'=[.fr (.int c),.fr (.int m),.fr (.int t),.fr (enc f),z1,z2]/\f.inb m/\f.depth<=(j+1)+1:=by
  rintro j w e hw ⟨f,z1,z2,rfl,h2,h3⟩;obtain⟨k,rfl,hk⟩:=mem_range hw;have mb:=x0k (c:=c) (k:=0+(k:Int)) (m:=5) (by decide);have lb:=x0m (c+8*(0+(k:Int))) m;have ld:=q7t (c+8*(0+(k:Int))) m;unfold q5u;walk_at "den";rw[q8x (n+1) _ _ (by decide)];walk_at "den"
  by_cases c1:mixed c (0+↑k) 5<2
  ·rw[if_pos c1];exact⟨_,rfl,.not f,_,_,rfl,h2,by simp only[Fm.depth];omega⟩
  ·rw[if_neg c1]
   by_cases c2:c%4=1
   ·rw[if_pos c2];exact⟨_,rfl,.not f,_,_,rfl,h2,by simp only[Fm.depth];omega⟩
   ·rw[if_neg c2]
    by_cases c3:mixed c (0+↑k) 5=2
    ·rw[if_pos c3,q5j n _ m];walk_at "den";exact⟨_,rfl,.and f _,_,_,rfl,⟨h2,lb⟩,by simp only[Fm.depth];omega⟩
    ·rw[if_neg c3,orodd (by omega)];walk_at "den";rw[q5j n _ m];walk_at "den"
     by_cases c4:mixed c (0+↑k) 5-3=0
     ·rw[if_pos c4];exact⟨_,rfl,.or _ f,_,_,rfl,⟨lb,h2⟩,by simp only[Fm.depth];omega⟩
     ·rw[if_neg c4];exact⟨_,rfl,.odd _ f,_,_,rfl,⟨lb,h2⟩,by simp only[Fm.depth];omega⟩
 obtain⟨e',h1,f,z1,z2,h2,h3,h4⟩:=q7h (i:=4) (fun k e=>∃(f:Fm)(z1 z2:S),e=[.fr (.int c),.fr (.int m),.fr (.int t),.fr (enc f),z1,z2]/\f.inb m/\f.depth<=k+1) (rangeW 0 t) 0 [.fr (.int c),.fr (.int m),.fr (.int t),.fr (enc (leafF c m)),.no,.no] ⟨_,_,_,rfl,x0m c m,by rw[q7t];omega⟩ step
 rw[h1,h2];walk_at "den";refine⟨f,rfl,h3,?_⟩;rw[len_range]at h4;omega
def Ok(m:Nat)(st:List Fm)(k:Nat):Prop:=(∀f∈st,f.inb m)/\(st.map Fm.depth).sum<=k
theorem Ok.len:∀{st:List Fm}{k:Nat},Ok m st k->st.length<=k
 |[],k,_=>by simp
 |f::st,k,h=>by
  have h2:Ok m st (k-f.depth):=⟨fun g hg=>h.1 g (by simp[hg]),by have:=h.2;simp at this;omega⟩
  have:=h2.len;have:=f.depth_pos;have:=h.2;simp at this |-
  omega
theorem Ok.push{st : List Fm}{k : Nat}{f : Fm}(h : Ok m st k)(hf : f.inb m){k' : Nat}(hk : k + f.depth <= k') : Ok m (st ++ [f]) k' :=
  ⟨fun g hg => by rcases w1k.mp hg with z | z
                  . exact h.1 g z
                  . rw [w0m.mp z]; exact hf, by have := h.2; simp; omega⟩
theorem Ok.pop{st:List Fm}{k:Nat}{f:Fm}(h:Ok m (st++[f]) k):f.inb m/\f.depth<=k/\Ok m st (k-f.depth):=
 ⟨h.1 f (by simp),by have:=h.2;simp at this;omega,fun g hg=>h.1 g (by simp[hg]),by have:=h.2;simp at this;omega⟩
theorem q3r(st:List Fm):(st.map enc).length=st.length:=w0d ..
theorem words3{j:Int}(h:j=0\/j=1\/j=2):atI [W.str "and", W.str "or", W.str "odd"] j=some (.str (if j=0 then "and" else if j=1 then "or" else "odd")):=by
 rcases h with rfl|rfl|rfl<;>rfl
noncomputable def bin3(j:Int)(f g:Fm):Fm:=if j=0 then .and f g else if j=1 then .or f g else .odd f g
theorem x5r(f g:Fm):(W.tup [.str (if j=0 then "and" else if j=1 then "or" else "odd"),enc f,enc g])=enc (bin3 j f g):=by
 unfold bin3;split
 ·rfl
 ·split<;>rfl
theorem x5s{f g:Fm}(h1:f.inb m)(h2:g.inb m):(bin3 j f g).inb m:=by
 unfold bin3;split
 ·exact⟨h1,h2⟩
 ·split<;>exact⟨h1,h2⟩
theorem x1o(f g:Fm):(bin3 j f g).depth=max f.depth g.depth+1:=by
 unfold bin3;split
 ·rfl
 ·split<;>rfl
theorem q7i{l:List α}(h:0<l.length):∃s x,l=s++[x]:=by
 rcases List.eq_nil_or_concat l with rfl|⟨s,x,rfl⟩
 ·simp at h
 ·exact⟨s,x,by simp⟩
theorem x8o(n:Nat)(cs:W)(m:Nat)(j:Nat)(c:Int)(e:List S)(hj:j<1000)(h:∃(st:List Fm)(z1 z2 z3:S),e=[.fr cs,.fr (.int m),.own none (st.map enc),z1,z2,z3]/\Ok m st j):
  ∃e',q28 K a (run K a (n+2)) (e.set 3 (.fr (.int c)))=.nx e'/\∃(st:List Fm)(z1 z2 z3:S),e'=[.fr cs,.fr (.int m),.own none (st.map enc),z1,z2,z3]/\Ok m st (j+1):=by
 obtain⟨st,z1,z2,z3,rfl,ok⟩:=h;have hl:=ok.len;unfold q28;walk_at "den"
 have pushed:∀(z2 z3:S),∃e',(if(st.map enc).length<16777216 then SR.nx [.fr cs,.fr (.int m),.own none (st.map enc++[enc (leafF c m)]),.fr (.int c),z2,z3]else SR.no)=.nx e'/\∃(st:List Fm)(z1 z2 z3:S),e'=[.fr cs,.fr (.int m),.own none (st.map enc),z1,z2,z3]/\Ok m st (j+1):=fun z2 z3=>by
  rw[if_pos (by rw[q3r];omega)];exact⟨_,rfl,st++[leafF c m],_,_,_,by rw[w0n];rfl,ok.push (x0m c m) (by rw[q7t];omega)⟩
 by_cases c4:c%8=4
 ·rw[if_pos c4]
  by_cases hp:0<st.length
  ·obtain⟨s,f,rfl⟩:=q7i hp;rw[if_pos (by rw[q3r];omega),w0n];walk_at "den";obtain⟨p1,p2,p3⟩:=ok.pop;rw[if_pos (by rw[w0h,w2e]at hl;rw[q3r];omega)];exact⟨_,rfl,s++[.not f],_,_,_,by rw[w0n];rfl,p3.push (f:=.not f) p1 (by simp only[Fm.depth];omega)⟩
  ·rw[if_neg (by rw[q3r];omega),if_neg (by omega),q5j n c m];walk_at "den";exact pushed _ _
 ·rw[if_neg c4]
  by_cases c5:4<c%8
  ·rw[if_pos c5]
   by_cases hp:1<st.length
   ·obtain⟨s,g,rfl⟩:=q7i (show 0<st.length by omega);obtain⟨s,f,rfl⟩:=q7i (l:=s) (by simp at hp;omega);rw[if_pos (by rw[q3r];omega),w0n];walk_at "den";rw[words3 (by omega),w0n];walk_at "den";obtain⟨p1,p2,p3⟩:=ok.pop;obtain⟨p4,p5,p6⟩:=p3.pop;rw[if_pos (by rw[w0h,w0h,w2e]at hl;rw[q3r];omega),x5r];exact⟨_,rfl,s++[bin3 (c%8-5) f g],_,_,_,by rw[w0n];rfl,p6.push (x5s p4 p1) (by rw[x1o];have:=f.depth_pos;have:=g.depth_pos;omega)⟩
   ·rw[if_neg (by rw[q3r];omega),q5j n c m];walk_at "den";exact pushed _ _
  ·rw[if_neg c5,q5j n c m];walk_at "den";exact pushed _ _
theorem x5t{i:Nat}{b:List S->SR}(B:Nat)(I:Nat->List S->Prop):∀(ws:List W)(k:Nat)(e:List S),I k e->k+ws.length<=B->(∀(j:Nat)(w:W)(e:List S),j<B->w∈ws->I j e->∃e',b (e.set i (.fr w))=.nx e'/\I (j+1) e')->∃e',forD i b ws e=.nx e'/\I (k+ws.length) e'
 |[],k,e,h0,_,_=>⟨e,rfl,h0⟩
 |w::ws,k,e,h0,hB,h=>by
  rw[w0q]at hB;obtain⟨e1,h1,h2⟩:=h k w e (by omega) (by simp) h0;obtain⟨e2,h3,h4⟩:=x5t B I ws (k+1) e1 h2 (by omega) fun j u e hj hu=>h j u e hj (by simp[hu])
  refine⟨e2,?_,?_⟩
  ·rw[q97,h1,q9a,h3]
  ·rw[w0q];have:k+1+ws.length=k+(ws.length+1):=by omega
   rw[<- this];exact h4
theorem x5u(n:Nat)(cs:W)(m:Nat):∀(k:Nat)(st:List Fm)(q:Nat)(fuel:Nat)(z1 z2 z3:S),st.length=k+1->k<fuel->Ok m st q->q<1000 ->
  ∃(f:Fm)(y1 y2 y3:S),whileD (q27 K a (run K a n)) (q33 K a (run K a n)) fuel [.fr cs,.fr (.int m),.own none (st.map enc),z1,z2,z3]=.nx [.fr cs,.fr (.int m),.own none [enc f],y1,y2,y3]/\f.inb m/\f.depth<=q
 |0,st,q,fuel,z1,z2,z3,hl,hf,ok,hq=>by
  obtain⟨fuel,rfl⟩:∃k,fuel=k+1:=⟨fuel-1,by omega⟩;obtain⟨f,rfl⟩:=List.length_eq_one_iff.mp hl;rw[x6y];unfold q27;walk_at "den";refine⟨f,z1,z2,z3,?_,ok.1 f (by simp),by have:=ok.2;simpa using this⟩;rfl
 |k+1,st,q,fuel,z1,z2,z3,hl,hf,ok,hq=>by
  obtain⟨fuel,rfl⟩:∃k,fuel=k+1:=⟨fuel-1,by omega⟩;obtain⟨s,g,rfl⟩:=q7i (show 0<st.length by omega);obtain⟨s,f,rfl⟩:=q7i (l:=s) (by simp at hl;omega);have hlen:=ok.len;simp only[w0h,w0q,w1g]at hl hlen;rw[x6y];unfold q27;walk_at "den";rw[if_pos (by rw[q3r];simp;omega)];unfold q33;rw[w0n,w0n];walk_at "den";rw[words3 (j:=(((s.map enc++[enc f]).length:Int))%3) (by omega)];walk_at "den";obtain⟨p1,p2,p3⟩:=ok.pop;obtain⟨p4,p5,p6⟩:=p3.pop;rw[if_pos (by rw[q3r];omega),x5r];walk_at "den";have e1:s.map enc++[enc (bin3 (((s.map enc++[enc f]).length:Int)%3) f g)]=(s++[bin3 (((s.map enc++[enc f]).length:Int)%3) f g]).map enc:=by rw[w0n];rfl
  rw[e1];exact x5u n cs m k _ q fuel _ _ _ (by simp;omega) (by omega) (p6.push (x5s p4 p1) (by rw[x1o];have:=f.depth_pos;have:=g.depth_pos;omega)) hq
theorem x5v(n:Nat)(ns:List Int)(m:Nat)(hl:ns.length<=900):∃f:Fm,run K a (n+4) q1b [.lst (ns.map .int),.int m]=.ok (.fr (enc f))/\f.inb m/\f.depth<=max 59 ns.length:=by
 rw[q6i];unfold q3n;walk_at "den"
 have rest:∃f:Fm,(((forD 3 (q28 K a (run K a (n+3))) (ns.map W.int) [.fr (.lst (ns.map .int)),.fr (.int m),.own none [],.no,.no,.no]).seq
   (dSeq (dIfS (dTest (dOp eq2 (dFnV 2 len1) (dC (.int 0)))) (dRet (dTup (dCons (dC (.str "is")) (dCons (dC (.bl false)) dNil)))) dNx)
    (dSeq (whileD (q27 K a (run K a (n+3))) (q33 K a (run K a (n+3))) 1000000) (dRet (dIxV 2 (dC (.int 0))))))).fn)=.ok (.fr (enc f))/\f.inb m/\f.depth<=max 59 ns.length:=by
  have step:∀(j:Nat)(w:W)(e:List S),w∈ns.map W.int->(j<1000->∃(st:List Fm)(z1 z2 z3:S),e=[.fr (.lst (ns.map .int)),.fr (.int m),.own none (st.map enc),z1,z2,z3]/\Ok m st j)->j<1000->∃e',q28 K a (run K a (n+3)) (e.set 3 (.fr w))=.nx e'/\∃(st:List Fm)(z1 z2 z3:S),e'=[.fr (.lst (ns.map .int)),.fr (.int m),.own none (st.map enc),z1,z2,z3]/\Ok m st (j+1):=by
   intro j w e hw h hj;obtain⟨c,_,rfl⟩:=w1x.mp hw;exact x8o (n+1) _ m j c e hj (h hj)
  obtain⟨e',h1,st,z1,z2,z3,rfl,ok⟩:=x5t (i:=3) 1000 (fun k e=>∃(st:List Fm)(z1 z2 z3:S),e=[.fr (.lst (ns.map .int)),.fr (.int m),.own none (st.map enc),z1,z2,z3]/\Ok m st k) (ns.map W.int) 0 [.fr (.lst (ns.map .int)),.fr (.int m),.own none [],.no,.no,.no] ⟨[],_,_,_,rfl,(fun f hf=>nomatch hf),w0g _⟩ (by simp;omega) (fun j w e hj hw h=>step j w e hw (fun _=>h) hj)
  rw[h1];rw[w0d,w4a]at ok;walk_at "den"
  by_cases h0:st.length=0
  ·rw[if_pos (by rw[q3r];omega)];exact⟨.is false,rfl,trivial,by show 1<=_;omega⟩
  ·rw[if_neg (by rw[q3r];omega)];obtain⟨f,y1,y2,y3,h2,h3,h4⟩:=x5u (K:=K) (a:=a) (n+3) (.lst (ns.map .int)) m (st.length-1) st ns.length 1000000 z1 z2 z3 (by omega) (by have:=ok.len;omega) ok (by omega);rw[h2];walk_at "den";exact⟨f,rfl,h3,by omega⟩
 cases ns with
 |nil=>exact rest
 |cons c cs=>
  walk_at "den";rw[if_pos (by simp)]
  by_cases h5:c%16=5
  ·rw[if_pos h5];obtain⟨f,h1,h2,h3⟩:=y3k (K:=K) (a:=a) n (c / 16) m (4+c / 16%55) (by omega) (by omega);rw[h1];walk_at "den";exact⟨f,rfl,h2,by omega⟩
  ·rw[if_neg h5];exact rest
inductive O3 where
 |a|o|d
noncomputable def wd:O3->Str
 |.a=>"and"
 |.o=>"or"
 |.d=>"odd"
noncomputable def mk3:O3->Fm->Fm->Fm
 |.a=>.and
 |.o=>.or
 |.d=>.odd
noncomputable def Fm.eNot:Fm->Fm
 |.is b=>.is (!b)
 |f=>.not f
noncomputable def withT:O3->Bool->Fm->Fm
 |.a,true,f=>f
 |.a,false,_=>.is false
 |.o,true,_=>.is true
 |.o,false,f=>f
 |.d,true,f=>f.eNot
 |.d,false,f=>f
noncomputable def Fm.ease(o:O3)(f g:Fm):Fm:=match f with
 |.is b=>withT o b g
 |f=>match g with
  |.is b=>withT o b f
  |g=>mk3 o f g
theorem y3l(n:Nat)(f:Fm):run K a (n+1) q3f [enc f]=.ok (.fr (enc f.eNot)):=by
 rw[q7x];unfold q4s;cases f<;>simp only[enc,Fm.eNot]<;>walk_at "den"
theorem x5w(n:Nat)(o:O3)(b:Bool)(f:Fm):run K a (n+2) q2l [.str (wd o),.bl b,enc f]=.ok (.fr (enc (withT o b f))):=by
 rw[q65];unfold q4e;have h:=y3l (K:=K) (a:=a) n f;cases o<;>cases b<;>simp only[wd,withT]<;>walk_at "den"<;>first|rfl|(rw[h];walk_at "den")
noncomputable def Fm.hd:Fm->Str
 |.is _=>"is"
 |.at _=>"at"
 |.not _=>"not"
 |.and _ _=>"and"
 |.or _ _=>"or"
 |.odd _ _=>"odd"
theorem x2e(f:Fm):ixW (enc f) (.int 0)=some (.str f.hd):=by cases f<;>rfl
theorem x1p(f:Fm):f.hd="is"↔∃b,f=.is b:=by
 cases f with
 |is b=>exact⟨fun _=>⟨b,rfl⟩,fun _=>rfl⟩
 |_=>exact⟨fun h=>absurd h (by simp only[Fm.hd];decide),fun⟨b,h⟩=>by cases h⟩
theorem x2f{o:O3}{g:Fm}:Fm.ease o (.is b) g=withT o b g:=rfl
theorem x5x{o:O3}{f:Fm}(hf:¬∃b,f=.is b):Fm.ease o f (.is b)=withT o b f:=by
 cases f with
 |is b=>exact absurd ⟨b,rfl⟩ hf
 |_=>rfl
theorem x7c{o:O3}{f g:Fm}(hf:¬∃b,f=.is b)(hg:¬∃b,g=.is b):Fm.ease o f g=mk3 o f g:=by
 cases f with
 |is b=>exact absurd ⟨b,rfl⟩ hf
 |_=>cases g with
  |is b=>exact absurd ⟨b,rfl⟩ hg
  |_=>rfl
theorem y7t{o:O3}{f g:Fm}:enc (mk3 o f g)=.tup [.str (wd o),enc f,enc g]:=by cases o<;>rfl
theorem x5y(n:Nat)(o:O3)(f g:Fm):run K a (n+3) q5g [.str (wd o),enc f,enc g]=.ok (.fr (enc (f.ease o g))):=by
 rw[x24];unfold q63;walk_at "den";rw[x2e];walk_at "den"
 by_cases hf:∃b,f=.is b
 ·obtain⟨b,rfl⟩:=hf;rw[if_pos ((x1p (.is b)).mpr ⟨b,rfl⟩),x2f];simp only[enc];walk_at "den";rw[x5w n o b g];walk_at "den"
 ·rw[if_neg (by rw[x1p];exact hf),x2e];walk_at "den"
  by_cases hg:∃b,g=.is b
  ·obtain⟨b,rfl⟩:=hg;rw[if_pos ((x1p (.is b)).mpr ⟨b,rfl⟩),x5x hf];simp only[enc];walk_at "den";rw[x5w n o b f];walk_at "den"
  ·rw[if_neg (by rw[x1p];exact hg),x7c hf hg,y7t]
theorem x27(M:Exs K mg a)(n:Nat)(i:Int):run K a (n+1) q2o [.int i]=.ok (.fr (.bl true)):=by
 rw[q67];unfold q4g;walk_at "den";rw[x6z M.t_int_int];walk_at "den";rw[x6z M.t_int_bool];walk_at "den"
theorem x7d{cc:Den Bool}{d:Den W}{pe:List S}{α:Type}{q:α->Bool}{g:α->W}{en:α->W}:∀(xs:List α),(∀x∈xs,∃e1,cc (.fr (en x)::pe)=.ok (q x) e1/\(q x=true->∃e2,d e1=.ok (g x) e2))->compD cc d pe (xs.map en)=some ((xs.filter q).map g)
 |[],_=>rfl
 |x::xs,h=>by
  obtain⟨e1,h1,h2⟩:=h x (by simp);have ih:=x7d (cc:=cc) (d:=d) (pe:=pe) (q:=q) (g:=g) (en:=en) xs fun u hu=>h u (by simp[hu])
  rw[w0v,x2x,h1,ih];cases hq:q x with
  |true=>
   obtain⟨e2,h3⟩:=h2 hq;simp only[hq,h3,w1v,if_true];rfl
  |false=>simp[hq,w1v]
theorem q7j{d:Den W}{pe:List S}{g:α->W}{en:α->W}(xs:List α)(h:∀x∈xs,∃e2,d (.fr (en x)::pe)=.ok (g x) e2):compD dYes d pe (xs.map en)=some (xs.map g):=by
 rw[x7d (cc:=dYes) (q:=fun _=>true) (g:=g) xs fun x hx=>⟨_,rfl,fun _=>h x hx⟩,List.filter_eq_self.mpr fun _ _=>rfl]
theorem q7u{cc:Den Bool}{d:Den W}{pe:List S}{α:Type}{q:α->Bool}{g:α->W}{en:α->W×W}:∀(xs:List α),(∀x∈xs,∃e1,cc (.fr (en x).1::.fr (en x).2::pe)=.ok (q x) e1/\(q x=true->∃e2,d e1=.ok (g x) e2))->compP cc d pe (xs.map en)=some ((xs.filter q).map g)
 |[],_=>rfl
 |x::xs,h=>by
  obtain⟨e1,h1,h2⟩:=h x (by simp);have ih:=q7u (cc:=cc) (d:=d) (pe:=pe) (q:=q) (g:=g) (en:=en) xs fun u hu=>h u (by simp[hu])
  rw[w0v,x76,h1,ih];cases hq:q x with
  |true=>
   obtain⟨e2,h3⟩:=h2 hq;simp only[hq,h3,w1v,if_true];rfl
  |false=>simp[hq,w1v]
noncomputable def grW(ns:List Nd)(r:Nat):W:=.tup [.lst (ns.map ndW),.int r]
theorem q6u(n r:Nat):run K a (n+1) q3g [.int r]=.ok (.fr (.bl (decide (r<2)))):=by
 rw[x1c];unfold q6e;walk_at "den";rw[show decide ((r:Int)<2)=decide (r<2)from decide_eq_decide.mpr (by omega)]
theorem q5n{k:Nat}(h:ns[k]?=some x):atI (ns.map ndW) (k:Int)=some (ndW x):=q44 (by rw[w0f,h];rfl)
theorem q7v(n:Nat){R k:Nat}(h:ns[k]?=some x):run K a (n+1) q3b [grW ns R,.int (k+2:Nat)]=.ok (.fr (ndW x)):=by
 rw[q9m];unfold q5r grW;walk_at "den";rw[show((k+2:Nat):Int)-2=(k:Int)from by omega,q5n h];walk_at "den"
theorem x0n(n r:Nat):run K a (n+2) q2j [.int r]=.ok (.fr (.int (oe r))):=by
 rw[q7y];unfold q4t;walk_at "den";rw[q6u];walk_at "den";unfold oe
 by_cases h:r<2
 ·rw[if_pos h,if_pos h,show((1-r:Nat):Int)=1-(r:Int)from by omega]
 ·rw[if_neg h,if_neg h]
theorem q7w:∀ns:List Nd,flatWs (ns.map ndW)=true
 |[]=>rfl
 |x::ns=>by
  show(flatW (ndW x)&&flatWs (ns.map ndW))=true;rw[q7w ns];rfl
theorem eturn(n:Nat)(x:Nd):∃e2,q7s K a (run K a (n+2)) [.fr (ndW x)]=.ok (ndW (tnd x)) e2:=by
 refine⟨[.fr (ndW x)],?_⟩;obtain⟨p,l,h⟩:=x;unfold q7s ndW nW;walk_at "den";rw[x0n n];walk_at "den";rw[x0n n];walk_at "den";rfl
theorem q50(n:Nat)(r:Nat)(hl:ns.length<=16777216):run K a (n+3) q2d [grW ns r]=.ok (.x (.new (grW (ns.map tnd) (oe r)))):=by
 rw[x1d];unfold q6f grW;walk_at "den";rw[if_pos (by rw[w0d];exact hl),q7j (g:=fun x=>ndW (tnd x)) ns fun x _=>eturn n x]
 walk_at "den";rw[show ns.map (fun x=>ndW (tnd x))=(ns.map tnd).map ndW from by rw[w2j];rfl,y6t,if_pos (q7w _)]
 walk_at "den";rw[x0n (n+0)];walk_at "den"
noncomputable def kf(r:Nat):Fm:=if r<2 then .is (decide (r=1))else .at r
theorem q51(n r:Nat):run K a (n+2) q2n [.int r]=.ok (.fr (enc (kf r))):=by
 rw[q66];unfold q4f kf;walk_at "den";rw[q6u];walk_at "den"
 by_cases h:r<2
 ·rw[if_pos h,if_pos h,show decide ((r:Int)=1)=decide (r=1)from decide_eq_decide.mpr (by omega)];rfl
 ·rw[if_neg h,if_neg h];rfl
noncomputable def goN(ns:List Nd)(r p:Nat)(b:Bool):Nat:=if r<2 then r else match ns[r-2]? with
 |some x=>if x.1=p then(if b=true then x.2.2 else x.2.1)else r
 |none=>r
theorem x5z(n:Nat){R:Nat}(h:r<ns.length+2):run K a (n+2) q3s [grW ns R,.int r,.int p,.bl b]=.ok (.fr (.int (goN ns r p b))):=by
 rw[q9n];unfold q5s goN;walk_at "den";rw[q6u];walk_at "den"
 by_cases hr:r<2
 ·rw[if_pos hr,if_pos hr]
 ·rw[if_neg hr,if_neg hr];obtain⟨k,rfl⟩:∃k,r=k+2:=⟨r-2,by omega⟩;have hk:k<ns.length:=by omega
  have e:ns[k]?=some ns[k]:=w0b hk;rw[q7v n e,w2o,e];unfold ndW nW;walk_at "den"
  by_cases hp:ns[k].1=p
  ·rw[if_neg (by simp;omega),if_pos hp,q7v n e];unfold ndW nW;walk_at "den";cases b<;>walk_at "den"
  ·rw[if_pos (by simp;omega),if_neg hp]
theorem x1q(g:GOk m ns)(h:r<ns.length+2):goN ns r p b<ns.length+2:=by
 unfold goN;split
 ·exact h
 ·split
  ·rename_i x hx;obtain⟨_,_,c,d,_⟩:=g.nd _ x hx;have:=(w0a.mp hx).1;split
   ·split<;>omega
   ·exact h
  ·exact h
theorem q9d(g:GOk m ns)(h:r<ns.length+2)(hp:p<m)(hr:p<=plc ns m r):p<plc ns m (goN ns r p b):=by
 unfold goN;split
 ·rename_i h2;rw[q39 h2];exact hp
 ·split
  ·rename_i h2 x hx;obtain⟨_,_,_,_,e,f⟩:=g.nd _ x hx;split
   ·rename_i z;subst z;split<;>assumption
   ·rename_i z;obtain⟨k,rfl⟩:∃k,r=k+2:=⟨r-2,by omega⟩;rw[w2o]at hx;rw[q3k hx]at hr |-
    omega
  ·rename_i hx;have:=List.getElem?_eq_none_iff.mp hx;omega
theorem x7e{o:O3}{j:Nat}(h:¬∃b,Fm.ease o (kf i) (kf j)=.is b):¬(i<2/\j<2):=by
 rintro⟨hi,hj⟩;apply h;unfold kf;rw[if_pos hi,if_pos hj,x2f];cases o<;>cases(decide (i=1))<;>exact⟨_,rfl⟩
theorem x2g(n:Nat)(o:O3){R2 j:Nat}(h:Fm.ease o (kf i) (kf j)=.is b):run K a (n+4) q1l [.str (wd o),grW ns1 R1,grW ns2 R2,prW (i,j)]=.ok (.fr (.bl b)):=by
 rw[q42];unfold q24 prW;walk_at "den";rw[q51 (n+1)];walk_at "den";rw[q51 (n+1)];walk_at "den";rw[x5y n o,h];simp only[enc];walk_at "den"
noncomputable def sdW(x:List Nd×Nat×Nat):W×W:=(grW x.1 x.2.1,.int x.2.2)
theorem tside(n:Nat){R:Nat}(h:i<ns.length+2):∃e1,q32 K a (run K a (n+3)) [.fr (grW ns R),.fr (.int i)]=.ok (!decide (i<2)) e1/\((!decide (i<2))=true->∃e2,q31 K a (run K a (n+3)) e1=.ok (.int (plc ns m i)) e2):=by
 refine⟨[.fr (grW ns R),.fr (.int i)],?_,fun hi=>⟨[.fr (grW ns R),.fr (.int i)],?_⟩⟩
 ·unfold q32;walk_at "den";rw[q6u (n+2)];walk_at "den"
 ·have hi:¬i<2:=by simpa using hi
  obtain⟨k,rfl⟩:∃k,i=k+2:=⟨i-2,by omega⟩;have e:ns[k]?=some ns[k]:=w0b (by omega);unfold q31;walk_at "den";rw[q7v (n+2) e,q3k e];unfold ndW nW;walk_at "den"
theorem lside(n:Nat){R:Nat}(h:i<ns.length+2):∃e1,dYes [.fr (grW ns R),.fr (.int i),.fr (.int p)]=.ok true e1/\(true=true->∃e2,q30 K a (run K a (n+3)) e1=.ok (.int (goN ns i p false)) e2):=by
 refine⟨[.fr (grW ns R),.fr (.int i),.fr (.int p)],rfl,fun _=>⟨[.fr (grW ns R),.fr (.int i),.fr (.int p)],?_⟩⟩
 unfold q30;walk_at "den";rw[x5z (n+1) h];walk_at "den"
theorem hside(n:Nat){R:Nat}(h:i<ns.length+2):∃e1,dYes [.fr (grW ns R),.fr (.int i),.fr (.int p)]=.ok true e1/\(true=true->∃e2,q3z K a (run K a (n+3)) e1=.ok (.int (goN ns i p true)) e2):=by
 refine⟨[.fr (grW ns R),.fr (.int i),.fr (.int p)],rfl,fun _=>⟨[.fr (grW ns R),.fr (.int i),.fr (.int p)],?_⟩⟩
 unfold q3z;walk_at "den";rw[x5z (n+1) h];walk_at "den"
theorem sides{P:α->Prop}{x y:α}(h1:P x)(h2:P y):∀z∈[x,y],P z:=fun z hz=>by
 rcases w0i.mp hz with rfl|hz
 ·exact h1
 ·rw[w0m.mp hz];exact h2
theorem minp{R2 j:Nat}(h:¬(i<2/\j<2))(hp:p=tpP ns1 ns2 m (i,j))(g1:plc ns1 m i<=m)(g2:plc ns2 m j<=m):min1 [.lst ((([(ns1,R1,i),(ns2,R2,j)]:List (List Nd×Nat×Nat)).filter fun x=>!decide (x.2.2<2)).map fun x=>W.int (plc x.1 m x.2.2))]=some (.int p):=by
 subst hp;unfold tpP
 by_cases hi:i<2
 ·have hj:¬j<2:=fun z=>h ⟨hi,z⟩
  have e:=q39 (ns:=ns1) (m:=m) hi;simp only[w1v,hi,hj,w3n,decide_true,decide_false,w2s,w3q,if_true,w1d,if_false,w0v,w2c];rw[Nat.min_eq_right (by omega)];rfl
 ·by_cases hj:j<2
  ·have e:=q39 (ns:=ns2) (m:=m) hj;simp only[w1v,hi,hj,w3n,decide_true,decide_false,w2s,w3q,if_true,w1d,if_false,w0v,w2c];rw[w2x (by omega)];rfl
  ·simp only[w1v,hi,hj,w3n,decide_true,decide_false,w2s,w3q,if_true,w1d,if_false,w0v,w2c];have:=z0k (n:=(plc ns1 m i:Int)) (ns:=[(plc ns2 m j:Int)]);rw[w0v,w0v,w2c]at this;rw[this];congr 2;simp only[minL];split<;>omega
theorem x2h(n:Nat)(o:O3){R2 j:Nat}(hi:i<ns1.length+2)(hj:j<ns2.length+2)(g1:plc ns1 m i<=m)(g2:plc ns2 m j<=m)(h:¬∃b,Fm.ease o (kf i) (kf j)=.is b)(hp:p=tpP ns1 ns2 m (i,j)):run K a (n+4) q1l [.str (wd o),grW ns1 R1,grW ns2 R2,prW (i,j)]=.ok (.fr (.tup [.int p,prW (goN ns1 i p false,goN ns2 j p false),prW (goN ns1 i p true,goN ns2 j p true)])):=by
 rw[q42];unfold q24 prW;walk_at "den";rw[q51 (n+1)];walk_at "den";rw[q51 (n+1)];walk_at "den";rw[x5y n o];walk_at "den";rw[x2e];walk_at "den";rw[if_neg (by rw[x1p];exact h)];walk_at "den";have hne:=x7e h;have hpw:pairsW [W.tup [grW ns1 R1,W.int i],W.tup [grW ns2 R2,W.int j]]=some [sdW (ns1,R1,i),sdW (ns2,R2,j)]:=rfl;have c1:compP (q32 K a (run K a (n+3))) (q31 K a (run K a (n+3))) [] [sdW (ns1,R1,i),sdW (ns2,R2,j)]=_:=q7u (q:=fun x=>!decide (x.2.2<2)) (g:=fun x=>W.int (plc x.1 m x.2.2)) [(ns1,R1,i),(ns2,R2,j)] (sides (tside n hi) (tside n hj))
 have c2:compP dYes (q30 K a (run K a (n+3))) [.fr (.int p)] [sdW (ns1,R1,i),sdW (ns2,R2,j)]=some [.int (goN ns1 i p false),.int (goN ns2 j p false)]:=q7u (q:=fun _=>true) (g:=fun x=>W.int (goN x.1 x.2.2 p false)) [(ns1,R1,i),(ns2,R2,j)] (sides (lside n hi) (lside n hj))
 have c3:compP dYes (q3z K a (run K a (n+3))) [.fr (.int p)] [sdW (ns1,R1,i),sdW (ns2,R2,j)]=some [.int (goN ns1 i p true),.int (goN ns2 j p true)]:=q7u (q:=fun _=>true) (g:=fun x=>W.int (goN x.1 x.2.2 p true)) [(ns1,R1,i),(ns2,R2,j)] (sides (hside n hi) (hside n hj))
 rw[hpw];walk_at "den";rw[c1];walk_at "den";rw[minp hne hp g1 g2];walk_at "den";rw[hpw];walk_at "den";simp only[frz1,pj1,w0p,w1l];rw[c2];walk_at "den";rw[hpw];walk_at "den";simp only[frz1,pj1,w0p,w1l];rw[c3];walk_at "den"
noncomputable def capW(o:O3)(ns1:List Nd)(R1:Nat)(ns2:List Nd)(R2:Nat):List W:=[.str (wd o),grW ns1 R1,grW ns2 R2]
theorem lam_run(n:Nat)(o:O3){R2:Nat}{t:Nat×Nat}{w:W}(h:run K a (n+4) q1l [.str (wd o),grW ns1 R1,grW ns2 R2,prW t]=.ok (.fr w)):askF (run K a (n+5)) q0x (capW o ns1 R1 ns2 R2) (prW t)=some w:=by
 have e:run K a (n+5) q0x (prW t::capW o ns1 R1 ns2 R2)=.ok (.fr w):=by
  rw[q43];unfold q4l capW;walk_at "den";rw[h];walk_at "den";rfl
 unfold askF;rw[e];rfl
theorem z08(n:Nat)(o:O3){R2:Nat}(g1:GOk m ns1)(g2:GOk m ns2):AskOk prW (vdP ns1 ns2) (tpP ns1 ns2 m) m (askF (run K a (n+5)) q0x (capW o ns1 R1 ns2 R2)):=by
 rintro⟨i,j⟩ ⟨hi,hj⟩;have hi:i<ns1.length+2:=hi;have hj:j<ns2.length+2:=hj
 by_cases hk:∃b,Fm.ease o (kf i) (kf j)=.is b
 ·obtain⟨b,hb⟩:=hk;exact .inl ⟨b,lam_run n o (x2g n o hb)⟩
 ·have l1:=q5q g1 i;have l2:=q5q g2 j;have hne:=x7e hk
  have hpm:tpP ns1 ns2 m (i,j)<m:=by
   have w1:∀{ns:List Nd}{r:Nat},GOk m ns->r<ns.length+2->¬r<2->plc ns m r<m:=fun {ns r} g h h2=>by
    obtain⟨k,rfl⟩:∃k,r=k+2:=⟨r-2,by omega⟩;have e:ns[k]?=some ns[k]:=w0b (by omega);rw[q3k e];exact(g.nd k _ e).1
   show min (plc ns1 m i) (plc ns2 m j)<m
   by_cases z:i<2
   ·have:=w1 g2 hj fun y=>hne ⟨z,y⟩;omega
   ·have:=w1 g1 hi z;omega
  have t1:tpP ns1 ns2 m (i,j)<=plc ns1 m i:=Nat.min_le_left _ _;have t2:tpP ns1 ns2 m (i,j)<=plc ns2 m j:=w2q _ _;refine .inr ⟨tpP ns1 ns2 m (i,j),_,_,lam_run n o (x2h n o hi hj l1 l2 hk rfl),hpm,w0g _,⟨x1q g1 hi,x1q g2 hj⟩,⟨x1q g1 hi,x1q g2 hj⟩,?_,?_⟩
  ·exact Nat.lt_min.mpr ⟨q9d g1 hi hpm t1,q9d g2 hj hpm t2⟩
  ·exact Nat.lt_min.mpr ⟨q9d g1 hi hpm t1,q9d g2 hj hpm t2⟩
noncomputable def opB:O3->Bool->Bool->Bool
 |.a,x,y=>x&&y
 |.o,x,y=>x||y
 |.d,x,y=>x != y
theorem q9e(h:kf r=.is b){row:Rw}:ev ns row r=b:=by
 unfold kf at h;split at h
 ·rename_i h2;cases h;exact q2k h2
 ·cases h
theorem x50{o:O3}{x:Bool}{row:Rw}(h:withT o x (kf r)=.is b):opB o x (ev ns row r)=b:=by
 have eN:(kf r).eNot=.is b->(!ev ns row r)=b:=fun z=>by
  cases q:kf r with
  |is c=>rw[q]at z;cases z;rw[q9e q]
  |_=>rw[q]at z;cases z
 cases o<;>cases x
 ·cases h;rfl
 ·exact q9e h
 ·exact(Bool.false_or _).trans (q9e h)
 ·cases h;rfl
 ·show(false != ev ns row r)=b;rw[Bool.false_bne];exact q9e h
 ·show(true != ev ns row r)=b;rw[Bool.true_bne];exact eN h
theorem y3m(o:O3)(x y:Bool):opB o x y=opB o y x:=by cases o<;>cases x<;>cases y<;>rfl
theorem y7u{o:O3}{j:Nat}{row:Rw}(h:Fm.ease o (kf i) (kf j)=.is b):opB o (ev ns1 row i) (ev ns2 row j)=b:=by
 cases hi:kf i with
 |is x=>
  rw[hi,x2f]at h;rw[q9e hi];exact x50 h
 |_=>
  have ni:¬∃b,kf i=.is b:=by rw[hi];rintro⟨b,z⟩;cases z
  cases hj:kf j with
  |is y=>
   rw[hj,x5x ni]at h;rw[y3m,q9e hj];exact x50 h
  |_=>
   rw[x7c ni (by rw[hj];rintro⟨b,z⟩;cases z)]at h;cases o<;>cases h
theorem q6v{row:Rw}(hb:row p=b):ev ns row (goN ns r p b)=ev ns row r:=by
 unfold goN;split
 ·rfl
 ·rename_i h2;split
  ·rename_i x hx;split
   ·rename_i e;obtain⟨k,rfl⟩:∃k,r=k+2:=⟨r-2,by omega⟩;rw[w2o]at hx;rw[q3l hx,e,hb]
   ·rfl
  ·rfl
def JP(o:O3)(ns1 ns2 ns:List Nd)(r:Nat)(t:Nat×Nat):Prop:=∀row,ev ns row r=opB o (ev ns1 row t.1) (ev ns2 row t.2)
theorem x7f{t u:Nat×Nat}(h:prW t=prW u):t=u:=by
 obtain⟨a,b⟩:=t;obtain⟨c,d⟩:=u;unfold prW at h;simp only[W.tup.injEq,List.cons.injEq,W.int.injEq,and_true]at h;exact Prod.ext (by have:=h.1;omega) (by have:=h.2;omega)
theorem z09(n:Nat)(o:O3){R2:Nat}(g1:GOk m ns1)(g2:GOk m ns2){t:Nat×Nat}(hv:vdP ns1 ns2 t)(h:askF (run K a (n+5)) q0x (capW o ns1 R1 ns2 R2) (prW t)=some (.bl b)):Fm.ease o (kf t.1) (kf t.2)=.is b:=by
 obtain⟨i,j⟩:=t
 by_cases hk:∃b,Fm.ease o (kf i) (kf j)=.is b
 ·obtain⟨c,hc⟩:=hk;rw[lam_run n o (x2g n o hc)]at h;cases h;exact hc
 ·rw[lam_run n o (x2h n o hv.1 hv.2 (q5q g1 i) (q5q g2 j) hk rfl)]at h;cases h
theorem x7g(n:Nat)(o:O3){R2:Nat}(g1:GOk m ns1)(g2:GOk m ns2){t t0 t1:Nat×Nat}(hv:vdP ns1 ns2 t)(h:askF (run K a (n+5)) q0x (capW o ns1 R1 ns2 R2) (prW t)=some (.tup [.int (p:Nat),prW t0,prW t1])):t0=(goN ns1 t.1 p false,goN ns2 t.2 p false)/\t1=(goN ns1 t.1 p true,goN ns2 t.2 p true):=by
 obtain⟨i,j⟩:=t
 by_cases hk:∃b,Fm.ease o (kf i) (kf j)=.is b
 ·obtain⟨c,hc⟩:=hk;rw[lam_run n o (x2g n o hc)]at h;cases h
 ·rw[lam_run n o (x2h n o hv.1 hv.2 (q5q g1 i) (q5q g2 j) hk rfl)]at h;simp only[Option.some.injEq,W.tup.injEq,List.cons.injEq,W.int.injEq,and_true]at h;obtain⟨h1,h2,h3⟩:=h;have h1:tpP ns1 ns2 m (i,j)=p:=by omega
  subst h1;exact⟨(x7f h2).symm,(x7f h3).symm⟩
theorem y7v(n:Nat)(o:O3){R2:Nat}(g1:GOk m ns1)(g2:GOk m ns2):PropOk prW (vdP ns1 ns2) m (JP o ns1 ns2) (askF (run K a (n+5)) q0x (capW o ns1 R1 ns2 R2)):=by
 refine⟨fun ns ext r t g hr h row=>?_,fun ns t b hv h row=>?_,fun ns t p t0 t1 r hv h h0 h1 row=>?_,fun ns t p t0 t1 lo hi k hv h hx h0 h1 row=>?_⟩
 ·rw[z00 g hr];exact h row
 ·have e:=z09 n o g1 g2 hv h;rw[y7u e];cases b
  ·exact q2k (by decide)
  ·exact q2k (by decide)
 ·obtain⟨rfl,rfl⟩:=x7g n o g1 g2 hv h;cases hb:row p with
  |false=>
   have:=h0 row
   rwa [q6v hb,q6v hb]at this
  |true=>
   have:=h1 row
   rwa [q6v hb,q6v hb]at this
 ·obtain⟨rfl,rfl⟩:=x7g n o g1 g2 hv h;rw[q3l hx];show ev ns row (if row p=true then hi else lo)=_;cases hb:row p with
  |false=>
   have:=h0 row;rw[q6v hb,q6v hb]at this
   simpa using this
  |true=>
   have:=h1 row;rw[q6v hb,q6v hb]at this
   simpa using this
theorem y01(o:O3){R2:Nat}(g1:GOk m ns1)(g2:GOk m ns2)(l:Lm):∀(d n:Nat),NfSpec prW (vdP ns1 ns2) (tpP ns1 ns2 m) m (JP o ns1 ns2) d (recN (run K a (n+d+6)) q2m (.fn q0x l (capW o ns1 R1 ns2 R2)))
 |d,n=>by
  have e:recN (run K a (n+d+6)) q2m (.fn q0x l (capW o ns1 R1 ns2 R2))=nfS (askF (run K a (n+d+5)) q0x (capW o ns1 R1 ns2 R2)) (recN (run K a (n+d+5)) q2m (.fn q0x l (capW o ns1 R1 ns2 R2))):=by
   funext t st
   exact x4y (fun _=>rfl) _ _ _ t st
  rw[e];refine y67 (fun t _=>w0z (Nat.min_le_left _ _) (q5q g1 _)) z0v (z08 (n+d) o g1 g2) (y7v (n+d) o g1 g2) fun d' hd=>?_
  subst hd;exact y01 o g1 g2 l d' n
theorem x51:∀ns:List Nd,noFns (ns.map ndW)=true
 |[]=>rfl
 |x::ns=>by
  show(noFn (ndW x)&&noFns (ns.map ndW))=true;rw[x51 ns];rfl
theorem x7h(ns:List Nd)(r:Nat):noFn (grW ns r)=true:=by
 show(noFns (ns.map ndW)&&_)=true;rw[x51 ns];rfl
theorem q8y:ixW (grW ns r) (.int 1)=some (.int r):=rfl
theorem x52:ixW (grW ns r) (.int 0)=some (.lst (ns.map ndW)):=rfl
theorem q2y(n:Nat)(o:O3)(hm:m<=13)(g1:GG m ns1 r1)(g2:GG m ns2 r2):∃ns r,GG m ns r/\(∀row,ev ns row r=opB o (ev ns1 row r1) (ev ns2 row r2))/\run K a (n+21) q0y [.str (wd o),grW ns1 r1,grW ns2 r2]=.ok (.x (.new (grW ns r))):=by
 have hp:2^(m+1)<=16384:=w1y (by decide) (show m+1<=14 by omega);obtain⟨r,st',ns',ext,f',eq,s,ap,_,po,_,pr,_,sn,_⟩:=y01 (K:=K) (a:=a) o g1.ok g2.ok (R1:=r1) (R2:=r2) q3y m (n+(13-m)) (r1,r2) _ [] _ ⟨g1.lt,g2.lt⟩ (by omega) (y26 (r1,r2)) (by simp;omega) (by show 0+_<=_;omega);rw[show n+(13-m)+m+6=n+19 by omega]at eq;refine⟨ns',r,⟨s.ok,po,by simpa using sn⟩,pr,?_⟩
 have e2:run K a (n+20) q3a [prW (r1,r2),.fn q0x q3y (capW o ns1 r1 ns2 r2)]=.ok (.x (.new (grW ns' r))):=by
  rw[x1b];rw[z0w rfl (by show(_&&(noFn (grW ns1 r1)&&(noFn (grW ns2 r2)&&true)))=true;rw[x7h,x7h];rfl) eq (by rw[s.nodes];exact q7w _),s.nodes];rfl
 rw[x1e];unfold q6g;walk_at "den";rw[q8y];walk_at "den";rw[q8y];walk_at "den";show((lamNRes [.fr (.str (wd o)),.fr (grW ns1 r1),.fr (grW ns2 r2)] (run K a (n+20) q3a [prW (r1,r2),.fn q0x q3y (capW o ns1 r1 ns2 r2)])).stm fun w e1=>SR.rt (S.x (SK.new w)) e1).fn=_
 rw[e2];walk_at "den"
noncomputable def Fm.vf(row:Rw):Fm->Bool
 |.is b=>b
 |.at p=>row p
 |.not f=>!f.vf row
 |.and f g=>f.vf row&&g.vf row
 |.or f g=>f.vf row||g.vf row
 |.odd f g=>f.vf row != g.vf row
theorem q8z(n:Nat)(o:O3){f g:Fm}(e1:run K a n q18 [enc f]=.ok (.x (.new (grW ns1 r1))))(e2:run K a n q18 [enc g]=.ok (.x (.new (grW ns2 r2))))(e3:run K a n q0y [.str (wd o),grW ns1 r1,grW ns2 r2]=.ok (.x (.new (grW ns r)))):
  run K a (n+1) q18 [.tup [.str (wd o),enc f,enc g]]=.ok (.x (.new (grW ns r))):=by
 rw[q5t];unfold q47;cases o<;>
 ·simp only[wd]at e3 |-
  walk_at "den";rw[e1];walk_at "den";rw[e2];walk_at "den";rw[e3];walk_at "den"
theorem q3e(hm:m<=13):∀(f:Fm)(n:Nat),f.depth<=n->f.inb m->∃ns r,GG m ns r/\(∀row,ev ns row r=f.vf row)/\run K a (n+22) q18 [enc f]=.ok (.x (.new (grW ns r)))
 |.is b,n+1,hd,hb=>by
  refine⟨[],_,GG.is b,fun row=>by cases b<;>exact q2k (by decide),?_⟩
  rw[q5t];unfold q47 enc;walk_at "den";cases b<;>rfl
 |.at p,n+1,hd,hb=>by
  refine⟨_,_,GG.at hb,fun row=>by
   rw[q3l (k:=0) rfl];show ev _ row (if row p=true then 1 else 0)=row p;cases row p<;>exact q2k (by decide),?_⟩
  rw[q5t];unfold q47 enc;walk_at "den";rw[if_pos (show flatWs [W.tup [W.int p,W.int 0,W.int 1]]=true from rfl)];rfl
 |.not f,n+1,hd,hb=>by
  obtain⟨ns,r,g,sm,e⟩:=q3e hm f n (by simp only[Fm.depth]at hd;omega) hb;refine⟨_,_,g.turn,fun row=>by rw[q9b g.ok row (r+1) r (w1h _) g.lt,sm];rfl,?_⟩
  have hp:2^(m+1)<=16384:=w1y (by decide) (show m+1<=14 by omega);have:=g.sz;rw[q5t];unfold q47 enc;walk_at "den";rw[e];walk_at "den";rw[q50 (n+19) r (by omega)];walk_at "den"
 |.and f g,n+1,hd,hb=>by
  simp only[Fm.depth]at hd;obtain⟨ns1,r1,g1,s1,e1⟩:=q3e hm f n (by omega) hb.1;obtain⟨ns2,r2,g2,s2,e2⟩:=q3e hm g n (by omega) hb.2;obtain⟨ns,r,gg,s3,e3⟩:=q2y (K:=K) (a:=a) (n+1) .a hm g1 g2;exact⟨ns,r,gg,fun row=>by rw[s3,s1,s2];rfl,q8z (n+22) .a e1 e2 e3⟩
 |.or f g,n+1,hd,hb=>by
  simp only[Fm.depth]at hd;obtain⟨ns1,r1,g1,s1,e1⟩:=q3e hm f n (by omega) hb.1;obtain⟨ns2,r2,g2,s2,e2⟩:=q3e hm g n (by omega) hb.2;obtain⟨ns,r,gg,s3,e3⟩:=q2y (K:=K) (a:=a) (n+1) .o hm g1 g2;exact⟨ns,r,gg,fun row=>by rw[s3,s1,s2];rfl,q8z (n+22) .o e1 e2 e3⟩
 |.odd f g,n+1,hd,hb=>by
  simp only[Fm.depth]at hd;obtain⟨ns1,r1,g1,s1,e1⟩:=q3e hm f n (by omega) hb.1;obtain⟨ns2,r2,g2,s2,e2⟩:=q3e hm g n (by omega) hb.2;obtain⟨ns,r,gg,s3,e3⟩:=q2y (K:=K) (a:=a) (n+1) .d hm g1 g2;exact⟨ns,r,gg,fun row=>by rw[s3,s1,s2];rfl,q8z (n+22) .d e1 e2 e3⟩
 |f,0,hd,hb=>by have:=Fm.depth_pos f;omega
noncomputable def nJ(k:Nat):W:=.int (k:Int)
noncomputable def wtW(x:Nat×Bool):W:=.tup [.int x.1,.bl x.2]
theorem wstep{c:Den Bool}{b:List S->SR}{e':List S}(h1:c e=.ok true e)(h2:b e=.nx e'):whileD c b (n+1) e=whileD c b n e':=by
 show((c e).stm fun x e1=>if x=true then(match b e1 with
  |.nx e'=>whileD c b n e'
  |.ct e'=>whileD c b n e'
  |.bk e'=>.nx e'
  |.rt s e'=>.rt s e'
  |.ex c e'=>.ex c e'
  |.no=>.no)else .nx e1)=_
 rw[h1]
 show(match b e with
  |.nx e'=>whileD c b n e'
  |.ct e'=>whileD c b n e'
  |.bk e'=>.nx e'
  |.rt s e'=>.rt s e'
  |.ex c e'=>.ex c e'
  |.no=>.no)=_
 rw[h2]
noncomputable def rcE(ns:List Nd)(R:Nat)(order:List Nat)(wait:List (Nat×Bool))(seen:List Nat)(z:S):List S:=[.fr (.lst (ns.map ndW)),.fr (.int R),.own none (order.map nJ),.own none (wait.map wtW),.own none (seen.map nJ),z]
theorem x7i:∀ts:List Nat,(ts.map nJ).all scalW=true
 |[]=>rfl
 |_::ts=>by rw[w0v,w2m,x7i ts];rfl
theorem y02(k:Nat):∀ts:List Nat,((ts.map nJ).any fun y=>eqS y (.int (k:Int)))=ts.contains k
 |[]=>rfl
 |t::ts=>by
  rw[w0v,w2f,y02 k ts,List.contains_cons];congr 1;show(((t:Int)==(k:Int)):Bool)=(k==t);apply w1b.mpr;simp only[beq_iff_eq];omega
theorem y03(k:Nat)(ts:List Nat):ninW (.int (k:Int)) (.lst (ts.map nJ))=some (.bl (!ts.contains k)):=by
 show(if scalW (.int (k:Int))=true/\(ts.map nJ).all scalW=true then some (W.bl (!(ts.map nJ).any fun y=>eqS y (.int (k:Int))))else none)=_
 rw[if_pos ⟨rfl,x7i ts⟩,y02]
theorem x53:ixW (wtW (r,b)) (.int 1)=some (.bl b):=rfl
theorem q6m:ixW (wtW (r,b)) (.int 0)=some (.int r):=rfl
theorem x2i(n:Nat)(ns:List Nd)(R:Nat)(order:List Nat)(wait:List (Nat×Bool))(x:Nat×Bool)(seen:List Nat)(z:S):q1i K a (run K a n) (rcE ns R order (wait++[x]) seen z)=.ok true (rcE ns R order (wait++[x]) seen z):=by
 unfold q1i rcE;walk_at "den";rw[decide_eq_true (by rw[w0d,w0h];simp)]
theorem y7w(n:Nat)(ns:List Nd)(R:Nat){order:List Nat}(wait:List (Nat×Bool))(r:Nat)(seen:List Nat)(z:S)(hl:order.length<16777216):∃z',q05 K a (run K a n) (rcE ns R order (wait++[(r,true)]) seen z)=.nx (rcE ns R (order++[r]) wait seen z'):=by
 refine⟨.fr (wtW (r,true)),?_⟩;unfold q05 rcE;rw[w0n,w0v,w2c];walk_at "den";rw[x53];walk_at "den";rw[q6m];walk_at "den";rw[if_pos (by rw[w0d];exact hl),w0n];rfl
theorem z1a(n:Nat)(ns:List Nd)(R:Nat)(order:List Nat)(wait:List (Nat×Bool))(r:Nat){seen:List Nat}(z:S)(hr:r∈seen):∃z',q05 K a (run K a n) (rcE ns R order (wait++[(r,false)]) seen z)=.nx (rcE ns R order wait seen z'):=by
 refine⟨.fr (wtW (r,false)),?_⟩;unfold q05 rcE;rw[w0n,w0v,w2c];walk_at "den";rw[x53];walk_at "den";rw[q6m];walk_at "den";rw[y03,w3o.mpr hr];walk_at "den"
theorem z1b(n:Nat)(R:Nat)(order:List Nat){wait:List (Nat×Bool)}{k lo hi:Nat}{seen:List Nat}(z:S)(hk:ns[k]?=some (p,lo,hi))(hr:k+2∉seen)(hl:seen.length<16777216)(hw:wait.length+3<16777216):∃z',q05 K a (run K a n) (rcE ns R order (wait++[(k+2,false)]) seen z)=.nx (rcE ns R order (wait++[(k+2,true)]++[(hi,false)]++[(lo,false)]) (seen++[k+2]) z'):=by
 refine⟨.fr (wtW (k+2,false)),?_⟩
 have hc:seen.contains (k+2)=false:=by
  cases e:seen.contains (k+2)with
  |false=>rfl
  |true=>exact absurd (w3o.mp e) hr
 have e2:((k+2:Nat):Int)-2=(k:Int):=by omega
 unfold q05 rcE;rw[w0n,w0v,w2c];walk_at "den";rw[x53];walk_at "den";rw[q6m];walk_at "den";rw[y03,hc];walk_at "den";rw[q6m];walk_at "den";rw[if_pos (by rw[w0d];exact hl)];walk_at "den";rw[q6m];walk_at "den";rw[if_pos (by rw[w0d];omega)];walk_at "den";rw[q6m];walk_at "den";rw[e2,q5n hk];simp only[ndW,nW];walk_at "den";rw[if_pos (by rw[w0h,w0d];simp;omega)];walk_at "den";rw[q6m];walk_at "den";rw[e2,q5n hk];simp only[ndW,nW];walk_at "den";rw[if_pos (by simp only[w0h,w0d,w0q,w1g];omega)];simp only[w0n,w0v,w2c];rfl
theorem z1c(n:Nat)(g:GOk m ns)(R:Nat){L L':Nat}(h:Post ns L r L'):∀(order:List Nat)(wait:List (Nat×Bool))(seen:List Nat)(z:S),(∀x,x<=r->(x∈seen↔x<L+2)) ->
  order.length+(L'-L)<16777216->seen.length+(L'-L)<16777216->wait.length+3*(L'-L)+3<16777216 ->
  ∃(k:Nat)(seen':List Nat)(z':S),k<=3*(L'-L)+1/\(∀fuel,whileD (q1i K a (run K a n)) (q05 K a (run K a n)) (fuel+k) (rcE ns R order (wait++[(r,false)]) seen z)=whileD (q1i K a (run K a n)) (q05 K a (run K a n)) fuel (rcE ns R (order++List.range' (L+2) (L'-L)) wait seen' z')) /\
   (∀x,x∈seen'↔x∈seen\/(L+2<=x/\x<L'+2))/\seen'.length<=seen.length+(L'-L):=by
 induction h with
 | @old L r h=>
  intro order wait seen z hs _ _ _;obtain⟨z',e⟩:=z1a (K:=K) (a:=a) n ns R order wait r z ((hs r (w0g _)).mpr h);refine⟨1,seen,z',by omega,fun fuel=>?_,fun x=>⟨.inl,fun q=>q.elim id fun q=>absurd q.2 (by omega)⟩,by omega⟩
  rw[wstep (x2i n ns R order wait (r,false) seen z) e,w4b];simp
 | @new L L1 L2 p lo hi h h1 h2 i1 i2=>
  intro order wait seen z hs ho hl hw;obtain⟨l1,l1'⟩:=h1.le;obtain⟨l2,l2'⟩:=h2.le;obtain⟨_,_,c1,c2,_⟩:=g.nd L2 _ h;have c1:lo<L2+2:=c1;have c2:hi<L2+2:=c2;have hr:L2+2∉seen:=fun q=>by have:=(hs (L2+2) (w0g _)).mp q;omega
  obtain⟨z1,e1⟩:=z1b (K:=K) (a:=a) n R order (wait:=wait) z h hr (by omega) (by omega)
  obtain⟨k1,s1,z2,b1,w1,m1,n1⟩:=i1 order (wait++[(L2+2,true)]++[(hi,false)]) (seen++[L2+2]) z1 (fun x hx=>by
   rw[w1k,w0m];have:=hs x (by omega);constructor
   ·rintro(q|q)
    ·exact this.mp q
    ·omega
   ·exact fun q=>.inl (this.mpr q)) (by omega) (by simp only[w0h,w0q,w1g];omega) (by simp only[w0h,w0q,w1g];omega)
  obtain⟨k2,s2,z3,b2,w2,m2,n2⟩:=i2 (order++List.range' (L+2) (L1-L)) (wait++[(L2+2,true)]) s1 z2 (fun x hx=>by
   rw[m1,w1k,w0m];have:=hs x (by omega);constructor
   ·rintro((q|q)|q)
    ·have:=this.mp q;omega
    ·omega
    ·omega
   ·intro q
    by_cases y:x<L+2
    ·exact .inl (.inl (this.mpr y))
    ·exact .inr (by omega)) (by simp only[w0h,w3x];omega) (by simp only[w0h,w0q,w1g]at n1;omega) (by simp only[w0h,w0q,w1g];omega)
  have ho3:(order++List.range' (L+2) (L1-L)++List.range' (L1+2) (L2-L1)).length<16777216:=by simp only[w0h,w3x];omega
  obtain⟨z4,e4⟩:=y7w (K:=K) (a:=a) n ns R wait (L2+2) s2 z3 ho3
  have er:order++List.range' (L+2) (L1-L)++List.range' (L1+2) (L2-L1)++[L2+2]=order++List.range' (L+2) (L2+1-L):=by
   rw[w2g,w2g];congr 1
   have a1:List.range' (L1+2) (L2-L1)++[L2+2]=List.range' (L1+2) (L2-L1+1):=by
    rw[List.range'_concat];congr 2;omega
   rw[a1,show L1+2=(L+2)+1*(L1-L) by omega,List.range'_append];congr 1;omega
  refine⟨1+k2+k1+1,s2,z4,by omega,fun fuel=>?_,fun x=>?_,?_⟩
  ·rw[show fuel+(1+k2+k1+1)=(fuel+1+k2+k1)+1 by omega,wstep (x2i n ns R order wait (L2+2,false) seen z) e1,w1,w2,wstep (x2i n ns R _ wait (L2+2,true) s2 z3) e4,er]
  ·rw[m2,m1,w1k,w0m];constructor
   ·rintro(((q|q)|q)|q)
    ·exact .inl q
    ·exact .inr (by omega)
    ·exact .inr (by omega)
    ·exact .inr (by omega)
   ·rintro(q|q)
    ·exact .inl (.inl (.inl q))
    ·by_cases y:x<L1+2
     ·exact .inl (.inr (by omega))
     ·by_cases y2:x<L2+2
      ·exact .inr (by omega)
      ·exact .inl (.inl (.inr (by omega)))
  ·simp only[w0h,w0q,w1g]at n1;omega
theorem z1d(n:Nat)(ns:List Nd)(R:Nat)(order seen:List Nat)(z:S):q1i K a (run K a n) (rcE ns R order [] seen z)=.ok false (rcE ns R order [] seen z):=by
 unfold q1i rcE;walk_at "den"
theorem wend{c:Den Bool}{b:List S->SR}(h1:c e=.ok false e):whileD c b (n+1) e=.nx e:=by
 show((c e).stm fun x e1=>if x=true then(match b e1 with
  |.nx e'=>whileD c b n e'
  |.ct e'=>whileD c b n e'
  |.bk e'=>.nx e'
  |.rt s e'=>.rt s e'
  |.ex c e'=>.ex c e'
  |.no=>.no)else .nx e1)=_
 rw[h1];rfl
theorem z1e(n:Nat)(g:GG m ns r)(hl:ns.length<=16384)(F:Nat)(hF:100000<=F):∃(seen:List Nat)(z:S),whileD (q1i K a (run K a n)) (q05 K a (run K a n)) F (rcE ns r [] ([]++[(r,false)]) [0,1] .no)=.nx (rcE ns r (List.range' 2 ns.length) [] seen z):=by
 obtain⟨k,seen',z',b,w,m1,n1⟩:=z1c (K:=K) (a:=a) n g.ok r g.po [] [] [0,1] .no (fun x hx=>by simp only[w0i,w2i,or_false];omega) (by simp only[w1g];omega) (by simp only[w0q,w1g];omega) (by simp only[w1g];omega)
 obtain⟨f,rfl⟩:∃f,F=(f+1)+k:=⟨F-k-1,by omega⟩;refine⟨seen',z',?_⟩;rw[w,wend (z1d n ns r _ seen' z'),List.nil_append,Nat.sub_zero]
theorem x6l(n:Nat)(g:GG m ns r)(hl:ns.length<=16384):run K a (n+1) q2f [.lst (ns.map ndW),.int r]=.ok (.own none ((List.range' 2 ns.length).map nJ)):=by
 rw[q6k];unfold q3p;walk_at "den";obtain⟨seen,z,e⟩:=z1e (K:=K) (a:=a) n g hl 1000000 (by decide);rw[show[S.fr (W.lst (ns.map ndW)),S.fr (W.int r),S.own none [],S.own none [W.tup [W.int r,W.bl false]],S.own none [W.int 0,W.int 1],S.no]=rcE ns r [] ([]++[(r,false)]) [0,1] .no from rfl,e];unfold rcE;walk_at "den"
theorem ewhole(M:Exs K mg a)(n:Nat)(i:Int):∃e2,q34 K a (run K a (n+1)) [.fr (.int i)]=.ok (.bl true) e2:=by
 refine⟨[.fr (.int i)],?_⟩;unfold q34;walk_at "den";rw[x27 M n i];walk_at "den"
theorem sl3{x y z:W}:slW (.tup [x,y,z]) (some 1) none=some (.tup [y,z]):=rfl
theorem x8p(M:Exs K mg a)(n:Nat)(g:GOk m ns){k:Nat}(h:ns[k]?=some x):run K a (n+2) q2e [ndW x,.int k]=.ok (.fr (.bl true)):=by
 obtain⟨p,lo,hi⟩:=x;obtain⟨_,h2,h3,h4,_,_⟩:=g.nd k _ h;have h2:lo≠hi:=h2;have h3:lo<k+2:=h3;have h4:hi<k+2:=h4;have c1:compD dYes (q34 K a (run K a (n+1))) [] [W.int p,W.int lo,W.int hi]=some [.bl true,.bl true,.bl true]:=q7j (g:=fun _=>W.bl true) (en:=W.int) [(p:Int),(lo:Int),(hi:Int)] fun i _=>ewhole M n i
 rw[q6j];unfold q3o ndW nW;walk_at "den";rw[x60 M.t_tuple_tuple];walk_at "den";rw[c1];walk_at "den";rw[if_neg (by simp),show all1 [W.lst [W.bl true,W.bl true,W.bl true]]=some (.bl true)from rfl];walk_at "den";rw[if_pos (by omega),if_pos (by simp;omega),sl3];walk_at "den";rw[minT2];walk_at "den";rw[if_pos (by split<;>omega),sl3];walk_at "den";rw[maxT2];walk_at "den";rw[decide_eq_true (by split<;>omega)]
theorem y7x:∀xs:List α,all1 [.lst (xs.map fun _=>W.bl true)]=some (.bl true):=fun xs=>by
 have h:∀xs:List α,boolsW (xs.map fun _=>W.bl true)=some (xs.map fun _=>true):=fun xs=>by
  induction xs with
  |nil=>rfl
  |cons x xs ih=>
   show(boolsW (xs.map fun _=>W.bl true)).map (true::·)=_
   rw[ih];rfl
 show(boolsW (xs.map fun _=>W.bl true)).map (fun bs=>W.bl (bs.all id))=_
 rw[h];show some (W.bl ((xs.map fun _=>true).all id))=_
 rw[show(xs.map fun _=>true).all id=true from by simp]
theorem x0o(L:Nat):rangeW 0 (L:Int)=(List.range L).map nJ:=by
 unfold rangeW nJ;simp
theorem okL{L:Nat}(h:L<=16384):okI (L:Int)=true:=by
 unfold okI;simp;omega
theorem enode(M:Exs K mg a)(n:Nat)(g:GOk m ns){k:Nat}(h:k<ns.length):∃e2,q4n K a (run K a (n+2)) [.fr (nJ k),.fr (.lst (ns.map ndW))]=.ok (.bl true) e2:=by
 refine⟨[.fr (nJ k),.fr (.lst (ns.map ndW))],?_⟩;have e:ns[k]?=some ns[k]:=w0b h;unfold q4n nJ;walk_at "den";rw[q5n e];walk_at "den";rw[x8p M n g e];walk_at "den"
theorem y4c(x y:Nd):eqW (ndW x) (ndW y)=some (decide (x=y)):=by
 obtain⟨a1,b1,c1⟩:=x;obtain⟨a2,b2,c2⟩:=y;show some (((a1:Int)==(a2:Int))&&(((b1:Int)==(b2:Int))&&(((c1:Int)==(c2:Int))&&true)))=_;congr 1;apply w1b.mpr;simp only[w0t,beq_iff_eq,decide_eq_true_eq,Prod.mk.injEq,and_true];omega
theorem y04(x:Nd):∀ns:List Nd,x∉ns->inBW (ndW x) (ns.map ndW)=some false
 |[],_=>rfl
 |y::ns,h=>by
  show(match eqW (ndW y) (ndW x),inBW (ndW x) (ns.map ndW)with|some b,some c=>some (b||c)|_,_=>none)=_;rw[y4c,y04 x ns fun z=>h (w0x _ z),decide_eq_false fun z=>h (by rw[z];exact w1e)]
  rfl
theorem q7k:∀ns:List Nd,depWs (ns.map ndW)<=1
 |[]=>w1f _
 |x::ns=>by
  have:=q7k ns;show max (depW (ndW x)) (depWs (ns.map ndW))<=1;have:depW (ndW x)=1:=rfl;omega
theorem q9f:∀ns:List Nd,eqWs (ns.map ndW) (ns.map ndW)=some true
 |[]=>rfl
 |x::ns=>by
  show(match eqW (ndW x) (ndW x),eqWs (ns.map ndW) (ns.map ndW)with|some a,some b=>some (a&&b)|_,_=>none)=_;rw[y4c,q9f ns,decide_eq_true rfl];rfl
theorem x7j{k:Nat}(h:k<ns.length):cutW (ns.map ndW) none (some (k:Int))=(ns.take k).map ndW:=by
 unfold cutW;rw[HT.sIx_none,HT.sIx_nat,w0d,w2x (by omega)];simp[w2t]
theorem y05(g:GOk m ns){k:Nat}(h:ns[k]?=some x):inL (ndW x) (.lst ((ns.take k).map ndW))=some (.bl false):=by
 show(if depWs ((ns.take k).map ndW)<=148 then(inBW (ndW x) ((ns.take k).map ndW)).map W.bl else none)=_;have hd:=q7k (ns.take k);rw[if_pos (by omega),y04 x _ fun hx=>?_]
 ·rfl
 ·obtain⟨j,hj,e⟩:=w1m.mp hx;have hj':j<k:=by simp at hj;omega
  obtain⟨hk,ek⟩:=w0a.mp h;rw[List.getElem_take]at e;have:=(w3g g.dist (h₀:=by omega) (h₁:=hk)).mp (e.trans ek.symm);omega
theorem x1r(n:Nat)(g:GOk m ns){k:Nat}(h:ns[k]?=some x){c:Nat}(hc:c<k+2)(hp:x.1<plc ns m c)(w0:S):q3j K a (run K a n) [w0,.fr (.lst (ns.map ndW)),.fr (.int k),.fr (.int c)]=.nx [w0,.fr (.lst (ns.map ndW)),.fr (.int k),.fr (.int c)]:=by
 have hk:=(w0a.mp h).1;unfold q3j;walk_at "den"
 by_cases h1:c<2
 ·rw[if_neg (by omega),q5n h];walk_at "den";rw[x7j hk,y05 g h];walk_at "den"
 ·obtain⟨j,rfl⟩:∃j,c=j+2:=⟨c-2,by omega⟩;have e:ns[j]?=some ns[j]:=w0b (by omega);rw[q3k e]at hp;rw[if_pos (by omega),show((j+2:Nat):Int)-2=(j:Int)from by omega,q5n e];rw[show ndW ns[j]=.tup [.int ns[j].1,.int ns[j].2.1,.int ns[j].2.2]from rfl];walk_at "den";rw[q5n h];rw[show ndW x=.tup [.int x.1,.int x.2.1,.int x.2.2]from rfl];walk_at "den";rw[if_neg (by omega),q5n h];walk_at "den";rw[x7j hk,y05 g h];walk_at "den"
theorem x8q(n:Nat)(g:GOk m ns){k:Nat}(hk:k<ns.length)(w0 z:S):∃z',q2x K a (run K a n) [w0,.fr (.lst (ns.map ndW)),.fr (.int k),z]=.nx [w0,.fr (.lst (ns.map ndW)),.fr (.int k),z']:=by
 have e:ns[k]?=some ns[k]:=w0b hk;obtain⟨_,_,c1,c2,c3,c4⟩:=g.nd k _ e
 obtain⟨e',h1,z',rfl⟩:=q7h (i:=3) (b:=q3j K a (run K a n)) (fun _ e=>∃z,e=[w0,.fr (.lst (ns.map ndW)),.fr (.int k),z]) [W.int ns[k].2.1,W.int ns[k].2.2] 0 [w0,.fr (.lst (ns.map ndW)),.fr (.int k),z] ⟨_,rfl⟩ (by
  rintro j w e' hw ⟨z',rfl⟩;rcases w0i.mp hw with rfl|hw
  ·exact⟨_,x1r n g e c1 c3 w0,_,rfl⟩
  ·rw[w0m.mp hw];exact⟨_,x1r n g e c2 c4 w0,_,rfl⟩)
 refine⟨z',?_⟩;unfold q2x;walk_at "den";rw[q5n e];rw[show ndW ns[k]=.tup [.int ns[k].1,.int ns[k].2.1,.int ns[k].2.2]from rfl];walk_at "den";rw[sl3];walk_at "den";exact h1
theorem eplus(n k:Nat):∃e2,q4m K a (run K a n) [.fr (nJ k)]=.ok (nJ (k+2)) e2:=by
 refine⟨[.fr (nJ k)],?_⟩;unfold q4m nJ;walk_at "den";rfl
theorem y06:∀ks:List Nat,eqWs (ks.map nJ) (ks.map nJ)=some true
 |[]=>rfl
 |x::ns=>by
  show(match some (((x:Int))==(x:Int)),eqWs (ns.map nJ) (ns.map nJ)with|some a,some b=>some (a&&b)|_,_=>none)=_;rw[y06 ns,beq_self_eq_true];rfl
theorem y07:∀ks:List Nat,depWs (ks.map nJ)=0
 |[]=>rfl
 |x::ns=>by
  show max 0 (depWs (ns.map nJ))=0;rw[y07 ns];rfl
theorem z3e(ks:List Nat):eq2 (.lst (ks.map nJ)) (.lst (ks.map nJ))=some (.bl true):=by
 show(if depWs (ks.map nJ)+1<=150 then(eqWs (ks.map nJ) (ks.map nJ)).map W.bl else none)=_;rw[y07,if_pos (by decide),y06];rfl
theorem y08(L:Nat):(List.range L).map (fun k=>nJ (k+2))=(List.range' 2 L).map nJ:=by
 apply List.ext_getElem
 ·simp
 ·intro i h1 h2;simp[Nat.add_comm]
theorem x28(M:Exs K mg a)(n:Nat)(g:GG m ns r)(hl:ns.length<=16384):run K a (n+3) q09 [grW ns r]=.ok (.fr (.bl true)):=by
 have hlt:=g.lt;rw[q5y];unfold q3c grW;walk_at "den";rw[x60 M.t_tuple_tuple];walk_at "den";rw[y55 M.t_list_list];walk_at "den";rw[x27 M (n+1)];walk_at "den";rw[if_neg (by simp),w0d,if_pos (okL hl),x0o];walk_at "den";simp only[frz1,pj1,w0p,w1l];rw[if_pos (by rw[w0d,List.length_range];omega),q7j (g:=fun _=>W.bl true) (List.range ns.length) fun k hk=>enode M n g.ok (w1i.mp hk)]
 walk_at "den";rw[y7x];walk_at "den";rw[if_neg (by omega),w0d,if_neg (by omega),if_pos (okL hl),x0o]
 obtain⟨e',h1,z2,z3,rfl⟩:=q7h (i:=2) (b:=q2x K a (run K a (n+2))) (fun _ e=>∃z2 z3,e=[.fr (W.tup [W.lst (ns.map ndW),W.int r]),.fr (W.lst (ns.map ndW)),z2,z3]) ((List.range ns.length).map nJ) 0 [.fr (W.tup [W.lst (ns.map ndW),W.int r]),.fr (W.lst (ns.map ndW)),.no,.no] ⟨_,_,rfl⟩ (by
  rintro j w e hw ⟨z2,z3,rfl⟩;obtain⟨k,hk,rfl⟩:=w1x.mp hw;obtain⟨z',h⟩:=x8q (K:=K) (a:=a) (n+2) g.ok (w1i.mp hk) (.fr (W.tup [W.lst (ns.map ndW),W.int r])) z3;exact⟨_,h,_,_,rfl⟩)
 rw[show forW 2 (q2x K a (run K a (n+2))) [S.fr (W.tup [W.lst (ns.map ndW),W.int r]),S.fr (W.lst (ns.map ndW)),S.no,S.no] (some ((List.range ns.length).map nJ))=_ from h1];walk_at "den";rw[x6l (n+1) g hl];walk_at "den";rw[w0d,if_pos (okL hl),x0o];walk_at "den";rw[if_pos (by rw[w0d,List.length_range];omega),q7j (g:=fun k=>nJ (k+2)) (List.range ns.length) fun k _=>eplus (n+2) k]
 walk_at "den";rw[y08,z3e];walk_at "den"
theorem x29(n:Nat)(m:Int)(h0:0<=m)(h1:m<1000):run K a (n+1) q2p [.int m]=.ok (.fr (.int (2^m.toNat))):=by
 rw[q69];unfold q4i;walk_at "den";rw[if_pos (q8e (by omega) (by omega))];walk_at "den"
 obtain⟨e',h2,z,rfl⟩:=x04 (b:=q5h K a (run K a n)) (i:=2) (lo:=0) (hi:=m) m.toNat (by omega) (fun j e=>∃z,e=[.fr (.int m),.fr (.int (2^j)),z]) [.fr (.int m),.fr (.int 1),.no] ⟨_,rfl⟩ (by
  rintro j e hj ⟨z,rfl⟩;unfold q5h;walk_at "den";exact⟨_,rfl,_,by rw[Int.pow_succ,Int.mul_comm]⟩)
 rw[h2];walk_at "den"
theorem y7y(n:Nat)(c:Int)(m:Int)(h0:0<=m)(h1:m<1000):∃row:List Bool,run K a (n+2) q3x [.int c,.int m]=.ok (.fr (.tup (row.map .bl)))/\row.length=m.toNat:=by
 rw[q8p];unfold q5b;walk_at "den";rw[if_pos (q8e (by omega) (by omega))];walk_at "den";rw[if_pos (by rw[len_range];omega),D.x4i (g:=fun w=>match w with|W.int k=>W.bl (decide (mixed c k 2=1))|w=>w)]
 ·walk_at "den";refine⟨(List.range m.toNat).map fun(k:Nat)=>decide (mixed c (k:Int) 2=1),?_,by simp⟩
  congr 3;unfold rangeW;rw[w2j,w2j,w3z];apply w3t;intro k _;simp
 ·intro w hw;obtain⟨k,rfl,hk⟩:=mem_range hw;unfold q8o;rw[y58 (w:=.int c) rfl,y95 (w:=.int c) rfl];walk_at "den";rw[q8x n _ _ (by decide)];walk_at "den";exact⟨_,rfl⟩
noncomputable def rwF(row:List Bool):Rw:=fun p=>row.getD p false
theorem q4z(row:List Bool):∀f:Fm,f.vf (rwF row)=f.val row
 |.is _=>rfl
 |.at _=>rfl
 |.not f=>by show(!f.vf _)=!f.val row;rw[q4z row f]
 |.and f g=>by show(f.vf _&&g.vf _)=(f.val row&&g.val row);rw[q4z row f,q4z row g]
 |.or f g=>by show(f.vf _||g.vf _)=(f.val row||g.val row);rw[q4z row f,q4z row g]
 |.odd f g=>by show(f.vf _ != g.vf _)=(f.val row != g.val row);rw[q4z row f,q4z row g]
noncomputable def wkE(ns:List Nd)(R:Nat)(row:List Bool)(r:Nat)(z:S):List S:=[.fr (grW ns R),.fr (.tup (row.map .bl)),.fr (.int r),z]
theorem x54{c:Den Bool}{b:List S->SR}{R:Nat}(g:GOk m ns)(hc0:∀r z,r<2->c (wkE ns R row r z)=.ok false (wkE ns R row r z))(hc1:∀r z,¬r<2->c (wkE ns R row r z)=.ok true (wkE ns R row r z))
  (hb:∀k x z,ns[k]?=some x->∃z',b (wkE ns R row (k+2) z)=.nx (wkE ns R row (if rwF row x.1=true then x.2.2 else x.2.1) z')):∀(N r F:Nat)(z:S),r<N->r<ns.length+2->r<F->∃q z',whileD c b F (wkE ns R row r z)=.nx (wkE ns R row q z')/\q<2/\decide (q=1)=ev ns (rwF row) r
 |N+1,r,F,z,hN,hr,hF=>by
  obtain⟨F,rfl⟩:∃f,F=f+1:=⟨F-1,by omega⟩
  by_cases h2:r<2
  ·exact⟨r,z,wend (hc0 r z h2),h2,(q2k h2).symm⟩
  ·obtain⟨k,rfl⟩:∃k,r=k+2:=⟨r-2,by omega⟩;have e:ns[k]?=some ns[k]:=w0b (by omega);obtain⟨z1,h1⟩:=hb k _ z e;obtain⟨_,_,a1,a2,_⟩:=g.nd k _ e;rw[wstep (hc1 _ z h2) h1,q3l e];split
   ·exact x54 g hc0 hc1 hb N _ F z1 (by omega) (by omega) (by omega)
   ·exact x54 g hc0 hc1 hb N _ F z1 (by omega) (by omega) (by omega)
theorem q9v(n:Nat)(g:GG m ns r)(hl:ns.length<=16384)(hm:m<=row.length):run K a (n+1) q2z [grW ns r,.tup (row.map .bl)]=.ok (.fr (.bl (ev ns (rwF row) r))):=by
 have hlt:=g.lt
 obtain⟨q,z',h1,h2,h3⟩:=x54 (c:=q41 K a (run K a n)) (b:=q5v K a (run K a n)) (R:=r) (row:=row) g.ok (fun r' z h=>by
   unfold q41 wkE;walk_at "den";rw[decide_eq_false (by omega)]) (fun r' z h=>by
   unfold q41 wkE;walk_at "den";rw[decide_eq_true (by omega)]) (fun k x z hx=>by
   obtain⟨p,lo,hi⟩:=x;have hp:p<row.length:=w0o (g.ok.nd k _ hx).1 hm;refine⟨.fr (ndW (p,lo,hi)),?_⟩;unfold q5v wkE;walk_at "den";rw[x52];walk_at "den";rw[show((k+2:Nat):Int)-2=(k:Int)from by omega,q5n hx];simp only[ndW,nW];walk_at "den";rw[y0y hp];walk_at "den";unfold rwF;cases row.getD p false<;>rfl) (r+1) r 1000000 .no (w1h _) hlt (by omega)
 rw[q71];unfold q4w;walk_at "den";rw[q8y];walk_at "den";rw[show[S.fr (grW ns r),S.fr (W.tup (row.map W.bl)),S.fr (W.int r),S.no]=wkE ns r row r .no from rfl,h1];unfold wkE;walk_at "den";rw[<- h3,show decide ((q:Int)=1)=decide (q=1)from decide_eq_decide.mpr (by omega)]
noncomputable def rowW(row:List Bool):W:=.tup (row.map .bl)
theorem y3n(n:Nat)(k:Int)(hm:m<=10):∃row:List Bool,run K a (n+2) q2s [.int k,.int (m:Int)]=.ok (.fr (rowW row))/\row.length=m:=by
 rw[q6s];unfold q35;walk_at "den";rw[if_pos (q8e (by omega) (by omega))];walk_at "den"
 obtain⟨e',h2,row,z,rfl,hr⟩:=x04 (b:=q5c K a (run K a (n+1))) (i:=3) (lo:=0) (hi:=(m:Int)) m (by omega) (fun j e=>∃(row:List Bool)(z:S),e=[.fr (.int k),.fr (.int m),.own none (row.map .bl),z]/\row.length=j) [.fr (.int k),.fr (.int m),.own none [],.no] ⟨[],_,rfl,rfl⟩ (by
  rintro j e hj ⟨row,z,rfl,hr⟩;unfold q5c;walk_at "den";rw[x29 n _ (by omega) (by omega)];walk_at "den"
  have hp:(0:Int)<2^((m:Int)-1-(0+(j:Int))).toNat/\(2:Int)^((m:Int)-1-(0+(j:Int))).toNat<1073741824:=by
   have h1:(2:Nat)^((m:Int)-1-(0+(j:Int))).toNat<=2^10:=w1y (by decide) (by omega);have h2:0<(2:Nat)^((m:Int)-1-(0+(j:Int))).toNat:=Nat.pow_pos (by decide);have h4:(2:Nat)^10=1024:=by decide
   have h5:(2:Int)^((m:Int)-1-(0+(j:Int))).toNat=(((2:Nat)^((m:Int)-1-(0+(j:Int))).toNat:Nat):Int):=by simp
   rw[h5];omega
  rw[if_pos hp];walk_at "den";rw[if_pos (by rw[w0d];omega)];exact⟨_,rfl,row++[_],.fr (.int (0+(j:Int))),by rw[w0n];rfl,by simp[hr]⟩)
 rw[h2];walk_at "den";exact⟨row,rfl,hr⟩
theorem q80{d:Den W}{pe:List S}{m:Nat}:∀{ws:List W},(∀w∈ws,∃row e2,d (.fr w::pe)=.ok (rowW row) e2/\row.length=m)->∃rows:List (List Bool),compD dYes d pe ws=some (rows.map rowW)/\rows.length=ws.length/\∀r∈rows,r.length=m
 |[],_=>⟨[],rfl,rfl,fun _ h=>nomatch h⟩
 |w::ws,h=>by
  obtain⟨row,e2,h1,h2⟩:=h w (by simp);obtain⟨rows,h3,h4,h5⟩:=q80 (ws:=ws) fun u hu=>h u (by simp[hu])
  refine⟨row::rows,?_,by simp[h4],fun r hr=>?_⟩
  ·rw[x2x];show(match d (.fr w::pe)with|.ok y _=>(compD dYes d pe ws).map (y::·)|_=>none)=_;rw[h1,h3];rfl
  ·rcases w0i.mp hr with rfl|hr
   ·exact h2
   ·exact h5 r hr
theorem y09(n:Nat)(c:Int)(m:Nat)(hm:m<=12):∃rows:List (List Bool),run K a (n+4) q20 [.int c,.int m]=.ok (.own none (rows.map rowW))/\rows.length<=64/\∀r∈rows,r.length=m:=by
 rw[q72];unfold q4x;walk_at "den"
 by_cases h6:m<6
 ·rw[if_pos (by omega),x29 (n+2) _ (by omega) (by omega)];have hpw:(2:Nat)^m<=2^5:=w1y (by decide) (by omega);have hp5:(2:Nat)^5=32:=by decide
  rw[show(2:Int)^((m:Int)).toNat=((2^m:Nat):Int)from by simp];generalize (2:Nat)^m=P at hpw;walk_at "den";rw[if_pos (q8e (by omega) (by omega))];walk_at "den";simp only[frz1,pj1,w0p,w1l];rw[if_pos (by rw[len_range];omega)]
  obtain⟨rows,h1,h2,h3⟩:=q80 (d:=q5x K a (run K a (n+3))) (pe:=[.fr (.int m)]) (m:=m) (ws:=rangeW 0 (P:Int)) (by
   intro w hw;obtain⟨k,rfl,hk⟩:=mem_range hw;obtain⟨row,h1,h2⟩:=y3n (K:=K) (a:=a) (n+1) (0+(k:Int)) (m:=m) (by omega);refine⟨row,[.fr (.int (0+(k:Int))),.fr (.int m)],?_,h2⟩;unfold q5x;walk_at "den";rw[h1];walk_at "den")
  rw[h1];walk_at "den";rw[len_range]at h2;exact⟨rows,rfl,by omega,h3⟩
 ·rw[if_neg (by omega),if_pos (by decide)];walk_at "den";simp only[frz1,pj1,w0p,w1l];rw[if_pos (by rw[len_range];decide)]
  obtain⟨rows,h1,h2,h3⟩:=q80 (d:=q5w K a (run K a (n+3))) (pe:=[.fr (.int c),.fr (.int m)]) (m:=m) (ws:=rangeW 0 24) (by
   intro w hw;obtain⟨k,rfl,hk⟩:=mem_range hw;obtain⟨row,h1,h2⟩:=y7y (K:=K) (a:=a) (n+1) (c+3*(0+(k:Int))) (m:Int) (by omega) (by omega);refine⟨row,[.fr (.int (0+(k:Int))),.fr (.int c),.fr (.int m)],?_,by omega⟩;unfold q5w;walk_at "den";rw[h1];walk_at "den";rfl)
  rw[h1];walk_at "den";rw[len_range]at h2;exact⟨rows,rfl,by rw[h2];decide,h3⟩
theorem z1f{xs:List W}{k:Nat}(h:k<=xs.length):cutW xs none (some (k:Int))=xs.take k:=by
 unfold cutW;rw[HT.sIx_none,HT.sIx_nat,w2x h];simp
theorem y3o{xs:List W}{k:Nat}(h:k<=xs.length):cutW xs (some (k:Int)) none=xs.drop k:=by
 unfold cutW;rw[HT.sIx_none,HT.sIx_nat,w2x h];exact List.take_of_length_le (by simp)
theorem y3p(n:Nat)(c:Int):run K a (n+1) q21 [.int c]=.ok (.fr (.int (if 8<c%16 then 6+c / 16%7 else c%16%6))):=by
 rw[q73];unfold q4y;walk_at "den";split<;>rfl
theorem ecell(n:Nat)(c:Int):∃e2,q5i K a (run K a n) [.fr (.int c)]=.ok (.int (c / 16*16+8+c%8)) e2:=by
 refine⟨[.fr (.int c)],?_⟩;unfold q5i;walk_at "den"
theorem z3f(ns:List Int):cutW (ns.map W.int) (some 1) none=(ns.drop 1).map W.int:=by
 unfold cutW;rw[HT.sIx_none,show(1:Int)=((1:Nat):Int)from rfl,HT.sIx_nat,<- w3f,<- w2t];congr 1;cases ns with
 |nil=>rfl
 |cons x ns=>
  simp
theorem z3g(ns:List Int):cutW (ns.map W.int) none (some 1)=(ns.take 1).map W.int:=by
 unfold cutW;rw[HT.sIx_none,show(1:Int)=((1:Nat):Int)from rfl,HT.sIx_nat,<- w3f,<- w2t];congr 1;cases ns with
 |nil=>rfl
 |cons x ns=>simp
theorem y1a(n:Nat)(ns:List Int)(hl:ns.length<=63):∃ms:List Int,run K a (n+1) q2q [.lst (ns.map .int)]=.ok (.fr (.lst (ms.map .int)))/\ms.length<=ns.length:=by
 rw[q7a];unfold q4j;walk_at "den";rw[z3f,z3g,if_pos (by rw[w0d,w1u];omega),q7j (g:=fun c=>W.int (c / 16*16+8+c%8)) (ns.drop 1) fun c _=>ecell n c]
 walk_at "den";rw[if_pos (by rw[w0d,w0d,w1q,w1u];omega)];refine⟨ns.take 1++(ns.drop 1).map fun c=>c / 16*16+8+c%8,?_,?_⟩
 ·rw[w0n,w2j];rfl
 ·rw[w0h,w0d,w1q,w1u];omega
theorem z3h(ns:List Nd)(r:Nat):eq2 (grW ns r) (grW ns r)=some (.bl true):=by
 have h:=q7k ns;show(if max (depWs (ns.map ndW)+1) (max 0 0)+1<=150 then(match eqWs (ns.map ndW) (ns.map ndW),(match some ((r:Int)==(r:Int)),some true with|some a,some b=>some (a&&b)|_,_=>none)with|some a,some b=>some (a&&b)|_,_=>none).map W.bl else none)=_;rw[if_pos (by omega),q9f,beq_self_eq_true];rfl
theorem cut33(ns:List Int):∃ms:List Int,cutW (ns.map .int) (some 3) (some 33)=ms.map .int/\ms.length<=30:=by
 unfold cutW;rw[<- w3f,<- w2t];refine⟨_,rfl,?_⟩;rw[show(3:Int)=((3:Nat):Int)from rfl,show(33:Int)=((33:Nat):Int)from rfl,HT.sIx_nat,HT.sIx_nat,w1q];omega
theorem y4d(ns:List Nd)(r:Nat):ne2 (grW ns r) (grW ns r)=some (.bl false):=by
 have h:=q7k ns;show(if max (depWs (ns.map ndW)+1) (max 0 0)+1<=150 then(match eqWs (ns.map ndW) (ns.map ndW),(match some ((r:Int)==(r:Int)),some true with|some a,some b=>some (a&&b)|_,_=>none)with|some a,some b=>some (a&&b)|_,_=>none).map (fun b=>W.bl (!b))else none)=_
 rw[if_pos (by omega),q9f,beq_self_eq_true];rfl
noncomputable def forn30(K:PySem.W.Frag)(a:Adr)(r:Nat->List W->FR):List S->SR:=
 (dForN 13 (dCallN (r q0y) (dCons (dC (.str "and")) (dCons (dVar 6) (dCons (dVar 6) dNil)))) (dCallN (r q0y) (dCons (dC (.str "or")) (dCons (dVar 6) (dCons (dTup (dCons (dFz (dLst dNil)) (dCons (dC (.int 0)) dNil))) dNil)))) (dCallN (r q0y) (dCons (dC (.str "and")) (dCons (dTup (dCons (dFz (dLst dNil)) (dCons (dC (.int 1)) dNil))) (dCons (dVar 6) dNil))))
  (q9c K a r)
  (dRet (dAndV (dOp eq2 (dCall (r q0y) (dCons (dC (.str "odd")) (dCons (dVar 6) (dCons (dVar 6) dNil)))) (dTup (dCons (dFz (dLst dNil)) (dCons (dC (.int 0)) dNil)))) (dAndV (dOp eq2 (dCall (r q0y) (dCons (dC (.str "or")) (dCons (dVar 6) (dCons (dVar 6) dNil)))) (dOp ixW (dVar 8) (dC (.int 0)))) (dOp eq2 (dFz (dLst (dCons (dVar 6) (dCons (dVar 7) dNil)))) (dVar 8))))))
noncomputable def mut30(K:PySem.W.Frag)(a:Adr)(r:Nat->List W->FR):List S->SR:=
 (dMutN2 9 10
  (dSeq (dIfS (dOr (dTest (dOp ne2 (dCall (r q2d) (dCons (dCall (r q2d) (dCons (dVar 6) dNil)) dNil)) (dOp ixW (dVar 8) (dC (.int 0))))) (dTest (dOp ne2 (dFz (dLst (dCons (dVar 6) (dCons (dVar 7) dNil)))) (dVar 8))))
  (dRet (dC (.bl false)))
  dNx)
  (forn30 K a r)))
noncomputable def rows30(K:PySem.W.Frag)(a:Adr)(r:Nat->List W->FR):List S->SR:=
 (dSeq (dFor 11 (dCall (r q20) (dCons (dCall (r q04) (dCons (dVar 0) (dCons (dC (.int 2)) dNil))) (dCons (dVar 1) dNil)))
  (q64 K a r))
  (mut30 K a r))
noncomputable def base30(K:PySem.W.Frag)(a:Adr)(r:Nat->List W->FR):List S->SR:=
 (dSeq (dSetNw 9 (dCallN (r q2d) (dCons (dVar 6) dNil)))
  (dSeq (dSetNw 10 (dCallN (r q0y) (dCons (dVar 5) (dCons (dVar 6) (dCons (dVar 7) dNil)))))
  (dSeq (dIfS (dOr (dNot (dTru (dCall (r q09) (dCons (dVar 9) dNil)))) (dOr (dNot (dTru (dCall (r q09) (dCons (dVar 10) dNil)))) (dTest (dOp ne2 (dFz (dLst (dCons (dVar 6) (dCons (dVar 7) dNil)))) (dVar 8)))))
  (dRet (dC (.bl false)))
  dNx)
  (rows30 K a r))))
theorem y3q(K:PySem.W.Frag)(a:Adr)(r:Nat->List W->FR):x1a K a r =
 (dSeq (dSet 1 (dCall (r q21) (dCons (dCall (r q04) (dCons (dVar 0) (dCons (dC (.int 0)) dNil))) dNil)))
  (dSeq (dSet 2 (dCall (r q2q) (dCons (dSl (dVar 0) (dPart (dC (.int 3))) (dPart (dC (.int 33)))) dNil)))
  (dSeq (dSet 3 (dCall (r q1b) (dCons (dSl (dVar 2) dNoPart (dPart (dOp fdivW (dFn len1 (dCons (dVar 2) dNil)) (dC (.int 2))))) (dCons (dVar 1) dNil))))
  (dSeq (dSet 4 (dCall (r q1b) (dCons (dSl (dVar 2) (dPart (dOp fdivW (dFn len1 (dCons (dVar 2) dNil)) (dC (.int 2)))) dNoPart) (dCons (dVar 1) dNil))))
  (dSeq (dSet 5 (dOp ixW (dFz (dLst (dCons (dC (.str "and")) (dCons (dC (.str "or")) (dCons (dC (.str "odd")) dNil))))) (dOp modW (dCall (r q04) (dCons (dVar 0) (dCons (dC (.int 1)) dNil))) (dC (.int 3)))))
  (dSeq (dSet 6 (dCall (r q18) (dCons (dVar 3) dNil)))
  (dSeq (dSet 7 (dCall (r q18) (dCons (dVar 4) dNil)))
  (dSeq (dSet 8 (dFz (dLst (dCons (dTup (dCons (dFz (dList (dCons (dOp ixW (dVar 6) (dC (.int 0))) dNil))) (dCons (dOp ixW (dVar 6) (dC (.int 1))) dNil))) (dCons (dTup (dCons (dFz (dList (dCons (dOp ixW (dVar 7) (dC (.int 0))) dNil))) (dCons (dOp ixW (dVar 7) (dC (.int 1))) dNil))) dNil)))))
  (dBase (base30 K a r)))))))))):=rfl
theorem x8r(n:Nat)(o:O3)(x y:Bool):run K a (n+1) q2g [.str (wd o),.bl x,.bl y]=.ok (.fr (.bl (opB o x y))):=by
 rw[q6l];unfold q3q;cases o
 ·simp only[wd];walk_at "den";rw[y0z];walk_at "den";cases x<;>cases y<;>rfl
 ·simp only[wd];walk_at "den";rw[y00];walk_at "den";cases x<;>cases y<;>rfl
 ·simp only[wd];walk_at "den";cases x<;>cases y<;>rfl
noncomputable def kp(gs1:List Nd)(r1:Nat)(gs2:List Nd)(r2:Nat):W:=.lst [grW gs1 r1,grW gs2 r2]
theorem x1s(ns:List Nd)(r:Nat):eqW (grW ns r) (grW ns r)=some true:=by
 show(match eqWs (ns.map ndW) (ns.map ndW),(match some ((r:Int)==(r:Int)),some true with|some a,some b=>some (a&&b)|_,_=>none)with|some a,some b=>some (a&&b)|_,_=>none)=_;rw[q9f,beq_self_eq_true];rfl
theorem x1t(ns:List Nd)(r:Nat):depW (grW ns r)<=3:=by
 have h:=q7k ns;show max (depWs (ns.map ndW)+1) (max 0 0)+1<=3;omega
theorem z3i(gs1:List Nd)(r1:Nat)(gs2:List Nd)(r2:Nat):eq2 (kp gs1 r1 gs2 r2) (kp gs1 r1 gs2 r2)=some (.bl true):=by
 have h1:=x1t gs1 r1;have h2:=x1t gs2 r2;show(if max (depW (grW gs1 r1)) (max (depW (grW gs2 r2)) 0)+1<=150 then(match eqW (grW gs1 r1) (grW gs1 r1),(match eqW (grW gs2 r2) (grW gs2 r2),some true with|some a,some b=>some (a&&b)|_,_=>none)with|some a,some b=>some (a&&b)|_,_=>none).map W.bl else none)=_;rw[if_pos (by omega),x1s,x1s];rfl
theorem y4e(gs1:List Nd)(r1:Nat)(gs2:List Nd)(r2:Nat):ne2 (kp gs1 r1 gs2 r2) (kp gs1 r1 gs2 r2)=some (.bl false):=by
 have h1:=x1t gs1 r1;have h2:=x1t gs2 r2;show(if max (depW (grW gs1 r1)) (max (depW (grW gs2 r2)) 0)+1<=150 then(match eqW (grW gs1 r1) (grW gs1 r1),(match eqW (grW gs2 r2) (grW gs2 r2),some true with|some a,some b=>some (a&&b)|_,_=>none)with|some a,some b=>some (a&&b)|_,_=>none).map (fun b=>W.bl (!b))else none)=_
 rw[if_pos (by omega),x1s,x1s];rfl
theorem x8s:ixW (kp gs1 r1 gs2 r2) (.int 0)=some (grW gs1 r1):=rfl
theorem y3r(hm:m<=13)(n:Nat)(g:GG m gs r):run K a (n+21) q0y [.str "and", grW gs r,grW gs r]=.ok (.x (.new (grW gs r))):=by
 obtain⟨ns,q,g',s,e⟩:=q2y (K:=K) (a:=a) n .a hm g g;obtain⟨rfl,rfl⟩:=g'.canon g fun row=>by rw[s];show(_&&_)=_;rw[Bool.and_self]
 exact e
theorem y7z(hm:m<=13)(n:Nat)(g:GG m gs r):run K a (n+21) q0y [.str "or", grW gs r,grW gs r]=.ok (.x (.new (grW gs r))):=by
 obtain⟨ns,q,g',s,e⟩:=q2y (K:=K) (a:=a) n .o hm g g;obtain⟨rfl,rfl⟩:=g'.canon g fun row=>by rw[s];show(_||_)=_;rw[Bool.or_self]
 exact e
theorem z3j(hm:m<=13)(n:Nat)(g:GG m gs r):run K a (n+21) q0y [.str "or", grW gs r,.tup [.lst [],.int 0]]=.ok (.x (.new (grW gs r))):=by
 obtain⟨ns,q,g',s,e⟩:=q2y (K:=K) (a:=a) n .o hm g (GG.is (m:=m) false);obtain⟨rfl,rfl⟩:=g'.canon g fun row=>by rw[s];show(_||ev [] row 0)=_;rw[q2k (ns:=[]) (r:=0) (by decide)];exact Bool.or_false _
 exact e
theorem y70(hm:m<=13)(n:Nat)(g:GG m gs r):run K a (n+21) q0y [.str "and", .tup [.lst [],.int 1],grW gs r]=.ok (.x (.new (grW gs r))):=by
 obtain⟨ns,q,g',s,e⟩:=q2y (K:=K) (a:=a) n .a hm (GG.is (m:=m) true) g;obtain⟨rfl,rfl⟩:=g'.canon g fun row=>by rw[s];show(ev [] row 1&&_)=_;rw[q2k (ns:=[]) (r:=1) (by decide)];exact Bool.true_and _
 exact e
theorem y3s(hm:m<=13)(n:Nat)(g:GG m gs r):run K a (n+21) q0y [.str "odd", grW gs r,grW gs r]=.ok (.x (.new (grW [] 0))):=by
 obtain⟨ns,q,g',s,e⟩:=q2y (K:=K) (a:=a) n .d hm g g;obtain⟨rfl,rfl⟩:=g'.canon (GG.is (m:=m) false) fun row=>by rw[s];show(_ != _)=ev [] row 0;rw[q2k (ns:=[]) (r:=0) (by decide),bne_self_eq_false];rfl
 exact e
theorem x8t(r:Nat):oe (oe r)=r:=by
 unfold oe
 by_cases h:r<2
 ·rw[if_pos h,if_pos (by omega)];omega
 ·rw[if_neg h,if_neg h]
theorem y71(ns:List Nd):(ns.map tnd).map tnd=ns:=by
 rw[w2j]
 conv=>rhs;rw[<- List.map_id ns]
 congr 1;funext x
 obtain⟨p,l,h⟩:=x;show((p,oe (oe l),oe (oe h)):Nd)=(p,l,h);rw[x8t,x8t]
theorem q81(n:Nat)(hl:gs1.length<16777215)(w0 w1 w2 w3 w4 w5:W)(z9 z10 z11 z12:S):
  q9c K a (run K a n) [.x (.old w0),.x (.old w1),.x (.old w2),.x (.old w3),.x (.old w4),.x (.old w5),.x (.old (grW gs1 r1)),.x (.old (grW gs2 r2)),.x (.old (kp gs1 r1 gs2 r2)),z9,z10,z11,z12,.x (.new (grW gs1 r1))]
   = .nx [.x (.old w0),.x (.old w1),.x (.old w2),.x (.old w3),.x (.old w4),.x (.old w5),.x (.old (grW gs1 r1)),.x (.old (grW gs2 r2)),.x (.old (kp gs1 r1 gs2 r2)),keepF z9,keepF z10,keepF z11,keepF z12,.no]:=by
 unfold q9c;walk_at "den";rw[x8s];walk_at "den";rw[y4d];walk_at "den";unfold grW;rw[x67,if_pos (by rw[w0d];omega)];rfl
theorem x2j{k:List W->List W->SR}:newR k (.ok (grW gs r) e)=k (gs.map ndW) [.int r]:=by
 unfold grW;rw[x68,q7w];rfl
theorem y3t(hm:m<=13)(g1:GG m gs1 r1)(hl:gs1.length<16777215)(w0 w1 w2 w3 w4 w5:W)(z9 z10 z11 z12 z13:S):
  ∃e',forn30 K a (run K a 150) [.x (.old w0),.x (.old w1),.x (.old w2),.x (.old w3),.x (.old w4),.x (.old w5),.x (.old (grW gs1 r1)),.x (.old (grW gs2 r2)),.x (.old (kp gs1 r1 gs2 r2)),z9,z10,z11,z12,z13]=.rt (.fr (.bl true)) e':=by
 unfold forn30;walk_at "den";have gw:W.tup [W.lst (gs1.map ndW),W.int r1]=grW gs1 r1:=rfl;rw[y3r hm 129 g1];walk_at "den";rw[x2j,z3j hm 129 g1];walk_at "den";rw[x2j,y70 hm 129 g1];walk_at "den";rw[x2j,gw,q81 150 hl];walk_at "den";rw[gw,q81 150 hl];walk_at "den";rw[gw,q81 150 hl];walk_at "den";rw[y3s hm 129 g1];walk_at "den";rw[show eq2 (grW [] 0) (W.tup [W.lst [],W.int 0])=some (.bl true)from rfl];walk_at "den";rw[y7z hm 129 g1];walk_at "den";rw[x8s];walk_at "den";rw[z3h];walk_at "den";rw[show eq2 (W.lst [grW gs1 r1,grW gs2 r2]) (kp gs1 r1 gs2 r2)=some (.bl true)from z3i gs1 r1 gs2 r2];walk_at "den";exact⟨_,rfl⟩
theorem y72(hm:m<=13){go gb:List Nd}{ro rb:Nat}(g1:GG m gs1 r1)(hl:gs1.length<16777215)(ho:go.length<16777215)(hb:gb.length<16777215)(w0 w1 w2 w3 w4 w5:W)(z11 z12 z13:S):
  ∃e',mut30 K a (run K a 150) [.x (.old w0),.x (.old w1),.x (.old w2),.x (.old w3),.x (.old w4),.x (.old w5),.x (.old (grW gs1 r1)),.x (.old (grW gs2 r2)),.x (.old (kp gs1 r1 gs2 r2)),.x (.new (grW go ro)),.x (.new (grW gb rb)),z11,z12,z13]=.rt (.fr (.bl true)) e':=by
 unfold mut30;walk_at "den";rw[show ∀d e,mutN2K d e (some (S.x (SK.new (grW go ro)))) (some (S.x (SK.new (grW gb rb))))=if(go.map ndW).length<16777215/\(gb.map ndW).length<16777215 then d (e.map rew)else .no from fun d e=>rfl,if_pos (by rw[w0d,w0d];exact⟨ho,hb⟩)]
 walk_at "den";rw[q50 147 r1 (by omega)];walk_at "den";rw[q50 147 (oe r1) (by rw[w0d];omega),y71,x8t];walk_at "den";rw[x8s];walk_at "den";rw[y4d];walk_at "den";rw[show ne2 (W.lst [grW gs1 r1,grW gs2 r2]) (kp gs1 r1 gs2 r2)=some (.bl false)from y4e gs1 r1 gs2 r2];walk_at "den";exact y3t hm g1 hl _ _ _ _ _ _ _ _ _ _ _
theorem y3u(n:Nat){o:O3}{f1 f2:Fm}{go gb:List Nd}{ro rb:Nat}(g1:GG m go ro)(gB:GG m gb rb)(h1:go.length<=16384)(h2:gb.length<=16384)(s1:∀row,ev go row ro=!f1.vf row)(s2:∀row,ev gb row rb=opB o (f1.vf row) (f2.vf row))(d1:f1.depth<=n+1)(d2:f2.depth<=n+1)(b1:f1.inb m)(b2:f2.inb m)(hr:row.length=m)(w0 w1 w2 w6 w7 w8:W)(z12 z13:S):
  ∃z12',q64 K a (run K a (n+1)) [.x (.old w0),.x (.old w1),.x (.old w2),.x (.old (enc f1)),.x (.old (enc f2)),.x (.old (.str (wd o))),.x (.old w6),.x (.old w7),.x (.old w8),.x (.new (grW go ro)),.x (.new (grW gb rb)),.fr (rowW row),z12,z13]
   = .nx [.x (.old w0),.x (.old w1),.x (.old w2),.x (.old (enc f1)),.x (.old (enc f2)),.x (.old (.str (wd o))),.x (.old w6),.x (.old w7),.x (.old w8),.x (.new (grW go ro)),.x (.new (grW gb rb)),.fr (rowW row),z12',z13]:=by
 refine⟨.fr (.lst [.bl (f1.val row),.bl (f2.val row)]),?_⟩;unfold q64 rowW;walk_at "den";rw[q3d f1 (n+1) d1 (by rw[hr];exact b1)];walk_at "den";rw[q3d f2 (n+1) d2 (by rw[hr];exact b2)];walk_at "den";rw[q9v n g1 h1 (by omega),s1,q4z];walk_at "den";rw[if_neg (by cases f1.val row<;>simp),q9v n gB h2 (by omega),s2,q4z,q4z];walk_at "den";rw[x8r n];walk_at "den"
theorem y3v{o:O3}(hm:m<=12){f1 f2:Fm}{go gb:List Nd}{ro rb:Nat}(g:GG m gs1 r1)(hl:gs1.length<=16384)(g1:GG m go ro)(gB:GG m gb rb)(h1:go.length<=16384)(h2:gb.length<=16384)(s1:∀row,ev go row ro=!f1.vf row)(s2:∀row,ev gb row rb=opB o (f1.vf row) (f2.vf row))(d1:f1.depth<=128)(d2:f2.depth<=128)(b1:f1.inb m)(b2:f2.inb m)(ns:List Int)(w2:W):
  ∃e',rows30 K a (run K a 150) [.x (.old (.lst (ns.map .int))),.x (.old (.int m)),.x (.old w2),.x (.old (enc f1)),.x (.old (enc f2)),.x (.old (.str (wd o))),.x (.old (grW gs1 r1)),.x (.old (grW gs2 r2)),.x (.old (kp gs1 r1 gs2 r2)),.x (.new (grW go ro)),.x (.new (grW gb rb)),.no,.no,.no]=.rt (.fr (.bl true)) e':=by
 unfold rows30;walk_at "den";rw[x0l 149 ns (by decide)];walk_at "den";obtain⟨rows,q1,q2,q3⟩:=y09 (K:=K) (a:=a) 146 (ns.getD 2 0) m hm;rw[q1];walk_at "den"
 obtain⟨e',p1,z11,z12,rfl⟩:=q7h (i:=11) (b:=q64 K a (run K a 150)) (fun _ e=>∃z11 z12,e=[.x (.old (.lst (ns.map .int))),.x (.old (.int m)),.x (.old w2),.x (.old (enc f1)),.x (.old (enc f2)),.x (.old (.str (wd o))),.x (.old (grW gs1 r1)),.x (.old (grW gs2 r2)),.x (.old (kp gs1 r1 gs2 r2)),.x (.new (grW go ro)),.x (.new (grW gb rb)),z11,z12,.no]) (rows.map rowW) 0 [.x (.old (.lst (ns.map .int))),.x (.old (.int m)),.x (.old w2),.x (.old (enc f1)),.x (.old (enc f2)),.x (.old (.str (wd o))),.x (.old (grW gs1 r1)),.x (.old (grW gs2 r2)),.x (.old (kp gs1 r1 gs2 r2)),.x (.new (grW go ro)),.x (.new (grW gb rb)),.no,.no,.no] ⟨_,_,rfl⟩ (by
  rintro j w e hw ⟨z11,z12,rfl⟩;obtain⟨row,hrow,rfl⟩:=w1x.mp hw;obtain⟨z12',h⟩:=y3u (K:=K) (a:=a) 149 g1 gB h1 h2 s1 s2 (by omega) (by omega) b1 b2 (q3 row hrow) (.lst (ns.map .int)) (.int m) w2 (grW gs1 r1) (grW gs2 r2) (kp gs1 r1 gs2 r2) z12 .no;exact⟨_,h,_,_,rfl⟩)
 rw[p1];walk_at "den";exact y72 (by omega) g (by omega) (by omega) (by omega) _ _ _ _ _ _ _ _ _
theorem y3w(M:Exs K mg a){o:O3}(hm:m<=12){f1 f2:Fm}(g1:GG m gs1 r1)(g2:GG m gs2 r2)(s1:∀row,ev gs1 row r1=f1.vf row)(s2:∀row,ev gs2 row r2=f2.vf row)(d1:f1.depth<=128)(d2:f2.depth<=128)(b1:f1.inb m)(b2:f2.inb m)(ns:List Int)(w2:W):
  ∃e',base30 K a (run K a 150) [.x (.old (.lst (ns.map .int))),.x (.old (.int m)),.x (.old w2),.x (.old (enc f1)),.x (.old (enc f2)),.x (.old (.str (wd o))),.x (.old (grW gs1 r1)),.x (.old (grW gs2 r2)),.x (.old (kp gs1 r1 gs2 r2)),.no,.no,.no,.no,.no]=.rt (.fr (.bl true)) e':=by
 have hpw:2^(m+1)<=16384:=w1y (by decide) (show m+1<=14 by omega);obtain⟨gb,rb,gB,sb,eb⟩:=q2y (K:=K) (a:=a) 129 o (show m<=13 by omega) g1 g2;have z1:=g1.sz;have zb:=gB.sz;have zt:=g1.turn.sz;unfold base30;walk_at "den";rw[q50 147 r1 (by omega)];walk_at "den";rw[eb];walk_at "den";rw[x28 M 147 g1.turn (by omega)];walk_at "den";rw[x28 M 147 gB (by omega)];walk_at "den";rw[show ne2 (W.lst [grW gs1 r1,grW gs2 r2]) (kp gs1 r1 gs2 r2)=some (.bl false)from y4e gs1 r1 gs2 r2];walk_at "den";exact y3v hm g1 (by omega) g1.turn gB (by omega) (by omega) (fun row=>by rw[q9b g1.ok row (r1+1) r1 (w1h _) g1.lt,s1]) (fun row=>by rw[sb,s1,s2]) d1 d2 b1 b2 ns w2
theorem z3k(c:Int):∃o:O3,atI [W.str "and", W.str "or", W.str "odd"] (c%3)=some (.str (wd o)):=by
 have h:c%3=0\/c%3=1\/c%3=2:=by omega
 rcases h with h|h|h<;>rw[h]
 ·exact⟨.a,rfl⟩
 ·exact⟨.o,rfl⟩
 ·exact⟨.d,rfl⟩
theorem y3x(M:Exs K mg a)(ns:List Int)(hl:ns.length<=63):run K a 151 q6r [.lst (ns.map .int)]=.ok (.fr (.bl true)):=by
 rw[x69,y3q];walk_at "den";rw[x0l 149 ns (by decide)];walk_at "den";rw[y3p 149];walk_at "den";obtain⟨ms,e1,e2⟩:=cut33 ns;rw[e1];obtain⟨cs,e3,e4⟩:=y1a (K:=K) (a:=a) 149 ms (by omega);rw[e3];walk_at "den";generalize hm:(if 8<ns.getD 0 0%16 then 6+ns.getD 0 0 / 16%7 else ns.getD 0 0%16%6)=mm;have hm0:0<=mm/\mm<=12:=by subst hm;split<;>omega
 obtain⟨m,rfl⟩:∃m:Nat,mm=(m:Int):=⟨mm.toNat,by omega⟩;have hc:((((cs.map W.int).length:Nat):Int) / 2)=((cs.length / 2:Nat):Int):=by rw[w0d];omega
 obtain⟨f1,p1,p2,p3⟩:=x5v (K:=K) (a:=a) 146 (cs.take (cs.length / 2)) m (by rw[w1q];omega);obtain⟨f2,q1,q2,q3⟩:=x5v (K:=K) (a:=a) 146 (cs.drop (cs.length / 2)) m (by rw[w1u];omega);rw[w1q]at p3;rw[w1u]at q3;rw[hc,z1f (by rw[w0d];omega),<- w2t,p1];walk_at "den";rw[hc,y3o (by rw[w0d];omega),<- w3f,q1];walk_at "den";rw[x0l 149 ns (by decide)];walk_at "den";obtain⟨o,ho⟩:=z3k (ns.getD 1 0);rw[show atI [W.str (Str.ofString "and"),W.str (Str.ofString "or"),W.str (Str.ofString "odd")] (ns.getD 1 0%3)=some (.str (wd o))from ho];walk_at "den";obtain⟨gs1,r1,g1,s1,e5⟩:=q3e (K:=K) (a:=a) (show m<=13 by omega) f1 128 (by omega) p2;obtain⟨gs2,r2,g2,s2,e6⟩:=q3e (K:=K) (a:=a) (show m<=13 by omega) f2 128 (by omega) q2;rw[e5];walk_at "den";rw[e6];walk_at "den";rw[x52];walk_at "den";rw[q8y];walk_at "den";rw[x52];walk_at "den";rw[q8y];walk_at "den";obtain⟨e',h⟩:=y3w (o:=o) M (show m<=12 by omega) g1 g2 s1 s2 (by omega) (by omega) p2 q2 ns (.lst (cs.map .int));rw[show W.lst [W.tup [W.lst (gs1.map ndW),W.int r1],W.tup [W.lst (gs2.map ndW),W.int r2]]=kp gs1 r1 gs2 r2 from rfl,h];walk_at "den"
theorem walk{l:PySem.W.OpenLaw}{q:Program}{loose:List Str}{XP:(Str->Option Value)->Heap->Prop}{YP:World->Heap->Prop}{d:DefRec}{K:Params->PySem.W.Frag}{tabs:List (Addr×Str)}(hn:l.most=some 63)(hdf:d.params.defaults=[])
  (hY:∀(w:World)(h:Heap),YP w h->(K w.params).In h)(hT:∀(w:World)(h:Heap),YP w h->∀P∈tabs.map (·.1),h.get? P=some (tabObj #[]))
  (hG:∀w:World,((D.dropT (K w.params)).lookup mainGlobals).isSome=true)(hNM:∀w:World,noMark (K w.params)=true)(hd:tabs.all (fun p=>tabs.lookup p.1==some p.2)=true)
  (hK:∀w:World,tabs.all (fun p=>((D.dropT (K w.params)).lookup p.1).isNone)=true)(hc:∀w:World,∀p∈tabs,∃c,codeHdIn (K w.params) c p.1=true)
  (F:∀(w:World)(mg:Str->Option Value)(fa:Addr)(h:Heap),(D.markT (D.dropT (K w.params)) tabs).In h->h.Ns mainGlobals mg->mg d.name=some (.ref fa) ->
   ∃fd:FuncData,(∀(s:Shared)(u:Value),BindsTo s fd ⟨[u],[]⟩ [("_law_script", u)])/\∀base:Heap,(D.markT (D.dropT (K w.params)) tabs).In base->base.Ns mainGlobals mg->BMain base mg->FnOk l.prog w (D.markT (D.dropT (K w.params)) tabs) mg base (CX1 l.prog w) 151 fa fd ["_law_script"] (spLaw (D.markT (D.dropT (K w.params)) tabs))):
  PySem.W.WalkO q loose XP YP l.row.toRowW d [] (fun f vs=>PySem.call f vs):=
 L2.y2q (K:=fun p=>D.markT (D.dropT (K p)) tabs) (tabs:=tabs) (n:=63) (k:=151) (x:="_law_script") (CX:=fun w=>CX1 l.prog w) (sp:=fun w=>spLaw (D.markT (D.dropT (K w.params)) tabs)) hn (by decide) hdf ⟨rfl,by decide,by decide,rfl⟩ (fun w h Y=>D.in_m (hG w) (D.y2n (hY w h Y))) F (fun _ _ a ns hl hS=>⟨a,ns,rfl,hS,hl,fun _=>rfl⟩) (fun _ _ _ _ _ z=>y82 z)
  (fun w=>D.x8b (D.x6a (hNM w)) hd) (fun w h Y=>D.y6p (hY w h Y) (hT w h Y) (hc w)) (fun w=>D.tabs_none (hG w) (hK w))
end Q
open PySem PySem.W PyProof.Rows
set_option maxRecDepth 100000 in
set_option maxHeartbeats 0 in
theorem PySem.Challenge.cw_circuits_k30_turned_and_joined_holds : PySem.Challenge.rw_circuits_k30_turned_and_joined.Holds := by
 w_on; o_law; k_head; (case hw => w_witness2)
 k_fill
 refine Q.walk (l := PySem.Challenge.rw_circuits_k30_turned_and_joined) (tabs := [(84, ("joined" ++ ".<locals>.") ++ "<lambda>")]) rfl rfl (fun w h Y => PySem.W.km_in_of Y) (fun w h Y => PySem.W.km_tabs_of Y) (fun w => by kernel_rfl) (fun w => by kernel_rfl) (by decide +kernel) (fun w => by kernel_rfl) (fun w => List.forall_mem_cons.mpr ⟨⟨88, by kernel_rfl⟩, fun _ h => nomatch h⟩) ?F
 case F =>
  intro w mg fa h KX G hmg;refine' Q.mk KX G hmg ?a0 ?l0 ?c0 ?k0 ?a1 ?l1 ?c1 ?k1 ?a2 ?l2 ?c2 ?k2 ?a3 ?l3 ?c3 ?k3 ?a4 ?l4 ?c4 ?k4 ?a5 ?l5 ?c5 ?k5 ?a6 ?l6 ?c6 ?k6 ?a7 ?l7 ?c7 ?k7 ?a8 ?l8 ?c8 ?k8 ?a9 ?l9 ?c9 ?k9 ?a10 ?l10 ?c10 ?k10 ?a11 ?l11 ?c11 ?k11 ?a12 ?l12 ?c12 ?k12 ?a13 ?l13 ?c13 ?k13 ?a14 ?l14 ?c14 ?k14 ?a15 ?l15 ?c15 ?k15 ?a16 ?l16 ?c16 ?k16 ?a17 ?l17 ?c17 ?k17 ?a18 ?l18 ?c18 ?k18 ?a19 ?l19 ?c19 ?k19 ?a20 ?l20 ?c20 ?k20 ?a21 ?l21 ?c21 ?k21 ?a22 ?l22 ?c22 ?k22 ?a23 ?l23 ?c23 ?k23 ?a24 ?l24 ?c24 ?k24 ?a25 ?l25 ?c25 ?k25 ?a26 ?l26 ?c26 ?k26 ?a27 ?l27 ?c27 ?k27 ?a28 ?l28 ?c28 ?k28 ?a29 ?l29 ?c29 ?k29 ?a30 ?l30 ?c30 ?k30 ?a31 ?l31 ?c31 ?k31 ?a32 ?l32 ?c32 ?k32 ?a33 ?l33 ?c33 ?k33 ?v10 ?h10 ?m10 ?z_all ?z_bool ?z_int ?z_isinstance ?z_len ?z_list ?z_max ?z_min ?z_range ?z_tuple ?t_NoneType_int ?t_bool_int ?t_int_int ?t_str_int ?t_tuple_int ?t_list_int ?t_NoneType_bool ?t_bool_bool ?t_int_bool ?t_str_bool ?t_tuple_bool ?t_list_bool ?t_NoneType_tuple ?t_bool_tuple ?t_int_tuple ?t_str_tuple ?t_tuple_tuple ?t_list_tuple ?t_NoneType_list ?t_bool_list ?t_int_list ?t_str_list ?t_tuple_list ?t_list_list ?nt 150 ?hL
  (case a0 => exact D.ns_m (D.q0l (by k_is) (by kernel_rfl)))
  (case l0 => exact D.q0t (D.q0j (by k_is) (by kernel_rfl)))
  (case c0 => exact D.q0v (D.q0m (by k_is) (by kernel_rfl)))
  (case k0 => exact D.q0w (by kernel_rfl))
  (case a1 => exact D.ns_m (D.q0l (by k_is) (by kernel_rfl)))
  (case l1 => exact D.q0t (D.q0j (by k_is) (by kernel_rfl)))
  (case c1 => exact D.q0v (D.q0m (by k_is) (by kernel_rfl)))
  (case k1 => exact D.q0w (by kernel_rfl))
  (case a2 => exact D.ns_m (D.q0l (by k_is) (by kernel_rfl)))
  (case l2 => exact D.q0t (D.q0j (by k_is) (by kernel_rfl)))
  (case c2 => exact D.q0v (D.q0m (by k_is) (by kernel_rfl)))
  (case k2 => exact D.q0w (by kernel_rfl))
  (case a3 => exact D.ns_m (D.q0l (by k_is) (by kernel_rfl)))
  (case l3 => exact D.q0t (D.q0j (by k_is) (by kernel_rfl)))
  (case c3 => exact D.q0v (D.q0m (by k_is) (by kernel_rfl)))
  (case k3 => exact D.q0w (by kernel_rfl))
  (case a4 => exact D.ns_m (D.q0l (by k_is) (by kernel_rfl)))
  (case l4 => exact D.q0t (D.q0j (by k_is) (by kernel_rfl)))
  (case c4 => exact D.q0v (D.q0m (by k_is) (by kernel_rfl)))
  (case k4 => exact D.q0w (by kernel_rfl))
  (case a5 => exact D.ns_m (D.q0l (by k_is) (by kernel_rfl)))
  (case l5 => exact D.q0t (D.q0j (by k_is) (by kernel_rfl)))
  (case c5 => exact D.q0v (D.q0m (by k_is) (by kernel_rfl)))
  (case k5 => exact D.q0w (by kernel_rfl))
  (case a6 => exact D.ns_m (D.q0l (by k_is) (by kernel_rfl)))
  (case l6 => exact D.q0t (D.q0j (by k_is) (by kernel_rfl)))
  (case c6 => exact D.q0v (D.q0m (by k_is) (by kernel_rfl)))
  (case k6 => exact D.q0w (by kernel_rfl))
  (case a7 => exact D.ns_m (D.q0l (by k_is) (by kernel_rfl)))
  (case l7 => exact D.q0t (D.q0j (by k_is) (by kernel_rfl)))
  (case c7 => exact D.q0v (D.q0m (by k_is) (by kernel_rfl)))
  (case k7 => exact D.q0w (by kernel_rfl))
  (case a8 => exact D.ns_m (D.q0l (by k_is) (by kernel_rfl)))
  (case l8 => exact D.q0t (D.q0j (by k_is) (by kernel_rfl)))
  (case c8 => exact D.q0v (D.q0m (by k_is) (by kernel_rfl)))
  (case k8 => exact D.q0w (by kernel_rfl))
  (case a9 => exact D.ns_m (D.q0l (by k_is) (by kernel_rfl)))
  (case l9 => exact D.q0t (D.q0j (by k_is) (by kernel_rfl)))
  (case c9 => exact D.q0v (D.q0m (by k_is) (by kernel_rfl)))
  (case k9 => exact D.q0w (by kernel_rfl))
  (case a10 => exact D.ns_m (D.q0l (by k_is) (by kernel_rfl)))
  (case l10 => exact D.q0t (D.q0j (by k_is) (by kernel_rfl)))
  (case c10 => exact D.q0v (D.q0m (by k_is) (by kernel_rfl)))
  (case k10 => exact D.q0w (by kernel_rfl))
  (case a11 => exact D.ns_m (D.q0l (by k_is) (by kernel_rfl)))
  (case l11 => exact D.q0t (D.q0j (by k_is) (by kernel_rfl)))
  (case c11 => exact D.q0v (D.q0m (by k_is) (by kernel_rfl)))
  (case k11 => exact D.q0w (by kernel_rfl))
  (case a12 => exact D.ns_m (D.q0l (by k_is) (by kernel_rfl)))
  (case l12 => exact D.q0t (D.q0j (by k_is) (by kernel_rfl)))
  (case c12 => exact D.q0v (D.q0m (by k_is) (by kernel_rfl)))
  (case k12 => exact D.q0w (by kernel_rfl))
  (case a13 => exact D.ns_m (D.q0l (by k_is) (by kernel_rfl)))
  (case l13 => exact D.q0t (D.q0j (by k_is) (by kernel_rfl)))
  (case c13 => exact D.q0v (D.q0m (by k_is) (by kernel_rfl)))
  (case k13 => exact D.q0w (by kernel_rfl))
  (case a14 => exact D.ns_m (D.q0l (by k_is) (by kernel_rfl)))
  (case l14 => exact D.q0t (D.q0j (by k_is) (by kernel_rfl)))
  (case c14 => exact D.q0v (D.q0m (by k_is) (by kernel_rfl)))
  (case k14 => exact D.q0w (by kernel_rfl))
  (case a15 => exact D.ns_m (D.q0l (by k_is) (by kernel_rfl)))
  (case l15 => exact D.q0t (D.q0j (by k_is) (by kernel_rfl)))
  (case c15 => exact D.q0v (D.q0m (by k_is) (by kernel_rfl)))
  (case k15 => exact D.q0w (by kernel_rfl))
  (case a16 => exact D.ns_m (D.q0l (by k_is) (by kernel_rfl)))
  (case l16 => exact D.q0t (D.q0j (by k_is) (by kernel_rfl)))
  (case c16 => exact D.q0v (D.q0m (by k_is) (by kernel_rfl)))
  (case k16 => exact D.q0w (by kernel_rfl))
  (case a17 => exact D.ns_m (D.q0l (by k_is) (by kernel_rfl)))
  (case l17 => exact D.q0t (D.q0j (by k_is) (by kernel_rfl)))
  (case c17 => exact D.q0v (D.q0m (by k_is) (by kernel_rfl)))
  (case k17 => exact D.q0w (by kernel_rfl))
  (case a18 => exact D.ns_m (D.q0l (by k_is) (by kernel_rfl)))
  (case l18 => exact D.q0t (D.q0j (by k_is) (by kernel_rfl)))
  (case c18 => exact D.q0v (D.q0m (by k_is) (by kernel_rfl)))
  (case k18 => exact D.q0w (by kernel_rfl))
  (case a19 => exact D.ns_m (D.q0l (by k_is) (by kernel_rfl)))
  (case l19 => exact D.q0t (D.q0j (by k_is) (by kernel_rfl)))
  (case c19 => exact D.q0v (D.q0m (by k_is) (by kernel_rfl)))
  (case k19 => exact D.q0w (by kernel_rfl))
  (case a20 => exact D.ns_m (D.q0l (by k_is) (by kernel_rfl)))
  (case l20 => exact D.q0t (D.q0j (by k_is) (by kernel_rfl)))
  (case c20 => exact D.q0v (D.q0m (by k_is) (by kernel_rfl)))
  (case k20 => exact D.q0w (by kernel_rfl))
  (case a21 => exact D.ns_m (D.q0l (by k_is) (by kernel_rfl)))
  (case l21 => exact D.q0t (D.q0j (by k_is) (by kernel_rfl)))
  (case c21 => exact D.q0v (D.q0m (by k_is) (by kernel_rfl)))
  (case k21 => exact D.q0w (by kernel_rfl))
  (case a22 => exact D.ns_m (D.q0l (by k_is) (by kernel_rfl)))
  (case l22 => exact D.q0t (D.q0j (by k_is) (by kernel_rfl)))
  (case c22 => exact D.q0v (D.q0m (by k_is) (by kernel_rfl)))
  (case k22 => exact D.q0w (by kernel_rfl))
  (case a23 => exact D.ns_m (D.q0l (by k_is) (by kernel_rfl)))
  (case l23 => exact D.q0t (D.q0j (by k_is) (by kernel_rfl)))
  (case c23 => exact D.q0v (D.q0m (by k_is) (by kernel_rfl)))
  (case k23 => exact D.q0w (by kernel_rfl))
  (case a24 => exact D.ns_m (D.q0l (by k_is) (by kernel_rfl)))
  (case l24 => exact D.q0t (D.q0j (by k_is) (by kernel_rfl)))
  (case c24 => exact D.q0v (D.q0m (by k_is) (by kernel_rfl)))
  (case k24 => exact D.q0w (by kernel_rfl))
  (case a25 => exact D.ns_m (D.q0l (by k_is) (by kernel_rfl)))
  (case l25 => exact D.q0t (D.q0j (by k_is) (by kernel_rfl)))
  (case c25 => exact D.q0v (D.q0m (by k_is) (by kernel_rfl)))
  (case k25 => exact D.q0w (by kernel_rfl))
  (case a26 => exact D.ns_m (D.q0l (by k_is) (by kernel_rfl)))
  (case l26 => exact D.q0t (D.q0j (by k_is) (by kernel_rfl)))
  (case c26 => exact D.q0v (D.q0m (by k_is) (by kernel_rfl)))
  (case k26 => exact D.q0w (by kernel_rfl))
  (case a27 => exact D.ns_m (D.q0l (by k_is) (by kernel_rfl)))
  (case l27 => exact D.q0t (D.q0j (by k_is) (by kernel_rfl)))
  (case c27 => exact D.q0v (D.q0m (by k_is) (by kernel_rfl)))
  (case k27 => exact D.q0w (by kernel_rfl))
  (case a28 => exact D.ns_m (D.q0l (by k_is) (by kernel_rfl)))
  (case l28 => exact D.q0t (D.q0j (by k_is) (by kernel_rfl)))
  (case c28 => exact D.q0v (D.q0m (by k_is) (by kernel_rfl)))
  (case k28 => exact D.q0w (by kernel_rfl))
  (case a29 => exact D.ns_m (D.q0l (by k_is) (by kernel_rfl)))
  (case l29 => exact D.q0t (D.q0j (by k_is) (by kernel_rfl)))
  (case c29 => exact D.q0v (D.q0m (by k_is) (by kernel_rfl)))
  (case k29 => exact D.q0w (by kernel_rfl))
  (case a30 => exact D.ns_m (D.q0l (by k_is) (by kernel_rfl)))
  (case l30 => exact D.q0t (D.q0j (by k_is) (by kernel_rfl)))
  (case c30 => exact D.q0v (D.q0m (by k_is) (by kernel_rfl)))
  (case k30 => exact D.q0w (by kernel_rfl))
  (case a31 => exact D.ns_m (D.q0l (by k_is) (by kernel_rfl)))
  (case l31 => exact D.q0t (D.q0j (by k_is) (by kernel_rfl)))
  (case c31 => exact D.q0v (D.q0m (by k_is) (by kernel_rfl)))
  (case k31 => exact D.q0w (by kernel_rfl))
  (case a32 => exact D.ns_m (D.q0l (by k_is) (by kernel_rfl)))
  (case l32 => exact D.q0t (D.q0j (by k_is) (by kernel_rfl)))
  (case c32 => exact D.q0v (D.q0m (by k_is) (by kernel_rfl)))
  (case k32 => exact D.q0w (by kernel_rfl))
  (case a33 => exact D.ns_m (D.q0l (by k_is) (by kernel_rfl)))
  (case l33 => exact D.q0t (D.q0j (by k_is) (by kernel_rfl)))
  (case c33 => exact D.q0v (D.q0m (by k_is) (by kernel_rfl)))
  (case k33 => exact D.q0w (by kernel_rfl))
  (case v10 => exact rfl)
  (case h10 => exact (show codeHdIn _ _ 84 = true by kernel_rfl))
  (case m10 => exact w0k _ (by simp))
  (case z_all => exact D.ns_m (D.q0l (by k_is) (by kernel_rfl)))
  (case z_bool => exact D.ns_m (D.q0l (by k_is) (by kernel_rfl)))
  (case z_int => exact D.ns_m (D.q0l (by k_is) (by kernel_rfl)))
  (case z_isinstance => exact D.ns_m (D.q0l (by k_is) (by kernel_rfl)))
  (case z_len => exact D.ns_m (D.q0l (by k_is) (by kernel_rfl)))
  (case z_list => exact D.ns_m (D.q0l (by k_is) (by kernel_rfl)))
  (case z_max => exact D.ns_m (D.q0l (by k_is) (by kernel_rfl)))
  (case z_min => exact D.ns_m (D.q0l (by k_is) (by kernel_rfl)))
  (case z_range => exact D.ns_m (D.q0l (by k_is) (by kernel_rfl)))
  (case z_tuple => exact D.ns_m (D.q0l (by k_is) (by kernel_rfl)))
  (case t_NoneType_int => kernel_rfl)
  (case t_bool_int => kernel_rfl)
  (case t_int_int => kernel_rfl)
  (case t_str_int => kernel_rfl)
  (case t_tuple_int => kernel_rfl)
  (case t_list_int => kernel_rfl)
  (case t_NoneType_bool => kernel_rfl)
  (case t_bool_bool => kernel_rfl)
  (case t_int_bool => kernel_rfl)
  (case t_str_bool => kernel_rfl)
  (case t_tuple_bool => kernel_rfl)
  (case t_list_bool => kernel_rfl)
  (case t_NoneType_tuple => kernel_rfl)
  (case t_bool_tuple => kernel_rfl)
  (case t_int_tuple => kernel_rfl)
  (case t_str_tuple => kernel_rfl)
  (case t_tuple_tuple => kernel_rfl)
  (case t_list_tuple => kernel_rfl)
  (case t_NoneType_list => kernel_rfl)
  (case t_bool_list => kernel_rfl)
  (case t_int_list => kernel_rfl)
  (case t_str_list => kernel_rfl)
  (case t_tuple_list => kernel_rfl)
  (case t_list_list => kernel_rfl)
  (case nt => exact D.no_m (by kernel_rfl) D.y2o)
  (case hL => exact fun a M ns hl => Q.y3x M ns hl)
