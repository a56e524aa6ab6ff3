import PyProof.Rows.All
import Wide.All
import OpenK.AllK
import Wide.FinOn
import PyProof.TupleKey
import PyProof.EqAt
import PyProof.EqKinds
import Wide.Seal
import Lean
import PyProof.TupleCall
import KE.KTryMore
import KE.KRevIter
import PyProof.CollectIter
import PyProof.ConsumeWalk
import PyProof.TupleOfStr
import KE.KIsAll
import PyProof.ExcArgs
import PyProof.ExcAttrAll.ValueError
import PyProof.CompUse
import PyProof.NeKinds
import PyProof.EnumIter
import PyProof.EnumFor
import PyProof.EnumMake
import PyProof.EnumStmt
import PyProof.ListMulRoad
import PyProof.ZipIter
import PyProof.TupleIter
import PyProof.Rows.SortWalk
import PyProof.SetKind
import PyProof.Rows.SetFrom
import PyProof.FactsAll.set_1
import KE.KDictSum
import PyProof.FactsAll.set_2
import PyProof.FactsAll.tuple_2
import PyProof.ReprRoads
import PyProof.Rows.SeqMore
import PyProof.ReprLen
import PyProof.WalkInts
import PyProof.SeqI3
import PyProof.Rows.TupIter
import PyProof.ListRange
import PyProof.SumWalk
import PyProof.DictIter
import PyProof.DictWalks
import PyProof.DictRoadsH
import PyProof.DictTruth
import KE.KDictList
import PyProof.Rows.TupDisplay
import PyProof.Rows.SortRunsK
import PyProof.Rows.SortShellK
import PyProof.Rows.SortKeyStr
import PyProof.Rows.SortPure
import PyProof.Rows.RuleB_bool
import PyProof.Rows.IntRules
import KE.RegMulBits
import PyProof.Draws
import PyProof.StrBlockI
import PyProof.StrLawsIn
import PyProof.StrOps2
import PyProof.ReprStr
import PyProof.ListNew
import PyProof.Rows.SortRev
import PySem.Challenge.RW_circuits_k49_partings_part
set_option Elab.async false
set_option linter.all false
set_option maxRecDepth 100000
set_option maxHeartbeats 1000000
local macro_rules | `(tactic| omega) => `(tactic| first | with_reducible assumption | decide | with_reducible exact Nat.le_refl _ | with_reducible exact Nat.zero_le _ | lia)
set_option genSizeOf false
set_option genInjectivity false
local macro_rules | `(tactic| walk_at "1") => `(tactic| (first | exact Or.inl rfl | exact Or.inr (Or.inl rfl) | exact Or.inr (Or.inr rfl)))
local macro_rules | `(tactic| walk_at "2") => `(tactic| (first | exact .inl rfl | exact .inr rfl | assumption))
local macro_rules | `(tactic| walk_at "3") => `(tactic| (first | exact Or.inl rfl | exact Or.inr rfl))
open PySem.W (findIn hideAll_get keepIn kia_one kitOne methodObj mg_none_of mg_of pyHash_slot specialIn takesIn)
def w0a:=@List.getElem?_eq_some_iff
def w0b:=@Option.map_eq_some_iff
def w0c:=@List.length_map
def w0d:=@List.getElem?_eq_getElem
def w0e:=@List.getElem?_set_ne
def w0f:=@List.getElem?_map
def w0g:=@List.getElem?_set_self
def w0h:=@List.size_toArray
def w0i:=@Nat.le_refl
def w0j:=@List.mem_cons
def w0k:=@Bool.false_eq_true
def w0l:=@Bool.false_ne_true
def w0m:=@List.mem_cons_of_mem
def w0n:=@Nat.lt_of_lt_of_le
def w0o:=@List.mem_append_right
def w0p:=@List.length_cons
def w0q:=@Nat.ne_of_lt
def w0r:=@List.getElem?_cons_succ
def w0s:=@List.mem_cons_self
def w0t:=@List.map_append
def w0u:=@Nat.le_trans
def w0v:=@List.map_cons
def w0w:=@Nat.zero_le
def w0x:=@List.replicate_succ
def w0y:=@List.mem_of_getElem?
def w0z:=@List.mem_map
def w1a:=@List.lookup_cons
def w1b:=@List.length_append
def w1c:=@List.all_eq_true
def w1d:=@List.flatten_cons
def w1e:=@Array.getElem?_eq_getElem
def w1f:=@List.length_replicate
def w1g:=@List.mem_singleton
def w1h:=@List.mem_append_left
def w1i:=@Nat.pow_le_pow_right
def w1j:=@Bool.not_true
def w1k:=@Bool.and_eq_true
def w1l:=@List.getElem_mem
def w1m:=@Array.getElem?_toList
def w1n:=@List.mem_range
def w1o:=@List.forIn_cons
def w1p:=@Bool.eq_false_iff
def w1q:=@List.mem_append
def w1r:=@List.append_nil
def w1s:=@List.foldl_cons
def w1t:=@Int.toNat_natCast
def w1u:=@List.map_map
def w1v:=@Option.bind_eq_some_iff
def w1w:=@List.getElem?_eq_none
def w1x:=@List.find?_cons
def w1y:=@Nat.lt_irrefl
def w1z:=@List.append_assoc
def w2a:=@Nat.lt_succ_of_lt
def w2b:=@List.getElem?_append_right
def w2c:=@List.getElem?_append_left
def w2d:=@List.drop_eq_getElem_cons
def w2e:=@List.not_mem_nil
def w2f:=@List.mem_map_of_mem
def w2g:=@List.mem_filterMap
def w2h:=@List.nodup_cons
def w2i:=@List.getElem?_replicate
def w2j:=@List.filter_cons_of_pos
def w2k:=@Int.emod_nonneg
def w2l:=@Int.emod_lt_of_pos
def w2m:=@List.reverse_cons
def w2n:=@Option.isSome_map
def w2o:=@List.drop_length
def w2p:=@List.filter_cons
def w2q:=@List.getElem_map
def w2r:=@Bool.and_true
def w2s:=@List.filterMap_cons
def w2t:=@Option.map_some
def w2u:=@Array.getElem?_append_left
def w2v:=@Array.getElem?_eq_some_iff
def w2w:=@List.getD_eq_getElem?_getD
def w2x:=@Nat.zero_add
def w2y:=@List.getElem?_zip_eq_some
def w2z:=@List.mem_of_find?_eq_some
def w3a:=@List.ext_getElem?
def w3b:=@Option.isSome_iff_exists
def w3c:=@Nat.le_succ_of_le
def w3d:=@List.eq_of_mem_replicate
def w3e:=@List.filter_cons_of_neg
def w3f:=@List.getElem?_cons_zero
def w3g:=@Array.getElem?_eq_none
def w3h:=@List.mem_filter
def w3i:=@Nat.ne_of_gt
def w3j:=@List.of_mem_zip
def w3k:=@List.length_singleton
def w3l:=@List.length_nil
def w3m:=@List.cons_lt_cons_iff
def w3n:=@Int.zero_add
def w3o:=@List.mem_iff_getElem
def w3p:=@List.forIn_nil
def w3q:=@Bool.not_false
def w3r:=@Array.length_toList
def w3s:=@List.map_congr_left
def w3t:=@Array.forIn_toList
def w3u:=@List.map_inj_right
def w3v:=@List.any_cons
def w3w:=@Option.isSome_some
def w3x:=@Nat.lt_or_eq_of_le
def w3y:=@Option.isSome_none
def w3z:=@Nat.not_lt
def w4a:=@Nat.le_of_lt
def w4b:=@Nat.min_self
def w4c:=@Nat.le_succ
namespace PySem.W.Fast
theorem tw17974604402325701739:True:=trivial
theorem tw7919943060566499556:True:=trivial
theorem tw8991527478945329126:True:=trivial
theorem tw14134718900948485401:True:=trivial
theorem tw9091820591573976944:True:=trivial
theorem tw4301273411547231985:True:=trivial
theorem tw13451578429662523254:True:=trivial
theorem tw8352607092797979503:True:=trivial
theorem tw9189822802550330098:True:=trivial
theorem tw6046325744435101084:True:=trivial
theorem tw2408899348217828423:True:=trivial
theorem tw453571950670706893:True:=trivial
theorem tw8472002975305820091:True:=trivial
theorem tw1842662573422442793:True:=trivial
theorem tw10253792625567598648:True:=trivial
theorem tw7740807077414327551:True:=trivial
theorem tw6042084000955469555:True:=trivial
theorem tw15137724196760418286:True:=trivial
theorem tw3385176935229111356:True:=trivial
theorem tw6695929894277979533:True:=trivial
theorem tw10383385422261861615:True:=trivial
theorem tw12733888318393953711:True:=trivial
theorem tw14449781751272527771:True:=trivial
theorem tw18014963105561032579:True:=trivial
theorem tw11319351644397623721:True:=trivial
theorem tw12203778711639805011:True:=trivial
theorem tw7910572300192652104:True:=trivial
theorem tw3379103952661394180:True:=trivial
theorem tw8814213344220985378:True:=trivial
theorem tw14957367407909690693:True:=trivial
theorem tw9638567602457329991:True:=trivial
theorem tw13425139110555719660:True:=trivial
theorem tw14760279486459254712:True:=trivial
theorem tw3021544238938487291:True:=trivial
theorem tw16071135548735504547:True:=trivial
theorem tw7868881828354628631:True:=trivial
theorem tw1415442899264085678:True:=trivial
theorem tw4948416235748310223:True:=trivial
theorem tw11129151383855831067:True:=trivial
theorem tw13882480241858829317:True:=trivial
theorem tw13129456682804420444:True:=trivial
theorem tw11274685661036103227:True:=trivial
theorem tw9732263758883480944:True:=trivial
theorem tw11277857661621866722:True:=trivial
theorem tw3760338072770645177:True:=trivial
theorem tw2870295054048958770:True:=trivial
theorem tw5358399562234159736:True:=trivial
theorem tw11609719150284803201:True:=trivial
theorem tw10102689340043273069:True:=trivial
theorem tw1501816500970202805:True:=trivial
theorem tw4751236247153476127:True:=trivial
theorem tw7139705808024425533:True:=trivial
theorem tw8290681271945246574:True:=trivial
theorem tw5145488630251285554:True:=trivial
theorem tw17388997470691169359:True:=trivial
theorem tw6982787650921101603:True:=trivial
theorem tw7571515016636303774:True:=trivial
theorem tw6289123500463466350:True:=trivial
theorem tw4428670292312505624:True:=trivial
theorem tw135377904912005782:True:=trivial
end PySem.W.Fast
namespace L2
open PySem PySem.Spec PyProof.Rows
variable{C a b:Addr}{A:Around}{op:CmpOp}{c e tg:Expr}{fd:FuncData}{h h':Heap}{pins:List (Addr×Obj)}{ch fp:List Addr}{es:List Expr}{N ps:List Str}{us:List Value}{M:Model}{i k t':Nat}{p pos:Pos}{P prog:Program}{K:PySem.W.Frag}{s:Shared}{x:Str}{mg:Str->Option Value}{u:Value}{E:Value->Shared->Prop}{f:Value->Value->Sem Value}{w:World}
set_option genInjectivity true in
inductive Kx where
 |non|bl (b:Bool)|int (i:Int)|str (x:Str)|tup (ks:List Kx)
inductive Sh where
 |ob|bl|int|str|tup (ss:List Sh)|many (s:Sh)
noncomputable instance:DecidableEq Kx:=fun _ _=>Classical.propDecidable _
mutual
noncomputable def Kx.depth:Kx->Nat
 |.tup ks=>Kx.depths ks+1
 |_=>0
noncomputable def Kx.depths:List Kx->Nat
 |[]=>0
 |k::ks=>max k.depth (Kx.depths ks)
end
mutual
def Conf:Kx->Sh->Prop
 |.non,.ob=>True
 |.bl _,.ob=>True
 |.bl _,.bl=>True
 |.int _,.int=>True
 |.str _,.str=>True
 |.tup ks,.tup ss=>Confs ks ss
 |.tup ks,.many s=>ConfM ks s
 |_,_=>False
def Confs:List Kx->List Sh->Prop
 |[],[]=>True
 |k::ks,s::ss=>Conf k s/\Confs ks ss
 |_,_=>False
def ConfM:List Kx->Sh->Prop
 |[],_=>True
 |k::ks,s=>Conf k s/\ConfM ks s
end
mutual
def KIs(h:Heap):Kx->Value->Prop
 |.non,v=>v=.none
 |.bl b,v=>v=.bool b
 |.int i,v=>∃t,v=.int i t
 |.str x,v=>∃t,v=.str x t
 |.tup ks,v=>∃a o items n,v=.ref a/\h.get? a=some o/\o.cls=.type "tuple" /\ o.data=.seq items n/\KAre h ks items.toList
def KAre(h:Heap):List Kx->List Value->Prop
 |[],vs=>vs=[]
 |k::ks,vs=>∃v r,vs=v::r/\KIs h k v/\KAre h ks r
end
mutual
theorem x17{h:Heap}:∀(k k':Kx){v:Value},KIs h k v->KIs h k' v->k=k'
 |.non,k',v,x,y=>by
  cases(show v=.none from x);cases k' with
  |non=>rfl
  |bl c=>cases(show Value.none=.bool c from y)
  |int i=>obtain⟨t,e⟩:=y;cases e
  |str i=>obtain⟨t,e⟩:=y;cases e
  |tup ks=>obtain⟨_,_,_,_,e,_⟩:=y;cases e
 |.bl b,k',v,x,y=>by
  cases(show v=.bool b from x);cases k' with
  |non=>cases(show Value.bool b=.none from y)
  |bl c=>cases(show Value.bool b=.bool c from y);rfl
  |int i=>obtain⟨t,e⟩:=y;cases e
  |str i=>obtain⟨t,e⟩:=y;cases e
  |tup ks=>obtain⟨_,_,_,_,e,_⟩:=y;cases e
 |.int b,k',v,x,y=>by
  obtain⟨t,rfl⟩:=x;cases k' with
  |non=>cases y
  |bl c=>cases y
  |int i=>obtain⟨t,e⟩:=y;cases e;rfl
  |str i=>obtain⟨t,e⟩:=y;cases e
  |tup ks=>obtain⟨_,_,_,_,e,_⟩:=y;cases e
 |.str b,k',v,x,y=>by
  obtain⟨t,rfl⟩:=x;cases k' with
  |non=>cases y
  |bl c=>cases y
  |int i=>obtain⟨t,e⟩:=y;cases e
  |str i=>obtain⟨t,e⟩:=y;cases e;rfl
  |tup ks=>obtain⟨_,_,_,_,e,_⟩:=y;cases e
 |.tup ks,k',v,x,y=>by
  obtain⟨a,o,it,n,rfl,h1,h2,h3,h4⟩:=x;cases k' with
  |non=>cases y
  |bl c=>cases y
  |int i=>obtain⟨t,e⟩:=y;cases e
  |str i=>obtain⟨t,e⟩:=y;cases e
  |tup ks'=>
   obtain⟨a',o',it',n',e,g1,g2,g3,g4⟩:=y;cases e;rw[h1]at g1;cases g1;rw[h3]at g3;injection g3 with e1 _
   subst e1;rw[q62 ks ks' h4 g4]
theorem q62{h:Heap}:∀(ks ks':List Kx){vs:List Value},KAre h ks vs->KAre h ks' vs->ks=ks'
 |[],ks',vs,x,y=>by
  cases(show vs=[]from x);cases ks' with
  |nil=>rfl
  |cons k ks'=>obtain⟨v,r,e,_⟩:=y;cases e
 |k::ks,ks',vs,x,y=>by
  obtain⟨v,r,rfl,h1,h2⟩:=x;cases ks' with
  |nil=>cases(show v::r=[]from y)
  |cons k' ks'=>
   obtain⟨v',r',e,g1,g2⟩:=y;cases e;rw[x17 k k' h1 g1,q62 ks ks' h2 g2]
end
mutual
theorem q8t{h h':Heap}(hk:∀a o,h.get? a=some o->o.cls=.type "tuple"->(∃it n,o.data=.seq it n)->h'.get? a=some o):∀(k:Kx){v:Value},KIs h k v->KIs h' k v
 |.non,v,x=>x
 |.bl b,v,x=>x
 |.int b,v,x=>x
 |.str b,v,x=>x
 |.tup ks,v,x=>by
  obtain⟨a,o,it,n,rfl,h1,h2,h3,h4⟩:=x;exact⟨a,o,it,n,rfl,hk a o h1 h2 ⟨it,n,h3⟩,h2,h3,q7h hk ks h4⟩
theorem q7h{h h':Heap}(hk:∀a o,h.get? a=some o->o.cls=.type "tuple"->(∃it n,o.data=.seq it n)->h'.get? a=some o):∀(ks:List Kx){vs:List Value},KAre h ks vs->KAre h' ks vs
 |[],vs,x=>x
 |k::ks,vs,x=>by
  obtain⟨v,r,rfl,h1,h2⟩:=x;exact⟨v,r,rfl,q8t hk k h1,q7h hk ks h2⟩
end
theorem KAre.length:∀(ks:List Kx){vs:List Value},KAre h ks vs->vs.length=ks.length
 |[],vs,x=>by cases(show vs=[]from x);rfl
 |k::ks,vs,x=>by
  obtain⟨v,r,rfl,h1,h2⟩:=x;rw[w0p,w0p,KAre.length ks h2]
mutual
noncomputable def kHash(w:World):Kx->Int
 |.non=>PySem.W.hashW w.params .none
 |.bl b=>reduceHash (if b=true then 1 else 0)
 |.int i=>hashInt i
 |.str x=>hashStr w x
 |.tup ks=>reduceHash (Builtin.Tuple.tupleHashOf (kHashes w ks))
noncomputable def kHashes(w:World):List Kx->List Int
 |[]=>[]
 |k::ks=>kHash w k::kHashes w ks
end
mutual
noncomputable def kDraws:Kx->Nat
 |.tup ks=>kDrawss ks+1
 |_=>1
noncomputable def kDrawss:List Kx->Nat
 |[]=>0
 |k::ks=>kDraws k+kDrawss ks
end
mutual
theorem x18:∀(k:Kx)(v:Value)(A:Around)(s:Shared)(Q:Int->Shared->Prop),KIs s.heap k v->A.units+k.depth<cLine->Q (kHash w k) {s with toks:=s.toks+kDraws k}->wpAny (model prog w) A (pyHash v) Q E s
 |.non,v,A,s,Q,x,hu,h=>by
  cases(show v=.none from x);exact pyHash_slot (T:="NoneType") rfl F.slot_NoneType_hash F.entry_NoneType_hash (F.args_NoneType_hash_1 _) (beq_builtin_none _) (.inr (by omega)) (wpAny_bind (wpAny_pure (wpAny_bind (wpAny_mkInt (wpAny_pure ⟨_,_,rfl,h⟩)))))
 |.bl b,v,A,s,Q,x,hu,h=>by
  cases(show v=.bool b from x);refine pyHash_slot (T:="bool") rfl F.slot_bool_hash entry_int_hash (args_int_hash _) (beq_builtin_none _) (.inr (by omega)) ?_;cases b
  ·exact(show wpAny _ _ (do ret (<- mkInt 0)) _ _ s from wpAny_bind (wpAny_mkInt (wpAny_pure ⟨_,_,rfl,h⟩)))
  ·exact(show wpAny _ _ (do ret (<- mkInt 1)) _ _ s from wpAny_bind (wpAny_mkInt (wpAny_pure ⟨_,_,rfl,h⟩)))
 |.int i,v,A,s,Q,x,hu,h=>by
  obtain⟨t,rfl⟩:=x;exact wpAny_pyHash_int h
 |.str i,v,A,s,Q,x,hu,h=>by
  obtain⟨t,rfl⟩:=x;exact wpAny_pyHash_str h
 |.tup ks,v,A,s,Q,x,hu,h=>by
  obtain⟨a,o,it,n,rfl,h1,h2,h3,h4⟩:=x;refine pyHash_slot (T:="tuple") ⟨_,h1,h2⟩ F.slot_tuple_hash F.entry_tuple_hash (F.args_tuple_hash_1 _) (beq_builtin_none _) (.inr (by omega)) ?_;show wpAny _ _ (Builtin.Tuple.tupleItemsOf (.ref a) >>= _) _ _ s;refine wpAny_bind (wpAny_tupleItemsOf h1 h3 ?_);refine wpAny_bind ?_;rw[<- w3t];refine q8u ks it.toList A.in1 s #[] _ h4 (by simp only[Kx.depth,Around.in1_units]at hu |-;omega) fun b hb=>?_
  show wpAny _ _ (retInt (Builtin.Tuple.tupleHashOf b.toList)) _ _ _;rw[hb];exact wpAny_bind (wpAny_mkInt (wpAny_pure ⟨_,_,rfl,by simpa [kHash,kDraws,Nat.add_assoc]using h⟩))
theorem q8u:∀(ks:List Kx)(vs:List Value)(A:Around)(s:Shared)(b:Array Int)(Q:Array Int->Shared->Prop),KAre s.heap ks vs->A.units+Kx.depths ks<cLine ->
  (∀b',b'.toList=b.toList++kHashes w ks->Q b' {s with toks:=s.toks+kDrawss ks}) ->
  wpAny (model prog w) A (forIn vs b fun x r=>do let h <- pyHash x;pure PUnit.unit;pure (ForInStep.yield (r.push h))) Q E s
 |[],vs,A,s,b,Q,x,hu,h=>by
  cases(show vs=[]from x);exact wpAny_pure (h b (by simp[kHashes]))
 |k::ks,vs,A,s,b,Q,x,hu,h=>by
  obtain⟨v,r,rfl,h1,h2⟩:=x;simp only[Kx.depths]at hu;rw[w1o];refine wpAny_bind (wpAny_bind (x18 k v A s _ h1 (by omega) ?_));refine wpAny_bind (wpAny_pure (wpAny_pure ?_))
  exact q8u ks r A _ _ Q h2 (by omega) fun b' hb=>by
   have:=h b' (by simp[hb,kHashes])
   simpa [kDrawss,Nat.add_assoc]using this
end
theorem x19(a b:Bool):decide (Kx.bl a=Kx.bl b)=(a==b):=by
 by_cases e:a=b
 ·subst e;simp
 ·rw[decide_eq_false (fun z=>e (by injection z))];exact(beq_eq_false_iff_ne.mpr e).symm
theorem x7z(a b:Int):decide (Kx.int a=Kx.int b)=(a==b):=by
 by_cases e:a=b
 ·subst e;simp
 ·rw[decide_eq_false (fun z=>e (by injection z))];exact(beq_eq_false_iff_ne.mpr e).symm
theorem x70(a b:Str):decide (Kx.str a=Kx.str b)=(a==b):=by
 by_cases e:a=b
 ·subst e;simp
 ·rw[decide_eq_false (fun z=>e (by injection z))];exact(beq_eq_false_iff_ne.mpr e).symm
noncomputable def sameAt(ks ks':List Kx)(j:Nat):Bool:=decide (ks[j]?=ks'[j]?)
theorem x71:∀ks ks':List Kx,((List.range (min ks.length ks'.length)).all (sameAt ks ks')&&ks.length==ks'.length)=decide (Kx.tup ks=Kx.tup ks'):=by
 intro ks ks'
 by_cases e:ks=ks'
 ·subst e;rw[decide_eq_true rfl];simp[sameAt]
 ·rw[decide_eq_false (fun z=>e (by injection z))]
  rw[Bool.and_eq_false_iff]
  by_cases hl:ks.length=ks'.length
  ·left
   rw[w1p];intro ha;refine e (w3a fun j=>?_)
   by_cases hj:j<ks.length
   ·have:=w1c.mp ha j (w1n.mpr (by omega));exact of_decide_eq_true this
   ·rw[w1w (by omega),w1w (by omega)]
  ·right
   simpa using hl
theorem q5f:∀(ks:List Kx){vs:List Value},KAre h ks vs->∀(j:Nat)(v:Value),vs[j]?=some v->∃k,ks[j]?=some k/\KIs h k v
 |[],vs,x,j,v,e=>by cases(show vs=[]from x);simp at e
 |k::ks,vs,x,j,v,e=>by
  obtain⟨u,r,rfl,h1,h2⟩:=x;cases j with
  |zero=>cases e;exact⟨k,rfl,h1⟩
  |succ j=>exact q5f ks h2 j v (by simpa using e)
theorem q5z:∀(ks:List Kx)(j:Nat)(k:Kx),ks[j]?=some k->k.depth<=Kx.depths ks
 |[],j,k,e=>by simp at e
 |x::ks,j,k,e=>by
  simp only[Kx.depths];cases j with
  |zero=>cases e;omega
  |succ j=>have:=q5z ks j k (by simpa using e);omega
theorem q50:∀(ks:List Kx)(ss:List Sh),Confs ks ss->∀(j:Nat)(k:Kx),ks[j]?=some k->∃s,ss[j]?=some s/\Conf k s
 |[],ss,_,j,k,e=>by simp at e
 |x::ks,[],c,j,k,e=>c.elim
 |x::ks,s::ss,c,j,k,e=>by
  cases j with
  |zero=>cases e;exact⟨s,rfl,c.1⟩
  |succ j=>exact q50 ks ss c.2 j k (by simpa using e)
theorem q51:∀(ks:List Kx)(s:Sh),ConfM ks s->∀(j:Nat)(k:Kx),ks[j]?=some k->Conf k s
 |[],s,_,j,k,e=>by simp at e
 |x::ks,s,c,j,k,e=>by
  cases j with
  |zero=>cases e;exact c.1
  |succ j=>exact q51 ks s c.2 j k (by simpa using e)
theorem y8s(s:Shared):∀(n:Nat)(k k':Kx)(sh:Sh)(v v':Value)(A:Around),k.depth<=n->Conf k sh->Conf k' sh->KIs s.heap k v->KIs s.heap k' v'->A.units+n<cLine->SeqAt.EqAt A s v v' (decide (k=k')):=by
 intro n
 induction n with
 |zero=>
  intro k k' sh v v' A hd c c' x y hu;cases k with
  |non=>
   cases sh with
   |ob=>
    cases k' with
    |non=>cases(show v=.none from x);cases(show v'=.none from y);rw[decide_eq_true rfl];exact .same _
    |bl b=>cases(show v=.none from x);cases(show v'=.bool b from y);rw[decide_eq_false (fun z=>nomatch z)];exact .none_bool b
    |_=>exact c'.elim
   |_=>exact c.elim
  |bl a=>
   cases sh with
   |ob=>
    cases k' with
    |non=>cases(show v=.bool a from x);cases(show v'=.none from y);rw[decide_eq_false (fun z=>nomatch z)];exact .bool_none a
    |bl b=>cases(show v=.bool a from x);cases(show v'=.bool b from y);rw[x19];exact .bool_bool a b
    |_=>exact c'.elim
   |bl=>
    cases k' with
    |bl b=>cases(show v=.bool a from x);cases(show v'=.bool b from y);rw[x19];exact .bool_bool a b
    |_=>exact c'.elim
   |_=>exact c.elim
  |int a=>
   cases sh with
   |int=>
    cases k' with
    |int b=>obtain⟨t,rfl⟩:=x;obtain⟨u,rfl⟩:=y;rw[x7z];exact .int_int a t b u
    |_=>exact c'.elim
   |_=>exact c.elim
  |str a=>
   cases sh with
   |str=>
    cases k' with
    |str b=>obtain⟨t,rfl⟩:=x;obtain⟨u,rfl⟩:=y;rw[x70];exact .str_str a t b u
    |_=>exact c'.elim
   |_=>exact c.elim
  |tup ks=>simp only[Kx.depth]at hd;omega
 |succ n ih=>
  intro k k' sh v v' A hd c c' x y hu;cases k with
  |non=>exact ih .non k' sh v v' A (w0w _) c c' x y (by omega)
  |bl a=>exact ih (.bl a) k' sh v v' A (w0w _) c c' x y (by omega)
  |int a=>exact ih (.int a) k' sh v v' A (w0w _) c c' x y (by omega)
  |str a=>exact ih (.str a) k' sh v v' A (w0w _) c c' x y (by omega)
  |tup ks=>
   obtain⟨a,o,it,m,rfl,h1,h2,h3,h4⟩:=x
   have tail:∀ks',k'=.tup ks'->(∀(j:Nat)(u u':Kx),ks[j]?=some u->ks'[j]?=some u'->∃s,Conf u s/\Conf u' s)->SeqAt.EqAt A s (.ref a) v' (decide (Kx.tup ks=k')):=by
    rintro ks' rfl hc;obtain⟨b,o',it',m',rfl,g1,g2,g3,g4⟩:=y
    by_cases hab:a=b
    ·subst hab;rw[h1]at g1;cases g1;rw[h3]at g3;injection g3 with e1 _
     subst e1;rw[q62 ks ks' h4 g4,decide_eq_true rfl];exact .same _
    ·have l1:=KAre.length ks h4;have l2:=KAre.length ks' g4;rw[<- x71]
     have:=SeqAt.RcAt.tuples (A:=A) (s:=s) (e:=sameAt ks ks') (show s.heap.IsTuple a it from⟨o,h1,h2,m,h3⟩) (show s.heap.IsTuple b it' from⟨o',g1,g2,m',g3⟩) (by omega) (fun j j1 j2=>by
      obtain⟨u,u1,u2⟩:=q5f ks h4 j it[j] (by simp[j1]);obtain⟨u',u1',u2'⟩:=q5f ks' g4 j it'[j] (by simp[j2]);obtain⟨sh',c1,c2⟩:=hc j u u' u1 u1';have hdj:=q5z ks j u u1;simp only[Kx.depth]at hd;have z:=ih u u' sh' _ _ A.in1 (by omega) c1 c2 u2 u2' (by rw[Around.in1_units];omega)
      have e:sameAt ks ks' j=decide (u=u'):=by
       unfold sameAt;rw[u1,u1']
       by_cases q:u=u'
       ·rw[q];simp
       ·rw[decide_eq_false q,decide_eq_false (fun z=>q (Option.some.inj z))]
      rw[e];exact z)
     rw[show it.size=ks.length by simpa using l1,show it'.size=ks'.length by simpa using l2]at this;exact .of_refs hab this
   cases sh with
   |tup ss=>
    cases k' with
    |tup ks'=>
     refine tail ks' rfl fun j u u' e1 e2=>?_
     obtain⟨s1,q1,q2⟩:=q50 ks ss c j u e1;obtain⟨s2,q3,q4⟩:=q50 ks' ss c' j u' e2;rw[q1]at q3;cases q3;exact⟨s1,q2,q4⟩
    |_=>exact c'.elim
   |many s1=>
    cases k' with
    |tup ks'=>exact tail ks' rfl fun j u u' e1 e2=>⟨s1,q51 ks s1 c j u e1,q51 ks' s1 c' j u' e2⟩
    |_=>exact c'.elim
   |_=>exact c.elim
theorem x72:∀(n:Nat)(k:Kx)(v:Value)(s:Shared)(Q:Bool->Shared->Prop),k.depth<=n->KIs s.heap k v->Q true s->wpAny (model prog w) A (eqIsQuiet n v) Q E s:=by
 intro n
 induction n with
 |zero=>
  intro k v s Q hd x h;cases k with
  |non=>cases(show v=.none from x);rw[eqIsQuiet_byValue _ rfl];exact wpAny_pure h
  |bl b=>cases(show v=.bool b from x);rw[eqIsQuiet_byValue _ rfl];exact wpAny_pure h
  |int i=>obtain⟨t,rfl⟩:=x;rw[eqIsQuiet_byValue _ rfl];exact wpAny_pure h
  |str i=>obtain⟨t,rfl⟩:=x;rw[eqIsQuiet_byValue _ rfl];exact wpAny_pure h
  |tup ks=>simp only[Kx.depth]at hd;omega
 |succ n ih=>
  intro k v s Q hd x h;cases k with
  |non=>cases(show v=.none from x);rw[eqIsQuiet_byValue _ rfl];exact wpAny_pure h
  |bl b=>cases(show v=.bool b from x);rw[eqIsQuiet_byValue _ rfl];exact wpAny_pure h
  |int i=>obtain⟨t,rfl⟩:=x;rw[eqIsQuiet_byValue _ rfl];exact wpAny_pure h
  |str i=>obtain⟨t,rfl⟩:=x;rw[eqIsQuiet_byValue _ rfl];exact wpAny_pure h
  |tup ks=>
   obtain⟨a,o,it,m,rfl,h1,h2,h3,h4⟩:=x;have hT:s.TypeIs (.ref a) "tuple":=⟨o,h1,h2⟩;unfold eqIsQuiet;refine wpAny_bind (wpAny_specialOf hT F.slot_tuple_eq.lookup ?_);show wpAny _ _ (isInstance (.ref a) (.type "tuple") >>= _) _ _ s;refine wpAny_bind (wpAny_isInstance hT isSubtype_tuple_tuple ?_);simp only[w1j,w0k,if_false];refine wpAny_bind (wpAny_seqItems h1 h3 ?_);refine wpAny_bind ?_;show wpAny _ _ (forIn it _ _) _ _ s;rw[<- w3t];refine wpAny_forIn_list _ (fun rest r s'=>r.1=none/\s'=s/\∀v∈rest,∃k:Kx,k.depth<=n/\KIs s.heap k v) _ ?_ ?_ _ _ ⟨rfl,rfl,fun v hv=>?_⟩
   ·rintro v rest r s' ⟨hr,rfl,hall⟩;obtain⟨k,k1,k2⟩:=hall v w0s;refine wpAny_bind (ih k v _ _ k1 k2 ?_);simp only[w1j,w0k,if_false];exact wpAny_pure ⟨rfl,rfl,fun u hu'=>hall u (w0m _ hu')⟩
   ·rintro⟨r1,r2⟩ s' ⟨hr,rfl,_⟩;simp only at hr;subst hr;exact wpAny_pure h
   ·obtain⟨j,hj,e⟩:=w3o.mp hv;obtain⟨k,k1,k2⟩:=q5f ks h4 j v (by rw[w0d hj,e]);have:=q5z ks j k k1;simp only[Kx.depth]at hd;exact⟨k,by omega,k2⟩
noncomputable def treeKind(prog:Program)(w:World)(sh:Sh):HeapKind prog w Kx where
 is:=fun h k a=>KIs h k (.ref a)/\Conf k sh/\k.depth<=7
 hash:=kHash w
 draws:=kDraws
 room:=fun A=>A.units+8<cLine
 inj:=fun hx hy=>x17 _ _ hx.1 hy.1
 keeps:=fun {h h' k a d o es ep} x ho hd hs=>⟨q8t (fun b ob e1 e2 e3=>by
  have hne:b≠d:=by
   rintro rfl;rw[ho]at e1;cases e1;obtain⟨it,n,e⟩:=e3;rw[hd]at e;cases e
  exact(hs.2 b hne).trans e1) _ x.1,x.2⟩
 pyHash:=fun {A E s k a Q} hu hk h=>x18 k _ A s Q hk.1 (by have:=hk.2.2;omega) h
 eqBool:=fun {A E s x y a b Q} hu hx hy h=>y8s s 7 x y sh _ _ A hx.2.2 hx.2.1 hy.2.1 hx.1 hy.1 (by omega) prog w E Q h
 quiet:=fun {A E s k a Q} hk h=>x72 8 k _ s Q (by have:=hk.2.2;omega) hk.1 h
set_option Elab.async false
set_option linter.all false
set_option maxRecDepth 100000
noncomputable abbrev Key:=Sum Int Str
noncomputable def keyIs:Key->Value->Bool
 |.inl k,v=>Value.isInt k v
 |.inr x,v=>Value.isStrOf x v
noncomputable def keyH(w:World):Key->Int
 |.inl k=>hashInt k
 |.inr x=>hashStr w x
theorem q1f:∀{k:Key}{v:Value},keyIs k v=true->(∃i t,k=Sum.inl i/\v=Value.int i t)\/(∃x t,k=Sum.inr x/\v=Value.str x t)
 |.inl i,v,h=>by
  obtain⟨t,e⟩:=Value.isInt_shape (k:=i) (v:=v) h;exact .inl ⟨i,t,rfl,e⟩
 |.inr x,v,h=>by
  obtain⟨t,e⟩:=Value.isStrOf_shape (x:=x) (v:=v) h;exact .inr ⟨x,t,rfl,e⟩
theorem x4u(i:Int)(t:Tok):keyIs (.inl i) (.int i t)=true:=by simp[keyIs,Value.isInt]
theorem x4v(x:Str)(t:Tok):keyIs (.inr x) (.str x t)=true:=by simp[keyIs,Value.isStrOf]
theorem y5e(a b:Int):decide ((Sum.inl a:Key)=Sum.inl b)=(a==b):=by
 by_cases e:a=b
 ·subst e;simp
 ·have h:¬(Sum.inl a:Key)=Sum.inl b:=fun q=>e (Sum.inl.inj q)
  rw[decide_eq_false h];exact(beq_eq_false_iff_ne.mpr e).symm
theorem y5f(a b:Str):decide ((Sum.inr a:Key)=Sum.inr b)=decide (a=b):=by
 by_cases e:a=b
 ·subst e;simp
 ·have h:¬(Sum.inr a:Key)=Sum.inr b:=fun q=>e (Sum.inr.inj q)
  rw[decide_eq_false h,decide_eq_false e]
theorem y5g(a:Int)(b:Str):decide ((Sum.inl a:Key)=Sum.inr b)=false:=decide_eq_false (fun q=>nomatch q)
theorem y5h(a:Str)(b:Int):decide ((Sum.inr a:Key)=Sum.inl b)=false:=decide_eq_false (fun q=>nomatch q)
noncomputable def mixKind(prog:Program)(w:World):PySem.KeyKind prog w Key where
 is:=keyIs
 hash:=keyH w
 inj:=fun v a b ha hb=>by
  rcases q1f ha with⟨i,t,rfl,rfl⟩|⟨x,t,rfl,rfl⟩
  ·rcases q1f hb with⟨j,u,rfl,e⟩|⟨y,u,rfl,e⟩
   ·injection e with e1 _;rw[e1]
   ·exact nomatch e
  ·rcases q1f hb with⟨j,u,rfl,e⟩|⟨y,u,rfl,e⟩
   ·exact nomatch e
   ·injection e with e1 _;rw[e1]
 byValue:=fun k v h=>by
  rcases q1f h with⟨i,t,rfl,rfl⟩|⟨x,t,rfl,rfl⟩<;>rfl
 pyHash:=fun hv h=>by
  rcases q1f hv with⟨i,t,rfl,rfl⟩|⟨x,t,rfl,rfl⟩
  ·exact wpAny_pyHash_int h
  ·exact wpAny_pyHash_str h
 eqBool:=fun hu hv h=>by
  rcases q1f hu with⟨i,t,rfl,rfl⟩|⟨x,t,rfl,rfl⟩
  ·rcases q1f hv with⟨j,u,rfl,rfl⟩|⟨y,u,rfl,rfl⟩
   ·rw[y5e]at h;exact wpAny_eqBool_int h
   ·rw[y5g]at h;exact SeqAt.EqAt.int_str i t y u _ _ _ _ h
  ·rcases q1f hv with⟨j,u,rfl,rfl⟩|⟨y,u,rfl,rfl⟩
   ·rw[y5h]at h;exact SeqAt.EqAt.str_int x t j u _ _ _ _ h
   ·rw[y5f]at h;exact wpAny_eqBool_str h
 «strs»:=fun k x t v h=>by
  rcases q1f h with⟨i,u,rfl,e⟩|⟨y,u,rfl,e⟩
  ·exact nomatch e
  ·injection e with e1 _
   subst e1;cases v<;>rfl
theorem x1o(prog:Program)(w:World)(i:Int)(t:Tok):(mixKind prog w).is (.inl i) (.int i t)=true:=x4u i t
theorem x1p(prog:Program)(w:World)(x:Str)(t:Tok):(mixKind prog w).is (.inr x) (.str x t)=true:=x4v x t
set_option genInjectivity true in
inductive V where
 |non|bl (b:Bool)|int (i:Int)|str (x:Str)|byt (b:Array UInt8)|flt (b:UInt64)|ref (a:Addr)|ty (n:String)
 deriving DecidableEq
variable{xs:List V}{v:V}
def RelV:V->Value->Prop
 |.non,u=>u=Value.none
 |.bl b,u=>u=Value.bool b
 |.int i,u=>∃t,u=Value.int i t
 |.str x,u=>∃t,u=Value.str x t
 |.byt b,u=>∃t,u=Value.bytes b t
 |.flt b,u=>∃t,u=Value.float b t
 |.ref a,u=>u=Value.ref a
 |.ty n,u=>u=Value.type n
abbrev Vals:List V->List Value->Prop:=Paired RelV
theorem Vals.length(r:Vals xs us):xs.length=us.length:=Paired.length r
theorem Vals.get:∀{xs:List V}{us:List Value}{i:Nat}{x:V},Vals xs us->xs[i]?=some x->∃u,us[i]?=some u/\RelV x u
 |_,_,_,_,.nil,e=>by simp at e
 |_,_,0,_,.cons r _,e=>by simp at e;subst e;exact⟨_,rfl,r⟩
 |_,_,i+1,x,.cons _ t,e=>by
  obtain⟨u,h1,h2⟩:=Vals.get (i:=i) (x:=x) t (by simpa using e);exact⟨u,by simpa using h1,h2⟩
theorem Vals.append:∀{xs ys:List V}{us ws:List Value},Vals xs us->Vals ys ws->Vals (xs++ys) (us++ws)
 |_,_,_,_,.nil,s=>s
 |_,_,_,_,.cons r t,s=>.cons r (Vals.append t s)
def RelO:Option V->Option Value->Prop
 |some v,some u=>RelV v u
 |none,none=>True
 |_,_=>False
def KV{κ:Type}:List (κ×V)->List (κ×Value)->Prop:=Paired fun(p:κ×V) (q:κ×Value)=>p.1=q.1/\RelV p.2 q.2
noncomputable def kV:Key->V
 |.inl i=>.int i
 |.inr x=>.str x
inductive HO where
 /-- a list -/
 |lst (xs:List V)
 /-- a tuple (never changes) -/
 |tup (xs:List V)
 /-- a dict whose keys are ints and texts;one whose keys are tuples of ints and texts (the empty one is both) -/
 |dK (kvs:List (Key×V))|dT (sh:Sh) (kvs:List (Kx×V)) (kas:List Addr)
 /-- a set of ints: its members,its size -/
 |set (S:Int->Bool) (n:Nat)
 /-- an instance of the class at C,its dict at dx,its attributes -/
 |ins (C dx:Addr) (fs:List (Str×V))
 /-- the dict of the instance at x -/
 |own (x:Addr)
 /-- the dict of an exception -/
 |xd (fs:List (Str×V))
 /-- a bound method,f of x -/
 |met (f x:Addr)
 /-- a range object lo,lo+1,.. below hi -/
 |rng (lo hi:Int)
 /-- a thing that is known to the object (the script;a dict while a loop walks it): read,never written while it is so -/
 |frz (o:Obj) (u:HO)
 /-- a code object's table -/
 |tbl (ps:Array Value)
 /-- any other thing,by what is true of its one object (a def of one's own: SetO a S n:=HO.ext fun h=>..) -/
 |ext (φ:Heap->Prop)
noncomputable abbrev Hp:=Addr->Option HO
variable{H H':Hp}
def TupLike:HO->Prop
 |.tup _=>True
 |.frz _ (.tup _)=>True
 |.frz _ (.own _)=>True
 |_=>False
mutual
def KRep(H:Hp):Kx->V->Prop
 |.non,v=>v=.non
 |.bl b,v=>v=.bl b
 |.int i,v=>v=.int i
 |.str x,v=>v=.str x
 |.tup ks,v=>∃a xs,v=.ref a/\(H a=some (.tup xs)\/∃o,H a=some (.frz o (.tup xs)))/\KReps H ks xs
def KReps(H:Hp):List Kx->List V->Prop
 |[],vs=>vs=[]
 |k::ks,vs=>∃v r,vs=v::r/\KRep H k v/\KReps H ks r
end
mutual
theorem KRep.keeps{H H':Hp}(ht:∀b u,TupLike u->H b=some u->H' b=some u):∀(k:Kx){v:V},KRep H k v->KRep H' k v
 |.non,_,x=>x
 |.bl _,_,x=>x
 |.int _,_,x=>x
 |.str _,_,x=>x
 |.tup ks,_,x=>by
  obtain⟨a,xs,e,q,r⟩:=x;refine⟨a,xs,e,?_,KReps.keeps ht ks r⟩;rcases q with q|⟨o,q⟩
  ·exact .inl (ht _ _ True.intro q)
  ·exact .inr ⟨o,ht _ _ True.intro q⟩
theorem KReps.keeps{H H':Hp}(ht:∀b u,TupLike u->H b=some u->H' b=some u):∀(ks:List Kx){vs:List V},KReps H ks vs->KReps H' ks vs
 |[],_,x=>x
 |k::ks,_,x=>by
  obtain⟨v,r,e,h1,h2⟩:=x;exact⟨v,r,e,KRep.keeps ht k h1,KReps.keeps ht ks h2⟩
end
noncomputable def upd(H:Hp)(a:Addr)(o:HO):Hp:=fun b=>if b=a then some o else H b
theorem q0g{o:HO}:upd H a o a=some o:=by unfold upd;rw[if_pos rfl]
theorem q0b{o:HO}(h:b≠a):upd H a o b=H b:=by unfold upd;rw[if_neg h]
theorem q0q{o u:HO}(h:H a=some o)(h':H b=some u)(d:o≠u):a≠b:=by
 intro e;subst e;rw[h]at h';exact d (Option.some.inj h')
theorem q0l{o:HO}(h:H a=some o)(h':H b=none):a≠b:=by
 intro e;subst e;rw[h]at h';cases h'
section
variable(P:Program)(w:World)
def BareT(h:Heap)(a:Addr):Prop:=∃o,h.get? a=some o/\o.dict=none
def ObjOk(H:Hp)(h:Heap)(a:Addr):HO->Prop
 |.lst xs=>xs.length<=sizeLine/\∃(its:List Value)(n:Nat),Vals xs its/\h.get? a=some {cls:=.type "list", data:=.seq its.toArray n}
 |.tup xs=>xs.length<=sizeLine/\∃its:List Value,Vals xs its/\IsTup h a its.toArray/\BareT h a
 |.dK kvs=>kvs.length<=sizeLine/\(a==sysModules)=false/\∃vs,KV kvs vs/\h.DictOf (mixKind P w) a vs
 |.dT sh kvs kas=>kvs.length<=sizeLine/\(a==sysModules)=false/\∃xs:List (Kx×Addr×Value),
   Paired (fun(p:Kx×V) (q:Kx×Addr×Value)=>p.1=q.1/\(KRep H p.1 (.ref q.2.1)/\Conf p.1 sh/\p.1.depth<=7)/\RelV p.2 q.2.2) kvs xs/\xs.map (·.2.1)=kas /\
   ∃o es ep,h.get? a=some o/\o.ExactDict/\o.data=.dict es ep/\es.toList=xs.map (entryOfKey (treeKind P w sh))/\(xs.map (·.1)).Nodup
 |.set S n=>h.SetOf (intKind P w) a S n
 |.ins C dx fs=>H dx=some (.own a)/\fs.length<=1000/\dx≠a/\h.get? a=some (PySem.W.instObj C dx) /\
   ∃mA,h.Ns1 dx mA/\(∀f,RelO (fs.lookup f) (mA f))/\PySem.Within mA (fs.map (·.1))
 |.own _=>∃o,h.get? a=some o
 |.xd fs=>∃mA,h.Ns1 a mA/\∀f,RelO (fs.lookup f) (mA f)
 |.rng lo hi=>∃t u v,h.get? a=some {cls:=.type "range", data:=.fields #[.int lo t,.int hi u,.int 1 v]}
 |.frz o u=>h.get? a=some o/\ObjOk H h a u
 |.tbl ps=>(∃(q:Str)(qs:Array Value),ps[0]?=some (.bool true)/\ps[1]?=some (.str q 0)/\h.get? a=some {cls:=.none,data:=.fields qs}/\TriplesOk qs.toList/\∀(pos:Pos)(cv:Value),codeAmong pos qs.toList=some cv ->
   ∃(c:Addr)(oc:Obj)(vs:Array Value)(t:Tok),cv=.ref c/\H c=some (.frz oc (.own 0))/\oc.data=.fields vs/\vs[1]?=some (.str q t)) \/
   ∃(q:Str)(c:Addr)(oc ob:Obj)(vs:Array Value)(t:Tok),ps[0]?=some (.bool false)/\ps[1]?=some (.str q 0)/\ps[2]?=some (.ref c)/\H c=some (.frz oc (.own 0))/\oc.data=.fields vs/\vs[1]?=some (.str q t)/\h.get? a=some ob
 |.met f x=>h.get? a=some (methodObj (.ref f) (.ref x))
 |.ext φ=>φ h/\(∃o,h.get? a=some o)/\∀h1 h2:Heap,φ h1->(∀o,h1.get? a=some o->h2.get? a=some o)->φ h2
def HOk(H:Hp)(h:Heap):Prop:=∀a o,H a=some o->ObjOk P w H h a o
end
section
variable{o:HO}
theorem ObjOk.lt(x:ObjOk P w H h a o):a<h.objs.size:=by
 cases o with
 |lst xs=>obtain⟨_,_,_,_,e⟩:=x;exact Heap.lt_size e
 |tup xs=>obtain⟨_,_,_,p,_⟩:=x;exact p.lt
 |dK kvs=>obtain⟨_,_,_,_,o,_,_,e,_⟩:=x;exact Heap.lt_size e
 |dT sh kvs kas=>obtain⟨_,_,_,_,_,o,_,_,e,_⟩:=x;exact Heap.lt_size e
 |set S n=>obtain⟨o,_,_,_,e,_⟩:=x;exact Heap.lt_size e
 |ins C dx fs=>obtain⟨_,_,_,e,_⟩:=x;exact Heap.lt_size e
 |own y=>obtain⟨_,e⟩:=x;exact Heap.lt_size e
 |xd fs=>obtain⟨_,⟨_,_,_,e,_⟩,_⟩:=x;exact Heap.lt_size e
 |rng lo hi=>obtain⟨_,_,_,e⟩:=x;exact Heap.lt_size e
 |frz ob u=>obtain⟨e,_⟩:=x;exact Heap.lt_size e
 |tbl ps=>rcases x with⟨_,_,_,_,e,_⟩|⟨_,_,_,_,_,_,_,_,_,_,_,_,e⟩<;>exact Heap.lt_size e
 |met f y=>exact Heap.lt_size (show h.get? a=some _ from x)
 |ext φ=>obtain⟨_,⟨_,e⟩,_⟩:=x;exact Heap.lt_size e
theorem Paired.mapP{α β:Type}{F G:α->β->Prop}:∀{l₁:List α}{l₂:List β},Paired F l₁ l₂->(∀a b,F a b->G a b)->Paired G l₁ l₂
 |_,_,.nil,_=>.nil
 |_,_,.cons r t,f=>.cons (f _ _ r) (Paired.mapP t f)
theorem ObjOk.stay(x:ObjOk P w H h a o)(k:∀b u,(b=a\/H b=some (.own a))->h.get? b=some u->h'.get? b=some u)
  (ho:∀b,H b=some (.own a)->H' b=some (.own a))(ht:∀b u,TupLike u->H b=some u->H' b=some u):ObjOk P w H' h' a o:=by
 induction o with
 |lst xs=>obtain⟨z,its,n,r,e⟩:=x;exact⟨z,its,n,r,k _ _ (.inl rfl) e⟩
 |tup xs=>obtain⟨z,its,r,⟨ob,e,c⟩,⟨o2,e2,c2⟩⟩:=x;exact⟨z,its,r,⟨ob,k _ _ (.inl rfl) e,c⟩,⟨o2,k _ _ (.inl rfl) e2,c2⟩⟩
 |dK kvs=>obtain⟨z,y,vs,r,ob,es,ep,e,c⟩:=x;exact⟨z,y,vs,r,ob,es,ep,k _ _ (.inl rfl) e,c⟩
 |dT sh kvs kas=>
  obtain⟨z,y,xs,r,ka,ob,es,ep,e,c⟩:=x;exact⟨z,y,xs,Paired.mapP r fun p q z=>⟨z.1,⟨KRep.keeps ht _ z.2.1.1,z.2.1.2⟩,z.2.2⟩,ka,ob,es,ep,k _ _ (.inl rfl) e,c⟩
 |set S n=>obtain⟨ob,es,ep,t,e,c⟩:=x;exact⟨ob,es,ep,t,k _ _ (.inl rfl) e,c⟩
 |ins C dx fs=>
  obtain⟨d,z,ne,e,mA,⟨od,es,ep,e2,c⟩,r⟩:=x;exact⟨ho _ d,z,ne,k _ _ (.inl rfl) e,mA,⟨od,es,ep,k _ _ (.inr d) e2,c⟩,r⟩
 |own y=>obtain⟨ob,e⟩:=x;exact⟨ob,k _ _ (.inl rfl) e⟩
 |xd fs=>obtain⟨mA,⟨od,es,ep,e,c⟩,r⟩:=x;exact⟨mA,⟨od,es,ep,k _ _ (.inl rfl) e,c⟩,r⟩
 |rng lo hi=>obtain⟨t,u,v,e⟩:=x;exact⟨t,u,v,k _ _ (.inl rfl) e⟩
 |frz ob u ih=>obtain⟨e,q⟩:=x;exact⟨k _ _ (.inl rfl) e,ih q⟩
 |tbl ps=>
  rcases x with⟨q,qs,p0,p1,e,tr,cd⟩|⟨q,c,oc,ob,vs,t,p0,p1,p2,h3,h4,h5,e⟩
  ·refine .inl ⟨q,qs,p0,p1,k _ _ (.inl rfl) e,tr,fun pos cv z=>?_⟩
   obtain⟨c,oc,vs,t,h1,h3,h4,h5⟩:=cd pos cv z;exact⟨c,oc,vs,t,h1,ht _ _ True.intro h3,h4,h5⟩
  ·exact .inr ⟨q,c,oc,ob,vs,t,p0,p1,p2,ht _ _ True.intro h3,h4,h5,k _ _ (.inl rfl) e⟩
 |met f y=>
  have e:h.get? a=some (methodObj (.ref f) (.ref y)):=x;show h'.get? a=some (methodObj (.ref f) (.ref y));exact k a _ (.inl rfl) e
 |ext φ=>obtain⟨p,⟨o,e⟩,st⟩:=x;exact⟨st _ _ p fun o q=>k _ _ (.inl rfl) q,⟨o,k _ _ (.inl rfl) e⟩,st⟩
theorem HOk.lt(x:HOk P w H h)(e:H a=some o):a<h.objs.size:=(x a o e).lt
theorem HOk.fresh(x:HOk P w H h)(e:h.objs.size<=a):H a=none:=by
 cases q:H a with
 |none=>rfl
 |some u=>exact absurd (w0n (x.lt q) e) (w1y _)
theorem HOk.kept(x:HOk P w H h)(k:∀b u,h.get? b=some u->h'.get? b=some u):HOk P w H h':=fun a o e=>
 (x a o e).stay (fun b u _ q=>k b u q) (fun _ q=>q) fun _ _ _ q=>q
theorem HOk.laid(x:HOk P w H h)(k:∀b u,h.get? b=some u->h'.get? b=some u)(hp:h.objs.size<=a)(new:ObjOk P w (upd H a o) h' a o):HOk P w (upd H a o) h':=fun b u e=>by
 have hn:=x.fresh hp
 by_cases hb:b=a
 ·subst hb;rw[q0g]at e;cases e;exact new
 ·rw[q0b hb]at e;exact(x b u e).stay (fun c v _ q=>k c v q) (fun c q=>by rw[q0b (q0l q hn)];exact q) fun c xs _ q=>by rw[q0b (q0l q hn)];exact q
end
def Rd(H:Hp)(a:Addr)(u:HO):Prop:=H a=some u\/∃o,H a=some (.frz o u)
theorem Rd.ok{u:HO}(r:Rd H a u)(x:HOk P w H h):ObjOk P w H h a u:=by
 rcases r with r|⟨o,r⟩
 ·exact x a u r
 ·obtain⟨_,q⟩:=x a _ r;exact q
def Mut:Option HO->Prop
 |some (.lst _)=>True
 |some (.dK _)=>True
 |some (.dT _ _ _)=>True
 |some (.set _ _)=>True
 |some (.ins _ _ _)=>True
 |some (.ext _)=>True
 |_=>False
section
variable{x e:Addr}{o':HO}
theorem HOk.write(ok:HOk P w H h)(mu:Mut (H x))(he:e=x\/H e=some (.own x))(k:∀b u,b≠e->h.get? b=some u->h'.get? b=some u)(heo:∃u,h'.get? e=some u)
  (new:ObjOk P w (upd H x o') h' x o'):HOk P w (upd H x o') h':=fun b u q=>by
 have nown:∀c y,H c=some (.own y)->c≠x:=fun c y r z=>by subst z;rw[r]at mu;exact mu
 have ntup:∀c u,TupLike u->H c=some u->c≠x:=fun c u t r z=>by
  subst z;rw[r]at mu;cases u<;>first|exact mu|exact t
 by_cases hb:b=x
 ·subst hb;rw[q0g]at q;cases q;exact new
 ·rw[q0b hb]at q
  by_cases hbe:b=e
  ·have q':H b=some (.own x):=by
    rcases he with z|z
    ·exact absurd (hbe.trans z) hb
    ·rw[hbe];exact z
   rw[q]at q';cases q';obtain⟨v,hv⟩:=heo;exact⟨v,by rw[hbe];exact hv⟩
  ·refine(ok b u q).stay (fun c v hc r=>k c v ?_ r) (fun c r=>by rw[q0b (nown c b r)];exact r) fun c xs t r=>by rw[q0b (ntup c xs t r)];exact r
   rcases hc with rfl|hc
   ·exact hbe
   ·rintro rfl;rcases he with z|z
    ·exact nown c b hc z
    ·rw[hc]at z;cases z;exact hb rfl
end
structure Un(fs ex:List Addr)(H H':Hp)(h h':Heap):Prop where
 keep:∀b o,h.get? b=some o->H b=none->b∉fs->b∉ex->h'.get? b=some o
 slot:∀b o,h.get? b=some o->H b=none->b∈fs->b∉ex->∃sl,h'.get? b=some {o with slots:=sl}
 free:∀b o,h.get? b=some o->H b=none->b∉ex->H' b=none
 there:∀b o,h.get? b=some o->b∉ex->∃o',h'.get? b=some o'
 tups:∀b xs,H b=some (.tup xs)->H' b=some (.tup xs)
 frzs:∀b o u,H b=some (.frz o u)->H' b=some (.frz o u)
 tbls:∀b ps,H b=some (.tbl ps)->∃more,H' b=some (.tbl (ps++more))
section
variable{fs fs' ex ex':List Addr}{H1 H2:Hp}{h1 h2:Heap}{x e:Addr}{o:HO}
theorem Un.any(u:Un fs ex H H1 h h1){ob:Obj}(q:h.get? b=some ob)(n:H b=none)(hx:b∉ex):∃sl,h1.get? b=some {ob with slots:=sl}:=by
 by_cases hb:b∈fs
 ·exact u.slot b ob q n hb hx
 ·exact⟨ob.slots,u.keep b ob q n hb hx⟩
theorem Un.kept(k:∀b u,h.get? b=some u->h'.get? b=some u):Un fs ex H H h h':=
 ⟨fun b ob q _ _ _=>k b ob q,fun b ob q _ _ _=>⟨ob.slots,k b ob q⟩,fun _ _ _ n _=>n,fun b ob q _=>⟨ob,k b ob q⟩,fun _ _ q=>q,fun _ _ _ q=>q,fun _ ps q=>⟨#[],by rw[q];simp⟩⟩
theorem Un.refl:Un fs ex H H h h:=Un.kept fun _ _ q=>q
theorem Un.laid(k:∀b u,h.get? b=some u->h'.get? b=some u)(hp:h.objs.size<=a)(hn:H a=none):Un fs ex H (upd H a o) h h' where
 keep:=fun b u q _ _ _=>k b u q
 slot:=fun b u q _ _ _=>⟨u.slots,k b u q⟩
 free:=fun b u q n _=>by rw[q0b (w0q (w0n (Heap.lt_size q) hp))];exact n
 there:=fun b u q _=>⟨u,k b u q⟩
 tups:=fun b xs q=>by rw[q0b (q0l q hn)];exact q
 frzs:=fun b u xs q=>by rw[q0b (q0l q hn)];exact q
 tbls:=fun b ps q=>⟨#[],by rw[q0b (q0l q hn),q];simp⟩
theorem Un.write(mu:Mut (H x))(he:e=x\/H e=some (.own x))(k:∀b u,b≠e->h.get? b=some u->h'.get? b=some u)(heo:∃u,h'.get? e=some u):Un fs ex H (upd H x o) h h':=by
 have hx:∀b,H b=none->b≠x:=fun b n z=>by subst z;rw[n]at mu;exact mu
 have hb:∀b,H b=none->b≠e:=fun b n z=>by
  subst z;rcases he with r|r
  ·exact hx b n r
  ·rw[n]at r;cases r
 have hm:∀b u,H b=some u->¬Mut (some u)->b≠x:=fun b u q nm z=>by subst z;rw[q]at mu;exact nm mu
 refine⟨fun b u q n _ _=>k b u (hb b n) q,fun b u q n _ _=>⟨u.slots,k b u (hb b n) q⟩,fun b u q n _=>by rw[q0b (hx b n)];exact n,fun b u q _=>?_,
  fun b xs q=>by rw[q0b (hm b _ q fun z=>z)];exact q,fun b u xs q=>by rw[q0b (hm b _ q fun z=>z)];exact q,fun b ps q=>⟨#[],by rw[q0b (hm b _ q fun z=>z),q];simp⟩⟩
 by_cases hbe:b=e
 ·subst hbe;exact heo
 ·exact⟨u,k b u hbe q⟩
end
noncomputable def trk(h:Heap)(H:Hp):List Addr:=(List.range h.objs.size).filter fun a=>(H a).isSome
noncomputable def hidT(h:Heap)(H:Hp):Heap:=PySem.W.hideAll h (trk h H)
theorem x4w(h:Heap)(H:Hp):(hidT h H).objs.size=h.objs.size:=PySem.W.hideAll_size _ _
theorem x73{o:Obj}(e:h.get? b=some o)(n:H b=none):(hidT h H).get? b=some o:=
 hideAll_get _ e fun hm=>by
  have q:(H b).isSome=true:=(w3h.mp hm).2;rw[n]at q;simp at q
theorem y1i{o:Obj}(e:(hidT h H).get? b=some o):h.get? b=some o/\H b=none:=by
 have e':h.get? b=some o:=PySem.W.of_hideAll (trk h H) e;refine⟨e',?_⟩;cases q:H b with
 |none=>rfl
 |some x=>
  have hm:b∈trk h H:=w3h.mpr ⟨w1n.mpr (Heap.lt_size e'),by simp[q]⟩;have z:(hidT h H).get? b=none:=PySem.W.hideAll_none (trk h H) hm;rw[z]at e;cases e
noncomputable def allNews(g h:Heap)(L:Addr):List (Addr×Obj):=(List.range h.objs.size).filterMap fun a=>if a=L\/(g.get? a).isSome=true then none else(h.get? a).map fun o=>(a,o)
noncomputable def rest(g h:Heap)(L d:Addr):List (Addr×Obj):=(allNews g h L).filter fun p=>decide (p.1≠d)
structure Mod(K:PySem.W.Frag)(mg:Str->Option Value)(base:Heap):Prop where
 kin:K.In base
 glob:base.Ns mainGlobals mg
 blt:∃mb,base.Ns builtinsNs mb/\∀x:Str,x≠"__name__"->mb x=bootBuiltins x
 nolimit:base.NoLimit
structure Cx where
 prog:Program
 w:World
 K:PySem.W.Frag
 mg:Str->Option Value
 base:Heap
 A:Around
 N:List Str
 s₀:Shared
 H₀:Hp
 env:Env
 outer:List Env
 stack:List Env
 ex:List Addr
 fn:Str->Bool
 calm:Bool
 pn:List (Addr×Obj)
 xe:Value->Shared->Prop
variable{X:Cx}
noncomputable def frs(l:List Env):List Addr:=l.filterMap (·.frame)
noncomputable abbrev Cx.fs(X:Cx):List Addr:=frs X.outer
def Vis(sc:Scope)(x:Str):Prop:=sc.names.lookup x=some .local\/sc.names.lookup x=some .cell\/sc.names.lookup x=some .free
def Loc(sc:Scope)(x:Str):Prop:=sc.names.lookup x=some .local\/sc.names.lookup x=some .cell
def Look(env:Env)(h:Heap)(m:Str->Option Value)(x:Str)(u:Value):Prop:=
 (env.kindOf x=some .local/\m x=some u)\/((env.kindOf x=some .cell\/env.kindOf x=some .free)/\∃c,env.cells.lookup x=some c/\h.IsCell c (some u))
noncomputable abbrev markO(P:Addr)(q:Str):Obj:={cls:=.str q 0,data:=.fields #[.ref P]}
def TabOk(K:PySem.W.Frag)(H:Hp):Prop:=∀(a:Addr)(q:Str)(P:Addr),(a,markO P q)∈K->∃ps:Array Value,H P=some (.tbl ps)/\ps[0]?=some (.bool true)/\ps[1]?=some (.str q 0)
noncomputable def noMark(K:PySem.W.Frag):Bool:=K.all fun p=>match p.2.cls with
 |.str _ _=>false
 |_=>true
theorem TabOk.vac(h:noMark K=true):TabOk K H:=fun a q P m=>by
 have:=w1c.mp h _ m;cases this
theorem TabOk.un{fs ex:List Addr}{h':Heap}(t:TabOk K H)(u:Un fs ex H H' h h'):TabOk K H':=fun a q P m=>by
 obtain⟨ps,e,p0,p1⟩:=t a q P m;obtain⟨more,e'⟩:=u.tbls P ps e;refine⟨_,e',?_,?_⟩
 ·rw[w2u (by obtain⟨z,_⟩:=w2v.mp p0;exact z)];exact p0
 ·rw[w2u (by obtain⟨z,_⟩:=w2v.mp p1;exact z)];exact p1
theorem TabOk.laid{D:Addr}{o:HO}(t:TabOk K H)(hn:H D=none):TabOk K (upd H D o):=fun a q P m=>by
 obtain⟨ps,e,p⟩:=t a q P m;exact⟨ps,by rw[q0b (q0l e hn)];exact e,p⟩
structure Cx.Ok(X:Cx):Prop where
 mod:Mod X.K X.mg X.base
 kind:X.env.scope.kind=.function
 glob:X.env.globals=mainGlobals
 blt:X.env.builtins=builtinsNs
 above:X.s₀.heap.objs.size<=X.env.locals
 inj:∀x y c,X.env.cells.lookup x=some c->X.env.cells.lookup y=some c->x=y
 has:∀x,(X.env.kindOf x=some .cell\/X.env.kindOf x=some .free)->∃c,X.env.cells.lookup x=some c
 cab:∀x c,X.fn x=true->X.env.cells.lookup x=some c->X.s₀.heap.objs.size<=c
 hd:X.calm=true->X.A.handled=none
 frames:X.A.frames=some X.stack
 stk:X.stack=X.outer\/(X.stack=X.env::X.outer/\X.env.frame=some X.env.locals)
 exf:∀b∈X.ex,b≠X.env.locals/\∀x c,X.env.cells.lookup x=some c->c≠b
 bs:∀b o,X.base.get? b=some o->X.s₀.heap.get? b=some o/\X.H₀ b=none
 bsz:X.base.objs.size<=X.s₀.heap.objs.size
 noex:∀b o,X.base.get? b=some o->b∉X.ex
 exfs:∀b∈X.ex,b∉X.fs
 funs:X.s₀.heap.FunFrames X.base X.outer
 frf:∀b∈X.fs,X.H₀ b=none
 tab:TabOk X.K X.H₀
structure Inv(X:Cx)(pins:List (Addr×Obj))(σ:List (Option V))(H:Hp)(s:Shared):Prop where
 ok:X.Ok
 os:s.os=X.s₀.os
 bare:AllBare s.gens
 base:Un X.fs X.ex X.H₀ H X.s₀.heap s.heap
 loc:∃m,s.heap.Ns X.env.locals m/\∀(i:Nat)(x:Str)(v:V),X.N[i]?=some x->σ[i]?=some (some v)->Vis X.env.scope x->∃u,RelV v u/\Look X.env s.heap m x u
 cell:∀x c,X.env.cells.lookup x=some c->∃v,s.heap.IsCell c v
 free:H X.env.locals=none
 freeC:∀x c,X.env.cells.lookup x=some c->H c=none
 pin:∀p∈X.pn++pins,s.heap.get? p.1=some p.2/\H p.1=none/\p.1≠X.env.locals/\p.1∉X.fs/\∀v,p.2.data≠.cell v
 hok:HOk X.prog X.w H s.heap
 len:σ.length=X.N.length
section
variable{σ:List (Option V)}
theorem Cx.Ok.nofr(ok:X.Ok){o:Obj}(e:X.base.get? b=some o):b∉X.fs:=fun hb=>by
 have:=(ok.funs.mem hb).1
 rw[e]at this;cases this
theorem Inv.bs(I:Inv X pins σ H s):∀b o,X.base.get? b=some o->s.heap.get? b=some o/\H b=none:=fun b o e=>
 ⟨I.base.keep b o (I.ok.bs b o e).1 (I.ok.bs b o e).2 (I.ok.nofr e) (I.ok.noex b o e),I.base.free b o (I.ok.bs b o e).1 (I.ok.bs b o e).2 (I.ok.noex b o e)⟩
theorem Inv.bk(I:Inv X pins σ H s):∀b o,X.base.get? b=some o->s.heap.get? b=some o:=fun b o e=>(I.bs b o e).1
theorem Inv.mod(I:Inv X pins σ H s):Mod X.K X.mg X.base:=I.ok.mod
theorem Inv.kIn(I:Inv X pins σ H s):X.K.In s.heap:=I.ok.mod.kin.keeps I.bk
theorem Inv.fr(I:Inv X pins σ H s):∃m,Fr X.base X.env.locals s.heap m:=
 let ⟨m,hn,_⟩:=I.loc
 ⟨m,hn,I.bk,w0u I.ok.bsz I.ok.above⟩
theorem Inv.lt(I:Inv X pins σ H s):X.env.locals<s.heap.objs.size:=let ⟨_,hn,_⟩:=I.loc;hn.lt
theorem Inv.sz(I:Inv X pins σ H s):X.s₀.heap.objs.size<=s.heap.objs.size:=w0u I.ok.above (w4a I.lt)
theorem Inv.nofs(I:Inv X pins σ H s)(h:s.heap.objs.size<=a):a∉X.fs:=fun hb=>by
 obtain⟨_,o,ho,_⟩:=I.ok.funs.mem hb
 exact absurd (w0n (Heap.lt_size ho) (w0u I.sz h)) (w1y _)
theorem Inv.cne(I:Inv X pins σ H s):∀x c,X.env.cells.lookup x=some c->c≠X.env.locals:=fun x c e z=>by
 obtain⟨v,o,ho,hd⟩:=I.cell x c e;obtain⟨m,⟨o',es,ep,ho',hd',_⟩,_⟩:=I.loc;rw[z,ho']at ho;cases ho;rw[hd']at hd;cases hd
theorem Inv.funs(I:Inv X pins σ H s):s.heap.FunFrames X.base X.outer:=by
 have all:∀(l:List Env),(∀b∈frs l,b∈X.fs)->X.s₀.heap.FunFrames X.base l->s.heap.FunFrames X.base l:=by
  intro l
  induction l with
  |nil=>intro _ _;trivial
  |cons env r ih=>
   intro hs hl;obtain⟨hk,⟨L,o,hf,hn,ho,hd⟩,hr⟩:=hl;have hL:L∈X.fs:=hs L (by unfold frs;rw[w2s,hf];exact w0s);obtain⟨sl,e⟩:=I.base.slot L o ho (I.ok.frf L hL) hL fun z=>I.ok.exfs L z hL
   exact⟨hk,⟨L,_,hf,hn,e,hd⟩,ih (fun b hb=>hs b (by unfold frs;rw[w2s,hf];exact w0m _ hb)) hr⟩
 exact all X.outer (fun _ hb=>hb) I.ok.funs
theorem Inv.stack(I:Inv X pins σ H s):s.heap.FunFrames X.base X.stack:=by
 rcases I.ok.stk with e|⟨e,hf⟩
 ·rw[e];exact I.funs
 ·rw[e];obtain⟨m,hn,_⟩:=I.loc;refine .cons (by rw[I.ok.kind];decide) hf hn ?_ I.funs
  exact Heap.get?_none_of_le (w0u I.ok.bsz I.ok.above)
theorem Inv.stkSub(I:Inv X pins σ H s):∀b∈frs X.stack,b∈X.env.locals::X.fs:=fun b hb=>by
 rcases I.ok.stk with e|⟨e,hf⟩
 ·rw[e]at hb;exact w0m _ hb
 ·rw[e]at hb;unfold frs at hb;rw[w2s,hf]at hb;exact hb
theorem Inv.stkFree(I:Inv X pins σ H s):∀b∈frs X.stack,H b=none:=fun b hb=>by
 rcases w0j.mp (I.stkSub b hb)with e|hb
 ·rw[e];exact I.free
 ·obtain⟨_,o,ho,_⟩:=I.ok.funs.mem hb
  exact I.base.free b o ho (I.ok.frf b hb) fun z=>I.ok.exfs b z hb
theorem Inv.step{g':Array GenState}{d':Drawn}{ch:List Addr}(I:Inv X pins σ H s)
  (hch:∀b∈ch,(b∈X.ex\/X.s₀.heap.objs.size<=b)/\b≠X.env.locals/\(∀x c,X.env.cells.lookup x=some c->c≠b)/\∀p∈X.pn++pins,p.1≠b)
  (keep:∀b o,b≠X.env.locals->b∉X.fs->b∉ch->s.heap.get? b=some o->H b=none->h'.get? b=some o)
  (slot:∀b o,b≠X.env.locals->b∈X.fs->b∉ch->s.heap.get? b=some o->H b=none->∃sl,h'.get? b=some {o with slots:=sl})(free:∀b o,b∉ch->s.heap.get? b=some o->H b=none->H' b=none)
  (there:∀b o,b∉ch->s.heap.get? b=some o->∃o',h'.get? b=some o')
  (tups:∀b xs,H b=some (.tup xs)->H' b=some (.tup xs))(frzs:∀b o u,H b=some (.frz o u)->H' b=some (.frz o u))(tbls:∀b ps,H b=some (.tbl ps)->∃more,H' b=some (.tbl (ps++more)))
  (ns:∀m,s.heap.Ns X.env.locals m->h'.Ns X.env.locals m)(hok:HOk X.prog X.w H' h')(hg:AllBare g'):
  Inv X pins σ H' {s with heap:=h',gens:=g',drawn:=d',toks:=t'}:=by
 have neL:∀b o,X.s₀.heap.get? b=some o->b≠X.env.locals:=fun b o e=>w0q (w0n (Heap.lt_size e) I.ok.above)
 have neC:∀b o,X.s₀.heap.get? b=some o->b∉X.ex->b∉ch:=fun b o e hx hb=>by
  rcases(hch b hb).1 with z|z
  ·exact hx z
  ·exact absurd (w0n (Heap.lt_size e) z) (w1y _)
 have cellK:∀x c,X.env.cells.lookup x=some c->∀v,s.heap.IsCell c v->h'.IsCell c v:=fun x c e v ⟨o,ho,hd⟩=>by
  have nch:c∉ch:=fun z=>(hch c z).2.2.1 x c e rfl
  by_cases hc:c∈X.fs
  ·obtain⟨sl,q⟩:=slot c o (I.cne x c e) hc nch ho (I.freeC x c e);exact⟨_,q,hd⟩
  ·exact⟨o,keep c o (I.cne x c e) hc nch ho (I.freeC x c e),hd⟩
 refine⟨I.ok,I.os,hg,⟨fun b o e n hb hx=>?_,fun b o e n hb hx=>?_,fun b o e n hx=>?_,fun b o e hx=>?_,fun b xs e=>tups b xs (I.base.tups b xs e),fun b o xs e=>frzs b o xs (I.base.frzs b o xs e),fun b ps e=>?_⟩,?_,fun x c e=>?_,?_,fun x c e=>?_,fun p hp=>?_,hok,I.len⟩
 ·exact keep b o (neL b o e) hb (neC b o e hx) (I.base.keep b o e n hb hx) (I.base.free b o e n hx)
 ·obtain⟨sl,e1⟩:=I.base.slot b o e n hb hx;obtain⟨sl',e2⟩:=slot b _ (neL b o e) hb (neC b o e hx) e1 (I.base.free b o e n hx);exact⟨sl',e2⟩
 ·obtain⟨o',e1⟩:=I.base.there b o e hx;exact free b o' (neC b o e hx) e1 (I.base.free b o e n hx)
 ·obtain⟨o',e1⟩:=I.base.there b o e hx;exact there b o' (neC b o e hx) e1
 ·obtain⟨m1,e1⟩:=I.base.tbls b ps e;obtain⟨m2,e2⟩:=tbls b _ e1;exact⟨m1++m2,by rw[e2,Array.append_assoc]⟩
 ·obtain⟨m,hn,hl⟩:=I.loc;refine⟨m,ns m hn,fun i x v e1 e2 e3=>?_⟩
  obtain⟨u,r,l⟩:=hl i x v e1 e2 e3;refine⟨u,r,?_⟩;rcases l with l|⟨k,c,e,z⟩
  ·exact .inl l
  ·exact .inr ⟨k,c,e,cellK x c e _ z⟩
 ·obtain⟨v,z⟩:=I.cell x c e;exact⟨v,cellK x c e v z⟩
 ·obtain⟨m,⟨o,_,_,ho,_⟩,_⟩:=I.loc;exact free _ o (fun z=>(hch _ z).2.1 rfl) ho I.free
 ·obtain⟨v,o,ho,hd⟩:=I.cell x c e;exact free c o (fun z=>(hch c z).2.2.1 x c e rfl) ho (I.freeC x c e)
 ·obtain⟨e,n,ne,nf,d⟩:=I.pin p hp;have nch:p.1∉ch:=fun z=>(hch p.1 z).2.2.2 p hp rfl
  exact⟨keep p.1 p.2 ne nf nch e n,free p.1 p.2 nch e n,ne,nf,d⟩
theorem Inv.un(I:Inv X pins σ H s)(u:Un X.fs [] H H' s.heap h')(hok:HOk X.prog X.w H' h'):Inv X pins σ H' {s with heap:=h',toks:=t'}:=by
 obtain⟨m,⟨o,es,ep,ho,r⟩,_⟩:=id I.loc;obtain⟨sl,hL⟩:=u.any ho I.free (by simp)
 exact I.step (g':=s.gens) (d':=s.drawn) (ch:=[]) (fun _ z=>nomatch z) (fun b o _ hb _ e n=>u.keep b o e n hb (by simp)) (fun b o _ hb _ e n=>u.slot b o e n hb (by simp)) (fun b o _ e n=>u.free b o e n (by simp)) (fun b o _ e=>u.there b o e (by simp)) u.tups u.frzs u.tbls (fun m' hm=>by
  obtain⟨o',es',ep',ho',r'⟩:=hm;rw[ho]at ho';cases ho';exact⟨_,es',ep',hL,r'⟩) hok I.bare
theorem Inv.call{g':Array GenState}{d':Drawn}(I:Inv X pins σ H s)(u:Un (frs X.stack) ch H H' s.heap h')(hok:HOk X.prog X.w H' h')(hg:AllBare g')
  (hch:∀b∈ch,(b∈X.ex\/X.s₀.heap.objs.size<=b)/\b≠X.env.locals/\(∀x c,X.env.cells.lookup x=some c->c≠b)/\∀p∈X.pn++pins,p.1≠b):
  Inv X pins σ H' {s with heap:=h',gens:=g',drawn:=d',toks:=t'}:=by
 obtain⟨m,⟨o,es,ep,ho,r⟩,_⟩:=id I.loc;obtain⟨sl,hL⟩:=u.any ho I.free fun z=>(hch _ z).2.1 rfl
 exact I.step (ch:=ch) hch (fun b o hL hb hc e n=>u.keep b o e n (fun z=>(w0j.mp (I.stkSub b z)).elim hL hb) hc) (fun b o _ _ hc e n=>u.any e n hc) (fun b o hc e n=>u.free b o e n hc) (fun b o hc e=>u.there b o e hc) u.tups u.frzs u.tbls (fun m' hm=>by
  obtain⟨o',es',ep',ho',r'⟩:=hm;rw[ho]at ho';cases ho';exact⟨_,es',ep',hL,r'⟩) hok hg
theorem Inv.turned{t':Nat}{it:Addr}(I:Inv X pins σ H s)(k:∀b o,b≠it->s.heap.get? b=some o->h'.get? b=some o)(hn:H it=none)(hL:it≠X.env.locals)
  (h1:it∈X.ex\/X.s₀.heap.objs.size<=it)(h2:∀x c,X.env.cells.lookup x=some c->c≠it)(h3:∀p∈X.pn++pins,p.1≠it):Inv X pins σ H {s with heap:=h',toks:=t'}:=by
 have nit:∀b u,H b=some u->b≠it:=fun b u e z=>by rw[z,hn]at e;cases e
 refine I.step (g':=s.gens) (d':=s.drawn) (ch:=[it]) (fun b hb=>?_) (fun b o _ _ hc e _=>k b o (fun z=>hc (by simp[z])) e) (fun b o _ _ hc e _=>⟨o.slots,k b o (fun z=>hc (by simp[z])) e⟩) (fun _ _ _ _ n=>n)
  (fun b o hc e=>⟨o,k b o (fun z=>hc (by simp[z])) e⟩) (fun _ _ e=>e) (fun _ _ _ e=>e) (fun b ps e=>⟨#[],by rw[e];simp⟩) (fun m hm=>?_) (fun b u e=>?_) I.bare
 ·have e:b=it:=by simpa using hb
  subst e;exact⟨h1,hL,h2,h3⟩
 ·obtain⟨o,es,ep,ho,r⟩:=hm;exact⟨o,es,ep,k _ o (Ne.symm hL) ho,r⟩
 ·refine(I.hok b u e).stay (fun c v hc q=>k c v ?_ q) (fun _ q=>q) fun _ _ _ q=>q
  rcases hc with z|z
  ·rw[z];exact nit b u e
  ·exact nit c _ z
theorem Inv.tok(I:Inv X pins σ H s)(t:Nat):Inv X pins σ H {s with toks:=t}:=I.un (h':=s.heap) (t':=t) Un.refl I.hok
theorem Inv.kept{t':Nat}(I:Inv X pins σ H s)(k:∀b u,s.heap.get? b=some u->h'.get? b=some u):Inv X pins σ H {s with heap:=h',toks:=t'}:=I.un (Un.kept k) (I.hok.kept k)
theorem Inv.laid{a:Addr}{o:HO}{t':Nat}(I:Inv X pins σ H s)(k:∀b u,s.heap.get? b=some u->h'.get? b=some u)(hp:s.heap.objs.size<=a)(new:ObjOk X.prog X.w (upd H a o) h' a o):
  Inv X pins σ (upd H a o) {s with heap:=h',toks:=t'}:=I.un (Un.laid k hp (I.hok.fresh hp)) (I.hok.laid k hp new)
theorem Inv.write{x e:Addr}{o:HO}(I:Inv X pins σ H s)(mu:Mut (H x))(he:e=x\/H e=some (.own x))(k:∀b u,b≠e->s.heap.get? b=some u->h'.get? b=some u)(heo:∃u,h'.get? e=some u)
  (new:ObjOk X.prog X.w (upd H x o) h' x o):Inv X pins σ (upd H x o) {s with heap:=h',toks:=t'}:=I.un (Un.write mu he k heo) (I.hok.write mu he k heo new)
theorem Inv.weak{σ':List (Option V)}(I:Inv X pins σ H s)(hl:σ'.length=σ.length)(w:∀(i:Nat) v,σ'[i]?=some (some v)->σ[i]?=some (some v)):Inv X pins σ' H s:=
 ⟨I.ok,I.os,I.bare,I.base,let ⟨m,hn,hl'⟩:=I.loc;⟨m,hn,fun i x v e1 e2 e3=>hl' i x v e1 (w i v e2) e3⟩,I.cell,I.free,I.freeC,I.pin,I.hok,hl.trans I.len⟩
theorem Inv.pins_of{pins':List (Addr×Obj)}(I:Inv X pins σ H s)(h:∀p∈pins',s.heap.get? p.1=some p.2/\H p.1=none/\p.1≠X.env.locals/\p.1∉X.fs/\∀v,p.2.data≠.cell v):Inv X pins' σ H s:=
 ⟨I.ok,I.os,I.bare,I.base,I.loc,I.cell,I.free,I.freeC,fun p hp=>(w1q.mp hp).elim (fun z=>I.pin p (w1h _ z)) (h p),I.hok,I.len⟩
theorem q90(hN:N.Nodup){j:Nat}(a:N[i]?=some x)(b:N[j]?=some x):i=j:=by
 obtain⟨h1,e1⟩:=w0a.mp a;obtain⟨h2,e2⟩:=w0a.mp b;exact(List.getElem_inj hN).mp (e1.trans e2.symm)
theorem x4x{Q:Unit->Shared->Prop}(I:Inv X pins σ H s)(hN:X.N.Nodup)(hi:X.N[i]?=some x)(hx:Loc X.env.scope x)(r:RelV v u)
  (h:∀s',Inv X pins (σ.set i (some v)) H s'->(∃a,Heap.SameBut a s.heap s'.heap/\(a=X.env.locals\/X.env.cells.lookup x=some a))->Q () s')(hf:X.fn x=true\/X.env.scope.names.lookup x=some .local:=by walk_at "2"):wpAny M A (storeName X.env x u) Q E s:=by
 obtain⟨m,hn,hl⟩:=id I.loc;have hcls:(X.env.scope.kind==.class||(X.env.scope.kind==.module&&X.env.locals != X.env.globals))=false:=by rw[I.ok.kind];rfl
 have hiσ:i<σ.length:=by rw[I.len];exact(w0a.mp hi).1
 have cne:=I.cne
 have tracked:∀{a:Addr}{h':Heap},(∃o,s.heap.get? a=some o/\H a=none)->Heap.SameBut a s.heap h'->HOk X.prog X.w H h':=fun {a h'} ha hs b ob e=>by
  obtain⟨_,_,hfree⟩:=ha;refine(I.hok b ob e).stay (fun c w' hc q=>(hs.2 c ?_).trans q) (fun _ q=>q) fun _ _ _ q=>q
  rintro rfl;rcases hc with rfl|hc
  ·rw[hfree]at e;cases e
  ·rw[hfree]at hc;cases hc
 rcases hx with hk|hk
 ·refine wpAny_storeName_local hk hn (fun h' hn' hs=>?_) hcls
  obtain⟨oL,_,_,hoL,_⟩:=id hn;refine h _ ⟨I.ok,I.os,I.bare,⟨fun b o e n hb hx=>?_,fun b o e n hb hx=>?_,I.base.free,fun b o e hx=>?_,I.base.tups,I.base.frzs,I.base.tbls⟩,⟨_,hn',fun j y v' e1 e2 e3=>?_⟩,fun y c e=>?_,I.free,I.freeC,fun p hp=>?_,tracked ⟨oL,hoL,I.free⟩ hs,by simpa using I.len⟩ ⟨_,hs,.inl rfl⟩
  ·exact(hs.2 b (w0q (w0n (Heap.lt_size e) I.ok.above))).trans (I.base.keep b o e n hb hx)
  ·obtain⟨sl,e1⟩:=I.base.slot b o e n hb hx;exact⟨sl,(hs.2 b (w0q (w0n (Heap.lt_size e) I.ok.above))).trans e1⟩
  ·obtain⟨o',e1⟩:=I.base.there b o e hx;exact⟨o',(hs.2 b (w0q (w0n (Heap.lt_size e) I.ok.above))).trans e1⟩
  ·by_cases hj:j=i
   ·subst hj;rw[hi]at e1;cases e1;rw[w0g hiσ]at e2;cases e2;exact⟨u,r,.inl ⟨hk,by simp⟩⟩
   ·rw[w0e (Ne.symm hj)]at e2;obtain⟨u',r',q⟩:=hl j y v' e1 e2 e3;refine⟨u',r',?_⟩;rcases q with⟨k,e⟩|⟨k,c,e,z⟩
    ·refine .inl ⟨k,?_⟩;have:y≠x:=fun e=>hj (q90 hN e1 (e ▸ hi))
     simp[this,e]
    ·exact .inr ⟨k,c,e,z.sameBut hs (cne y c e)⟩
  ·obtain⟨w',z⟩:=I.cell y c e;exact⟨w',z.sameBut hs (cne y c e)⟩
  ·obtain⟨e,n,ne,nf,d⟩:=I.pin p hp;exact⟨(hs.2 p.1 ne).trans e,n,ne,nf,d⟩
 ·have hfn:X.fn x=true:=by
   rcases hf with z|z
   ·exact z
   ·rw[z]at hk;cases hk
  obtain⟨c,hc⟩:=I.ok.has x (.inl hk);obtain⟨w',z⟩:=I.cell x c hc;refine wpAny_storeName_cell I.ok.kind hk hc z (fun h' hc' hs=>?_)
  obtain⟨oc,hoc,hocd⟩:=id z;refine h {s with heap:=h'} ⟨I.ok,I.os,I.bare,⟨fun b o e n hb hx=>?_,fun b o e n hb hx=>?_,I.base.free,fun b o e hx=>?_,I.base.tups,I.base.frzs,I.base.tbls⟩,⟨m,hn.sameBut hs (Ne.symm (cne x c hc)),fun j y v' e1 e2 e3=>?_⟩,fun y c' e=>?_,I.free,I.freeC,fun p hp=>?_,tracked ⟨oc,hoc,I.freeC x c hc⟩ hs,by simpa using I.len⟩ ⟨c,hs,.inr hc⟩
  ·exact(hs.2 b (w0q (w0n (Heap.lt_size e) (I.ok.cab x c hfn hc)))).trans (I.base.keep b o e n hb hx)
  ·obtain⟨sl,e1⟩:=I.base.slot b o e n hb hx;exact⟨sl,(hs.2 b (w0q (w0n (Heap.lt_size e) (I.ok.cab x c hfn hc)))).trans e1⟩
  ·obtain⟨o',e1⟩:=I.base.there b o e hx;exact⟨o',(hs.2 b (w0q (w0n (Heap.lt_size e) (I.ok.cab x c hfn hc)))).trans e1⟩
  ·by_cases hj:j=i
   ·subst hj;rw[hi]at e1;cases e1;rw[w0g hiσ]at e2;cases e2;exact⟨u,r,.inr ⟨.inl hk,c,hc,hc'⟩⟩
   ·rw[w0e (Ne.symm hj)]at e2;obtain⟨u',r',q⟩:=hl j y v' e1 e2 e3;refine⟨u',r',?_⟩;rcases q with q|⟨k,c',e,z'⟩
    ·exact .inl q
    ·refine .inr ⟨k,c',e,z'.sameBut hs ?_⟩;rintro rfl;exact hj (q90 hN e1 (I.ok.inj _ _ _ e hc ▸ hi))
  ·by_cases hcc:c'=c
   ·subst hcc;exact⟨_,hc'⟩
   ·obtain⟨w2,z2⟩:=I.cell y c' e;exact⟨w2,z2.sameBut hs hcc⟩
  ·obtain⟨e,n,ne,nf,d⟩:=I.pin p hp;refine⟨(hs.2 p.1 ?_).trans e,n,ne,nf,d⟩;intro q;rw[q,hoc]at e;have q':oc=p.2:=Option.some.inj e;exact d w' (by rw[<- q'];exact hocd)
theorem q91{Q:Unit->Shared->Prop}(I:Inv X pins σ H s)(hN:X.N.Nodup)(hi:X.N[i]?=some x)(hx:Loc X.env.scope x)(r:RelV v u)
  (h:∀s',Inv X pins (σ.set i (some v)) H s'->Q () s')(hf:X.fn x=true\/X.env.scope.names.lookup x=some .local:=by walk_at "2"):wpAny M A (storeName X.env x u) Q E s:=
 x4x I hN hi hx r (fun s' I' _=>h s' I') hf
theorem Inv.call'{s':Shared}{ch:List Addr}(I:Inv X pins σ H s)(ho:s'.os=s.os)(u:Un (frs X.stack) ch H H' s.heap s'.heap)(hok:HOk X.prog X.w H' s'.heap)(hg:AllBare s'.gens)
  (hch:∀b∈ch,(b∈X.ex\/X.s₀.heap.objs.size<=b)/\b≠X.env.locals/\(∀x c,X.env.cells.lookup x=some c->c≠b)/\∀p∈X.pn++pins,p.1≠b):Inv X pins σ H' s':=by
 obtain⟨h',g',d',t',o'⟩:=s';have e:o'=s.os:=ho;subst e;exact I.call (g':=g') (t':=t') (d':=d') u hok hg hch
end
abbrev XK:=Value->Option Addr->Hp->Prop
noncomputable abbrev St:=List (Option V)
variable{σ:St}
abbrev VK:=V->Hp->Prop
abbrev TE:=St->Hp->VK->Prop
variable{ta te:TE}
abbrev TT:=St->Hp->(Bool->Hp->Prop)->Prop
abbrev TA:=St->Hp->(List V->Hp->Prop)->Prop
structure Ends where
 nx:St->Hp->Prop
 rt:VK
 bk:St->Hp->Prop:=fun _ _=>False
 ct:St->Hp->Prop:=fun _ _=>False
abbrev TS:=Ends->St->Hp->Prop
variable{tb:TS}
def EP(X:Cx)(pins:List (Addr×Obj))(σ:St)(Q:VK)(u:Value)(s':Shared):Prop:=∃v H',Inv X pins σ H' s'/\RelV v u/\Q v H'
def TP(X:Cx)(pins:List (Addr×Obj))(σ:St)(Q:Bool->Hp->Prop)(b:Bool)(s':Shared):Prop:=∃H',Inv X pins σ H' s'/\Q b H'
def AP(X:Cx)(pins:List (Addr×Obj))(σ:St)(Q:List V->Hp->Prop)(us:List Value)(s':Shared):Prop:=∃vs H',Inv X pins σ H' s'/\Vals vs us/\Q vs H'
def SP(X:Cx)(pins:List (Addr×Obj))(D:Ends)(f:Flow)(s':Shared):Prop:=
 match f with
 |.next=>∃σ' H',Inv X pins σ' H' s'/\D.nx σ' H'
 |.brk=>∃σ' H',Inv X pins σ' H' s'/\D.bk σ' H'
 |.cont=>∃σ' H',Inv X pins σ' H' s'/\D.ct σ' H'
 |.ret u=>∃v σ' H',Inv X pins σ' H' s'/\RelV v u/\D.rt v H'
def PE(X:Cx)(e:Expr)(t:TE):Prop:=
 ∀(pins:List (Addr×Obj))(s:Shared)(σ:St)(H:Hp)(Q:VK),Inv X pins σ H s->t σ H Q->wpAny (model X.prog X.w) X.A (eval e X.env) (EP X pins σ Q) X.xe s
def PT(X:Cx)(e:Expr)(t:TT):Prop:=
 ∀(pins:List (Addr×Obj))(s:Shared)(σ:St)(H:Hp)(Q:Bool->Hp->Prop),Inv X pins σ H s->t σ H Q->wpAny (model X.prog X.w) X.A (isTrue e X.env (eval e X.env)) (TP X pins σ Q) X.xe s
def PW(X:Cx)(e:Expr)(t:TT):Prop:=
 ∀(whole:Sem Value)(pins:List (Addr×Obj))(s:Shared)(σ:St)(H:Hp)(Q:Bool->Hp->Prop),Inv X pins σ H s->t σ H Q->wpAny (model X.prog X.w) X.A (isTrue e X.env whole) (TP X pins σ Q) X.xe s
theorem PW.pt{t:TT}(h:PW X e t):PT X e t:=h _
def PA(X:Cx)(es:List Expr)(t:TA):Prop:=
 ∀(pos:Pos)(pins:List (Addr×Obj))(s:Shared)(σ:St)(H:Hp)(Q:List V->Hp->Prop),Inv X pins σ H s->t σ H Q->wpAny (model X.prog X.w) X.A (spliced (backTo pos (starEach es X.env))) (AP X pins σ Q) X.xe s
def PS(X:Cx)(st:Stmt)(t:TS):Prop:=
 ∀(pins:List (Addr×Obj))(s:Shared)(σ:St)(H:Hp)(D:Ends),Inv X pins σ H s->t D σ H->wpAny (model X.prog X.w) X.A (exec st X.env) (SP X pins D) X.xe s
def PSs(X:Cx)(st:List Stmt)(t:TS):Prop:=
 ∀(pins:List (Addr×Obj))(s:Shared)(σ:St)(H:Hp)(D:Ends),Inv X pins σ H s->t D σ H->wpAny (model X.prog X.w) X.A (execs st X.env) (SP X pins D) X.xe s
theorem thn{α:Type}{t:Sem α}{Q Q':α->Shared->Prop}(h:wpAny M A t Q E s)(hQ:∀a s,Q a s->Q' a s):wpAny M A t Q' E s:=wpAny_mono h hQ fun _ _ x=>x
section
def tVar(i:Nat):TE:=fun σ H Q=>∃v,σ[i]?=some (some v)/\Q v H
def tC(v:V):TE:=fun _ H Q=>Q v H
theorem y5i(hN:X.N[i]?=some x)(hv:Vis X.env.scope x)(hd:(x==("__debug__":Str))=false:=by decide)(hcd:(x==("__classdict__":Str))=false:=by decide):PE X (.Name x pos) (tVar i):=by
 intro pins s σ H Q I h;obtain⟨v,e,h⟩:=h;obtain⟨m,hn,hl⟩:=I.loc;obtain⟨u,r,l⟩:=hl i x v hN e hv;have fin:EP X pins σ Q u s:=⟨v,H,I,r,h⟩;rcases l with⟨hk,hm⟩|⟨hk,c,hc,hcell⟩
 ·exact wpAny_Name (wpAny_loadName_local I.ok.kind hk hn hm fin) hd
 ·rcases hk with hk|hk
  ·exact wpAny_Name (wpAny_loadName_cell I.ok.kind hk hc hcell fin) hd
  ·exact wpAny_Name (wpAny_loadName_free I.ok.kind hk hc hcell fin hcd) hd
theorem q92{i j pos}:PE X (.Constant (.int i) j pos) (tC (.int i)):=fun _ _ _ H _ I h=>wpAny_Constant_int ⟨.int i,H,I.tok _,⟨_,rfl⟩,h⟩
theorem y8t{b j pos}:PE X (.Constant (.bool b) j pos) (tC (.bl b)):=fun _ _ _ H _ I h=>Constant_bool ⟨.bl b,H,I,rfl,h⟩
theorem y5j{x j pos}:PE X (.Constant (.str x) j pos) (tC (.str x)):=fun _ _ _ H _ I h=>Calls.Constant_str ⟨.str x,H,I.tok _,⟨_,rfl⟩,h⟩
def Gl(X:Cx)(x:Str):Prop:=X.env.kindOf x=some .globalImplicit
theorem x2a{Q:Value->Shared->Prop}(I:Inv X pins σ H s)(hg:Gl X x)(hm:X.mg x=some u)(h:Q u s)
  (hd:(x==("__debug__":Str))=false:=by decide):wpAny (model X.prog X.w) X.A (eval (.Name x pos) X.env) Q E s:=
 Calls.Name_function_global I.ok.kind hg (Calls.loadGlobal_global (by rw[I.ok.glob];exact I.mod.glob.keeps I.bk) hm h) hd
theorem q4w{Q:Value->Shared->Prop}(I:Inv X pins σ H s)(hg:Gl X x)(hm:X.mg x=none)(hv:bootBuiltins x=some u)(h:Q u s)
  (hn:x≠"__name__":=by decide)(hd:(x==("__debug__":Str))=false:=by decide):wpAny (model X.prog X.w) X.A (eval (.Name x pos) X.env) Q E s:=by
 obtain⟨mb,h1,h2⟩:=I.mod.blt;exact Calls.Name_function_global I.ok.kind hg (Calls.loadGlobal_builtin (by rw[I.ok.glob];exact I.mod.glob.keeps I.bk) hm (by rw[I.ok.blt];exact h1.keeps I.bk) ((h2 x hn).trans hv) h) hd
theorem y1j{v:V}(hg:Gl X x)(hm:X.mg x=none)(hv:bootBuiltins x=some u)(r:RelV v u)(hn:x≠"__name__":=by decide)(hd:(x==("__debug__":Str))=false:=by decide):PE X (.Name x pos) (tC v):=
 fun _ _ _ H _ I h=>q4w I hg hm hv ⟨v,H,I,r,h⟩ hn hd
variable{a b:Expr}{tb:TE}
def PC(X:Cx)(op:CmpOp)(a b:Expr)(t:TE):Prop:=
 ∀(pins:List (Addr×Obj))(s:Shared)(σ:St)(H:Hp)(Q:VK),Inv X pins σ H s->t σ H Q ->
  wpAny (model X.prog X.w) X.A (eval a X.env) (fun v s₁=>wpAny (model X.prog X.w) X.A (eval b X.env) (fun u s₂=>wpAny (model X.prog X.w) X.A (compareOp op v u) (EP X pins σ Q) X.xe s₂) X.xe s₁) X.xe s
theorem nobehind(b:Expr)(h:op≠.In)(h2:op≠.NotIn):behindInMarks op b=false:=by
 have e1:(op==CmpOp.In)=false:=by cases op<;>first|rfl|exact absurd rfl h
 have e2:(op==CmpOp.NotIn)=false:=by cases op<;>first|rfl|exact absurd rfl h2
 cases b<;>simp[behindInMarks,e1,e2]
def tB(t:TE):TT:=fun σ H Q=>t σ H fun x H1=>∃c,x=.bl c/\Q c H1
theorem x4y{t:TE}(h:PC X op a b t)(h1:behindInMarks op b=false:=by first|exact nobehind _ (by decide) (by decide)|rfl):PT X (.Compare a [op] [b] pos) (tB t):=by
 intro pins s σ H Q I hw;refine wpAny_isTrue_Compare1 (thn (h pins s σ H _ I hw) fun v s1 h1=>thn h1 fun u s2 h2=>thn h2 fun c s3 ⟨x,H1,I1,r1,q1⟩=>?_) h1
 obtain⟨d,rfl,q⟩:=q1;cases r1;exact wpAny_truthy_bool ⟨H1,I1,q⟩
variable{tA tB':TT}{rest:List Expr}
def tAnd(t u:TT):TT:=fun σ H Q=>t σ H fun c H1=>if c=true then u σ H1 Q else Q false H1
def tOr(t u:TT):TT:=fun σ H Q=>t σ H fun c H1=>if c=true then Q true H1 else u σ H1 Q
def tNot(t:TT):TT:=fun σ H Q=>t σ H fun c H1=>Q (!c) H1
theorem y1k(ha:PT X a tA):PW X (.BoolOp .And [a] pos) tA:=by
 intro wh pins s σ H Q I h;refine isTrue_and (thn (ha pins s σ H Q I h) fun c s1 e=>?_)
 cases c with
 |true=>exact isTrue_and_nil e
 |false=>exact e
theorem y5k(ha:PT X a tA):PW X (.BoolOp .Or [a] pos) tA:=by
 intro wh pins s σ H Q I h;refine isTrue_or (thn (ha pins s σ H Q I h) fun c s1 e=>?_)
 cases c with
 |false=>exact isTrue_or_nil e
 |true=>exact e
theorem y5l(ha:PT X a tA)(hb:PW X (.BoolOp .And (b::rest) pos) tB'):PW X (.BoolOp .And (a::b::rest) pos) (tAnd tA tB'):=by
 intro wh pins s σ H Q I h;refine isTrue_and (thn (ha pins s σ H _ I h) fun c s1 ⟨H1,I1,q1⟩=>?_)
 cases c with
 |true=>exact hb wh pins s1 σ H1 Q I1 q1
 |false=>exact⟨H1,I1,q1⟩
theorem y8u(ha:PT X a tA)(hb:PW X (.BoolOp .Or (b::rest) pos) tB'):PW X (.BoolOp .Or (a::b::rest) pos) (tOr tA tB'):=by
 intro wh pins s σ H Q I h;refine isTrue_or (thn (ha pins s σ H _ I h) fun c s1 ⟨H1,I1,q1⟩=>?_)
 cases c with
 |true=>exact⟨H1,I1,q1⟩
 |false=>exact hb wh pins s1 σ H1 Q I1 q1
theorem y5m(ha:PT X a tA):PT X (.UnaryOp .Not a pos) (tNot tA):=by
 intro pins s σ H Q I h;exact isTrue_not (ha pins s σ H (fun c H1=>Q (!c) H1) I h)
def tAndV(ta tb:TE):TE:=fun σ H Q=>ta σ H fun x H1=>∃c,x=.bl c/\if c=true then tb σ H1 Q else Q (.bl false) H1
theorem y5n{op}{t:TE}(h:PE X a t):PE X (.BoolOp op [a] pos) t:=fun pins s σ H Q I hw=>BoolOp_one (h pins s σ H Q I hw)
theorem y5o(ha:PE X a ta)(hb:PE X (.BoolOp .And (b::rest) pos) tb):PE X (.BoolOp .And (a::b::rest) pos) (tAndV ta tb):=by
 intro pins s σ H Q I h;refine BoolOp_and (thn (ha pins s σ H _ I h) fun v s1 ⟨x,H1,I1,r1,q1⟩=>?_)
 obtain⟨c,rfl,q1⟩:=q1;cases r1;refine wpAny_truthy_bool ?_;cases c with
 |true=>exact hb pins s1 σ H1 Q I1 q1
 |false=>exact⟨.bl false,H1,I1,rfl,q1⟩
end
def SqL(K:PySem.W.Frag)(H:Hp)(a:Addr)(xs:List V):Prop:=
 Rd H a (.lst xs) \/
  ∃(o:Obj)(its:Array Value)(n:Nat),K.lookup a=some o/\o.cls=.type "list" /\ o.dict=none/\o.data=.seq its n/\its.size<=sizeLine/\Vals xs its.toList
def SqT(K:PySem.W.Frag)(H:Hp)(a:Addr)(xs:List V):Prop:=
 Rd H a (.tup xs) \/
  ∃(o:Obj)(its:Array Value)(n:Nat),K.lookup a=some o/\o.cls=.type "tuple" /\ o.dict=none/\o.data=.seq its n/\its.size<=sizeLine/\Vals xs its.toList
noncomputable def absV:Value->Option V
 |.none=>some .non
 |.bool b=>some (.bl b)
 |.int i _=>some (.int i)
 |.str x _=>some (.str x)
 |.bytes b _=>some (.byt b)
 |.float b _=>some (.flt b)
 |.ref a=>some (.ref a)
 |.type n=>some (.ty n)
 |_=>none
theorem RelV.abs{x:V}(r:RelV x u):absV u=some x:=by
 cases x with
 |non=>cases r;rfl
 |bl _=>cases r;rfl
 |int _=>obtain⟨t,rfl⟩:=r;rfl
 |str _=>obtain⟨t,rfl⟩:=r;rfl
 |byt _=>obtain⟨t,rfl⟩:=r;rfl
 |flt _=>obtain⟨t,rfl⟩:=r;rfl
 |ref _=>cases r;rfl
 |ty _=>cases r;rfl
theorem RelV.inj{x y:V}(r:RelV x u)(q:RelV y u):x=y:=Option.some.inj (r.abs.symm.trans q.abs)
theorem Vals.inj:∀{xs ys:List V}{us:List Value},Vals xs us->Vals ys us->xs=ys
 |_,_,_,.nil,.nil=>rfl
 |_,_,_,.cons r t,.cons r' t'=>by rw[r.inj r',Vals.inj t t']
section
variable{ys:List V}
theorem SqL.of(h:H a=some (.lst xs)):SqL K H a xs:=.inl (.inl h)
theorem SqT.of(h:H a=some (.tup xs)):SqT K H a xs:=.inl (.inl h)
theorem Inv.list(I:Inv X pins σ H s)(h:SqL X.K H a xs):∃its:List Value,Vals xs its/\PlainL s.heap a its.toArray/\xs.length<=sizeLine:=by
 rcases h with h|⟨o,its,n,hk,hc,hd,hs,hz,r⟩
 ·obtain⟨z,its,n,r,e⟩:=h.ok I.hok;exact⟨its,r,⟨_,n,e,rfl,rfl,rfl⟩,z⟩
 ·refine⟨its.toList,r,⟨o,n,I.kIn a o hk,hc,hd,by simpa using hs⟩,?_⟩;have e:=r.length;simp only[w3r]at e;omega
theorem Inv.tuple(I:Inv X pins σ H s)(h:SqT X.K H a xs):∃its:List Value,Vals xs its/\IsTup s.heap a its.toArray/\xs.length<=sizeLine:=by
 rcases h with h|⟨o,its,n,hk,hc,_,hs,hz,r⟩
 ·obtain⟨z,its,r,p,_⟩:=h.ok I.hok;exact⟨its,r,p,z⟩
 ·refine⟨its.toList,r,⟨o,I.kIn a o hk,hc,n,by simpa using hs⟩,?_⟩;have e:=r.length;simp only[w3r]at e;omega
theorem Inv.list_inj(I:Inv X pins σ H s)(h:SqL X.K H a xs)(h':SqL X.K H a ys):xs=ys:=by
 obtain⟨its,r,⟨o,n,e,_,_,d⟩,_⟩:=I.list h;obtain⟨its',r',⟨o',n',e',_,_,d'⟩,_⟩:=I.list h';rw[e]at e';cases e';rw[d]at d';injection d' with d1 _
 have:its=its':=by simpa using congrArg Array.toList d1
 subst this;exact r.inj r'
theorem Inv.tuple_inj(I:Inv X pins σ H s)(h:SqT X.K H a xs)(h':SqT X.K H a ys):xs=ys:=by
 obtain⟨its,r,⟨o,e,_,n,d⟩,_⟩:=I.tuple h;obtain⟨its',r',⟨o',e',_,n',d'⟩,_⟩:=I.tuple h';rw[e]at e';cases e';rw[d]at d';injection d' with d1 _
 have:its=its':=by simpa using congrArg Array.toList d1
 subst this;exact r.inj r'
end
section
variable{st:Stmt}{rest:List Stmt}{t u:TS}
def tNext:TS:=fun D σ H=>D.nx σ H
def tSeq(t u:TS):TS:=fun D σ H=>t {D with nx:=u D} σ H
theorem y1l:PSs X [] tNext:=fun _ _ σ H _ I h=>wpAny_execs_nil ⟨σ,H,I,h⟩
theorem q63(h1:PS X st t)(h2:PSs X rest u):PSs X (st::rest) (tSeq t u):=by
 intro pins s σ H D I h;refine wpAny_execs_cons (thn (h1 pins s σ H {D with nx:=u D} I h) fun f s1 q=>?_)
 cases f with
 |next=>
  obtain⟨σ',H',I',q⟩:=q;exact h2 pins s1 σ' H' D I' q
 |ret v=>exact q
 |brk=>exact q
 |cont=>exact q
theorem q8b(h1:PS X st t):PSs X [st] t:=by
 intro pins s σ H D I h;refine wpAny_execs_cons (thn (h1 pins s σ H D I h) fun f s1 q=>?_)
 cases f with
 |next=>exact wpAny_execs_nil q
 |ret v=>exact q
 |brk=>exact q
 |cont=>exact q
theorem Inv.quiet(I:Inv X pins σ H s):interactive X.env=false:=by simp[interactive,I.ok.kind]
def tDrop(te:TE):TS:=fun D σ H=>te σ H fun _ H1=>D.nx σ H1
theorem q4x(he:PE X e te)(hs:swapsWith e none pos.line X.env=pure false:=by rfl):PS X (.Expr e pos) (tDrop te):=by
 intro pins s σ H D I h;exact wpAny_Expr_any (thn (he pins s σ H _ I h) fun v s1 ⟨x,H1,I1,r1,q1⟩=>⟨σ,H1,I1,q1⟩) I.quiet hs
def tRet(te:TE):TS:=fun D σ H=>te σ H D.rt
theorem q52(he:PE X e te):PS X (.Return (some e) pos) (tRet te):=by
 intro pins s σ H D I h;exact wpAny_Return_some (thn (he pins s σ H _ I h) fun v s1 ⟨x,H1,I1,r1,q1⟩=>⟨x,σ,H1,I1,r1,q1⟩)
def tIfS(c:TT)(t u:TS):TS:=fun D σ H=>c σ H fun b H1=>if b=true then t D σ H1 else u D σ H1
theorem y8v{a b:List Stmt}{tc:TT}(hc:PT X c tc)(ha:PSs X a t)(hb:PSs X b u):PS X (.If c a b pos) (tIfS tc t u):=by
 intro pins s σ H D I h;refine wpAny_If (thn (hc pins s σ H _ I h) fun d s1 ⟨H1,I1,q1⟩=>?_)
 cases d with
 |true=>exact ha pins s1 σ H1 D I1 q1
 |false=>exact hb pins s1 σ H1 D I1 q1
end
abbrev TG:=V->St->Hp->(St->Hp->Prop)->Prop
abbrev TGs:=List V->St->Hp->(St->Hp->Prop)->Prop
def PG(X:Cx)(target:Expr)(t:TG):Prop:=
 ∀(pins:List (Addr×Obj))(s:Shared)(σ:St)(H:Hp)(v:V)(u:Value)(Q:St->Hp->Prop),Inv X pins σ H s->RelV v u->t v σ H Q ->
  wpAny (model X.prog X.w) X.A (assign target X.env u) (fun _ s'=>∃σ' H',Inv X pins σ' H' s'/\Q σ' H') X.xe s
def PGs(X:Cx)(ts:List Expr)(t:TGs):Prop:=
 ∀(pins:List (Addr×Obj))(s:Shared)(σ:St)(H:Hp)(vs:List V)(us:List Value)(Q:St->Hp->Prop),Inv X pins σ H s->Vals vs us->t vs σ H Q ->
  wpAny (model X.prog X.w) X.A (assignInOrder ((assignEach ts X.env).map (·.2)) us) (fun _ s'=>∃σ' H',Inv X pins σ' H' s'/\Q σ' H') X.xe s
def gName(i:Nat):TG:=fun v σ H Q=>Q (σ.set i (some v)) H
theorem y1m(hN:X.N.Nodup)(hi:X.N[i]?=some x)(hx:Loc X.env.scope x)(hf:X.fn x=true\/X.env.scope.names.lookup x=some .local:=by walk_at "2"):PG X (.Name x pos) (gName i):=by
 intro pins s σ H v u Q I r h;exact wpAny_assign_Name (q91 I hN hi hx r (fun s' I'=>⟨_,H,I',h⟩) hf)
noncomputable def gNil:TGs:=fun vs σ H Q=>vs=[]/\Q σ H
noncomputable def gCons(t:TG)(u:TGs):TGs:=fun vs σ H Q=>∃v r,vs=v::r/\t v σ H fun σ' H'=>u r σ' H' Q
theorem q8c:PGs X [] gNil:=by
 intro pins s σ H vs us Q I r h;obtain⟨e,h⟩:=h;subst e;cases r;exact assignInOrder_nil ⟨σ,H,I,h⟩
theorem q3j{t:TG}{u:TGs}(h1:PG X e t)(h2:PGs X es u)
  (hs:(assignEach (e::es) X.env).map (·.2)=assign e X.env::(assignEach es X.env).map (·.2):=by rfl):PGs X (e::es) (gCons t u):=by
 intro pins s σ H vs us Q I r h;obtain⟨v,vr,e1,h⟩:=h;subst e1;cases r with
 |cons r rr=>
  rw[hs];refine assignInOrder_cons (thn (h1 pins s σ H _ _ _ I r h) fun _ s1 ⟨σ1,H1,I1,q1⟩=>?_)
  exact h2 pins s1 σ1 H1 _ _ Q I1 rr q1
def gTup(K:PySem.W.Frag)(n:Nat)(t:TGs):TG:=fun v σ H Q=>∃a xs,v=.ref a/\SqT K H a xs/\xs.length=n/\t xs σ H Q
theorem q93{t:TGs}{n:Nat}(hc:X.calm=true)(h:PGs X es t)
  (hn:(assignEach es X.env).length=n:=by rfl)(hst:(assignEach es X.env).findIdx? (·.1)=none:=by rfl):PG X (.Tuple es k pos) (gTup X.K n t):=by
 intro pins s σ H v u Q I r hw;obtain⟨a,xs,e1,hq,hl,hw⟩:=hw;subst e1;cases r;obtain⟨its,rv,ht,hz⟩:=I.tuple hq;refine assign_Tuple_tuple (I.ok.hd hc) ht (by simp[hn,<- hl,rv.length]) hst fun h' hx=>?_
 have I1:Inv X pins σ H {s with heap:=h'}:=I.kept (t':=s.toks) fun b o e=>hx b o (w0q (Heap.lt_size e)) e
 exact h pins _ σ H xs _ Q I1 (by simpa using rv) hw
def tAsg(te:TE)(g:TG):TS:=fun D σ H=>te σ H fun x H1=>g x σ H1 D.nx
theorem y5p{g:TG}(he:PE X e te)(hg:PG X tg g)(hs:swapsWithSole [tg] e pos.line X.env=pure false:=by rfl)(hw:swappedStores [tg] e X.env=pure none:=by rfl)
  (h1:(assignEach [tg] X.env).map (·.2)=[assign tg X.env]:=by rfl):PS X (.Assign [tg] e pos) (tAsg te g):=by
 intro pins s σ H D I h;refine wpAny_Assign_stores (thn (he pins s σ H _ I h) fun v s1 ⟨x,H1,I1,r1,q1⟩=>?_) hs hw
 rw[h1];exact thn (hg pins s1 σ H1 x v _ I1 r1 q1) fun _ s2 q=>q
theorem y5q{pos':Pos}(hN:X.N.Nodup)(hi:X.N[i]?=some x)(hx:Loc X.env.scope x)(he:PE X e te)(hs:swapsWith e (some (.Name x pos')) pos.line X.env=pure false:=by rfl)(hf:X.fn x=true\/X.env.scope.names.lookup x=some .local:=by walk_at "2"):
  PS X (.Assign [.Name x pos'] e pos) (tAsg te (gName i)):=by
 intro pins s σ H D I h;refine wpAny_Assign_Name (thn (he pins s σ H _ I h) fun v s1 ⟨y,H1,I1,r1,q1⟩=>?_) hs
 exact q91 I1 hN hi hx r1 (fun s2 I2=>⟨_,H1,I2,q1⟩) hf
def tWhile(c:TT)(tb:TS):TS:=fun D σ H=>∃W:Nat->St->Hp->Prop,(∃m,W m σ H)/\∀m σ H,W m σ H ->
 c σ H fun b H1=>if b=true then ∃N:St->Hp->Prop,(∀σ' H',N σ' H'->∃m',m'<m/\W m' σ' H')/\tb {D with nx:=N,ct:=N,bk:=D.nx} σ H1 else D.nx σ H1
theorem x74{body:List Stmt}{tc:TT}(hp:PassesOwn (model X.prog X.w) X.A X.env X.xe)(hc:PT X c tc)(hb:PSs X body tb):PS X (.While c body [] pos) (tWhile tc tb):=by
 intro pins s σ H D I h;obtain⟨W,⟨m0,w0⟩,turn⟩:=h;refine wpAny_While (codeAny_whileLoop (fun n s'=>∃σ' H',Inv X pins σ' H' s'/\W n σ' H') ?_ m0 ⟨σ,H,I,w0⟩)
 rintro n s1 ⟨σ1,H1,I1,w1⟩;refine wpAny_passesOwn hp (thn (hc pins s1 σ1 H1 _ I1 (turn n σ1 H1 w1)) fun b s2 ⟨H2,I2,q2⟩=>?_)
 cases b with
 |true=>
  obtain⟨N,hN,q2⟩:=q2;rw[if_pos rfl];refine wpAny_passesOwn hp (thn (hb pins s2 σ1 H2 _ I2 q2) fun f s3 q3=>?_)
  cases f with
  |next=>
   obtain⟨σ3,H3,I3,n3⟩:=q3;obtain⟨m',hm,w3⟩:=hN σ3 H3 n3;exact⟨m',hm,σ3,H3,I3,w3⟩
  |cont=>
   obtain⟨σ3,H3,I3,n3⟩:=q3;obtain⟨m',hm,w3⟩:=hN σ3 H3 n3;exact⟨m',hm,σ3,H3,I3,w3⟩
  |brk=>exact q3
  |ret v=>exact q3
 |false=>
  rw[if_neg w0l];exact wpAny_execs_nil ⟨σ1,H2,I2,q2⟩
structure It where
 go:Nat->Hp->Prop
 yld:Nat->Hp->V->Hp->Prop
 stop:Nat->Hp->Prop
def FpOk(X:Cx)(pins:List (Addr×Obj))(H:Hp)(b:Addr):Prop:=
 H b=none/\b≠X.env.locals/\b∉X.fs/\(b∈X.ex\/X.s₀.heap.objs.size<=b)/\(∀x c,X.env.cells.lookup x=some c->c≠b)/\∀p∈X.pn++pins,p.1≠b
theorem Inv.fpOk(I:Inv X pins σ H s)(hb:s.heap.objs.size<=b)(hn:H' b=none):FpOk X pins H' b:=by
 refine⟨hn,w3i (w0n I.lt hb),I.nofs hb,.inr (w0u I.sz hb),fun x c e z=>?_,fun p hp z=>?_⟩
 ·obtain⟨v,q⟩:=I.cell x c e;exact absurd (w0n q.lt (by rw[z];exact hb)) (w1y _)
 ·exact absurd (w0n (Heap.lt_size (I.pin p hp).1) (by rw[z];exact hb)) (w1y _)
structure Turn(P:Program)(w:World)(K:PySem.W.Frag)(tg:Expr)(J:It)(fp:List Addr)(it:Addr)(tn:Nat->Heap->Prop):Prop where
 mem:it∈fp
 obj:∀i h,tn i h->∀b∈fp,∃o,h.get? b=some o/\∀v,o.data≠.cell v
 keep:∀i h h',tn i h->(∀b∈fp,∀o,h.get? b=some o->h'.get? b=some o)->tn i h'
 item:∀(X:Cx),X.prog=P->X.w=w->X.K=K->X.calm=true->∀(i:Nat)(pins:List (Addr×Obj))(s:Shared)(σ:St)(H:Hp)(E:Value->Shared->Prop),Inv X pins σ H s->(∀b∈fp,FpOk X pins H b)->tn i s.heap->J.go i H ->
  wpAny (model P w) X.A (pyNext (.ref it)) (fun r s1=>∃u,r=some u /\
   wpAny (model P w) X.A (letOwnedTupleGo tg (.ref it) u) (fun _ s2=>∃x H',Inv X pins σ H' s2/\RelV x u/\J.yld i H x H'/\tn (i+1) s2.heap/\∀b∈fp,H' b=none) E s1) E s
 done:∀(X:Cx),X.prog=P->X.w=w->X.K=K->X.calm=true->∀(i:Nat)(pins:List (Addr×Obj))(s:Shared)(σ:St)(H:Hp)(E:Value->Shared->Prop),Inv X pins σ H s->(∀b∈fp,FpOk X pins H b)->tn i s.heap->J.stop i H ->
  wpAny (model P w) X.A (pyNext (.ref it)) (fun r s1=>r=none/\Inv X pins σ H s1) E s
 self:∀(A:Around)(i:Nat)(s:Shared)(Q:Value->Shared->Prop)(E:Value->Shared->Prop),tn i s.heap->Q (.ref it) s->wpAny (model P w) A (pyIter (.ref it)) Q E s
abbrev TI:=St->Hp->(It->Hp->Prop)->Prop
def PIE(X:Cx)(pins:List (Addr×Obj))(σ:St)(tg:Expr)(R:It->Hp->Prop)(itv:Value)(s2:Shared):Prop:=
 ∃(it:Addr)(fp:List Addr)(tn:Nat->Heap->Prop)(J:It)(H':Hp),itv=.ref it/\Inv X pins σ H' s2/\Turn X.prog X.w X.K tg J fp it tn/\tn 0 s2.heap/\(∀b∈fp,FpOk X pins H' b)/\R J H'
def PI(X:Cx)(tg iter:Expr)(wi:TI):Prop:=
 ∀(pins:List (Addr×Obj))(s:Shared)(σ:St)(H:Hp)(R:It->Hp->Prop),Inv X pins σ H s->wi σ H R ->
  wpAny (model X.prog X.w) X.A (eval iter X.env) (fun v s1=>wpAny (model X.prog X.w) X.A (pyIter v) (PIE X pins σ tg R) X.xe s1) X.xe s
theorem q9t{E : Value -> Shared -> Prop}{s : Shared}{it : Addr}{o : Obj}{n : String}{vs : Array Value}{Q : Unit -> Shared -> Prop}(ho : s.heap.get? it = some o)(hc : o.cls = .type n)(hd : o.data = .fields vs)
    (hn : ["enumerate", "zip", "dict_itemiterator", "dict_reverseitemiterator", "odict_iterator", "itertools.zip_longest", "itertools.pairwise"].contains n = false)(hQ : Q () s) : wpAny M A (letOwnedTupleGo tg (.ref it) u) Q E s := by
  unfold letOwnedTupleGo
  cases tg <;> first
    | exact wpAny_pure hQ
    | (cases u <;> first
        | exact wpAny_pure hQ
        | (refine wpAny_bind (wpAny_load ho ?_)
           rw [hc, hd];show wpAny M A (if (["enumerate", "zip", "dict_itemiterator", "dict_reverseitemiterator", "odict_iterator", "itertools.zip_longest", "itertools.pairwise"].contains n && vs[0]? == some (rawInt _)) = true then _ else _) Q E s;rw [if_neg (by intro h; rw [hn, Bool.false_and] at h; cases h)];exact wpAny_pure hQ))
noncomputable def Itl(K:PySem.W.Frag)(a:Addr):It:=
 ⟨fun i H=>∃xs x,SqL K H a xs/\xs[i]?=some x,fun i H x H'=>H'=H/\∀xs,SqL K H a xs->xs[i]?=some x,fun i H=>∃xs,SqL K H a xs/\xs.length<=i⟩
noncomputable def Itt(K:PySem.W.Frag)(a:Addr):It:=
 ⟨fun i H=>∃xs x,SqT K H a xs/\xs[i]?=some x,fun i H x H'=>H'=H/\∀xs,SqT K H a xs->xs[i]?=some x,fun i H=>∃xs,SqT K H a xs/\xs.length<=i⟩
noncomputable def Itr(lo:Int)(n:Nat):It:=⟨fun i _=>i<n,fun i H x H'=>H'=H/\x=.int (lo+i),fun i _=>n<=i⟩
theorem x4z(a it:Addr):Turn P w K tg (Itl K a) [it] it (fun i h=>h.IsListIter it a i) where
 mem:=by simp
 obj:=fun i h st b hb=>by
  have e:b=it:=by simpa using hb
  subst e;obtain⟨o,e,c,d⟩:=st;exact⟨o,e,fun v z=>by rw[d]at z;cases z⟩
 keep:=fun i h h' st k=>st.at fun o e=>k it (by simp) o e
 item:=by
  intro X hP hw hK hc i pins s σ H E I hf st hg;subst hP hw hK;obtain⟨xs,x,hq,hx⟩:=hg;obtain⟨its,rv,p,hz⟩:=I.list hq;obtain⟨u,hu,ru⟩:=rv.get hx;obtain⟨f0,f1,f2,f3,f4,f5⟩:=hf it (by simp);refine wpAny_pyNext_list_item st p.isList (x:=u) (by simpa using hu) fun h' st' sb=>?_
  have I1:Inv X pins σ H {s with heap:=h'}:=I.turned (t':=s.toks) (fun b o hb e=>(sb.2 b hb).trans e) f0 f1 f3 f4 f5
  obtain⟨o,e,c,d⟩:=id st';exact⟨u,rfl,q9t (s:={s with heap:=h'}) e c d (by decide) ⟨x,H,I1,ru,⟨rfl,fun ys hy=>by rw[I.list_inj hy hq];exact hx⟩,st',fun b hb=>(hf b hb).1⟩⟩
 done:=by
  intro X hP hw hK hc i pins s σ H E I hf st hg;subst hP hw hK;obtain⟨xs,hq,hx⟩:=hg;obtain⟨its,rv,p,hz⟩:=I.list hq;obtain⟨f0,f1,f2,f3,f4,f5⟩:=hf it (by simp);have hl:=rv.length;exact wpAny_pyNext_list_end (I.ok.hd hc) st p.isList (by simp;omega) fun h' eb=>⟨rfl,I.turned (t':=s.toks) (fun b o hb e=>eb b o hb e) f0 f1 f3 f4 f5⟩
 self:=fun _ _ _ _ _ st h=>wpAny_pyIter_listiter st h
theorem x3i(a it:Addr):Turn P w K tg (Itt K a) [it] it (fun i h=>h.IsTupleIter it a i) where
 mem:=by simp
 obj:=fun i h st b hb=>by
  have e:b=it:=by simpa using hb
  subst e;obtain⟨o,e,c,d⟩:=st;exact⟨o,e,fun v z=>by rw[d]at z;cases z⟩
 keep:=fun i h h' st k=>st.at fun o e=>k it (by simp) o e
 item:=by
  intro X hP hw hK hc i pins s σ H E I hf st hg;subst hP hw hK;obtain⟨xs,x,hq,hx⟩:=hg;obtain⟨its,rv,p,hz⟩:=I.tuple hq;obtain⟨u,hu,ru⟩:=rv.get hx;obtain⟨f0,f1,f2,f3,f4,f5⟩:=hf it (by simp);refine wpAny_pyNext_tuple_item st (show s.heap.IsTuple a its.toArray from p) (x:=u) (by simpa using hu) fun h' st' sb=>?_
  have I1:Inv X pins σ H {s with heap:=h'}:=I.turned (t':=s.toks) (fun b o hb e=>(sb.2 b hb).trans e) f0 f1 f3 f4 f5
  obtain⟨o,e,c,d⟩:=id st';exact⟨u,rfl,q9t (s:={s with heap:=h'}) e c d (by decide) ⟨x,H,I1,ru,⟨rfl,fun ys hy=>by rw[I.tuple_inj hy hq];exact hx⟩,st',fun b hb=>(hf b hb).1⟩⟩
 done:=by
  intro X hP hw hK hc i pins s σ H E I hf st hg;subst hP hw hK;obtain⟨xs,hq,hx⟩:=hg;obtain⟨its,rv,p,hz⟩:=I.tuple hq;obtain⟨f0,f1,f2,f3,f4,f5⟩:=hf it (by simp);have hl:=rv.length;exact wpAny_pyNext_tuple_end (I.ok.hd hc) st (show s.heap.IsTuple a its.toArray from p) (by simp;omega) fun h' eb=>⟨rfl,I.turned (t':=s.toks) (fun b o hb e=>eb b o hb e) f0 f1 f3 f4 f5⟩
 self:=fun _ _ _ _ _ st h=>wpAny_pyIter_tupleiter st h
theorem x3j(it:Addr)(lo:Int)(n:Nat):Turn P w K tg (Itr lo n) [it] it (fun i h=>IsRangeIter h it (lo+(i:Nat)*1) ((n:Int)-(i:Nat)) 1) where
 mem:=by simp
 obj:=fun i h st b hb=>by
  have e:b=it:=by simpa using hb
  subst e
  exact⟨_,st,fun v z=>by
   have z':Data.fields _=Data.cell v:=z;cases z'⟩
 keep:=fun i h h' st k=>k it (by simp) _ st
 item:=by
  intro X hP hw hK hc i pins s σ H E I hf st hg;subst hP hw hK;obtain⟨f0,f1,f2,f3,f4,f5⟩:=hf it (by simp);have W:=Walks.range (prog:=X.prog) (w:=X.w) (I.ok.hd hc) it lo 1 n;refine W.item i s _ _ hg st fun v h' tk hv st' kk=>?_
  obtain⟨t,rfl⟩:=hv;have I1:Inv X pins σ H {s with heap:=h',toks:=tk}:=I.turned (fun b o hb e=>kk b o (by simpa using hb) e) f0 f1 f3 f4 f5
  refine⟨_,rfl,q9t (s:={s with heap:=h',toks:=tk}) (n:="range_iterator") st' rfl rfl (by decide) ⟨.int (lo+i),H,I1,⟨t,?_⟩,⟨rfl,rfl⟩,st',fun b hb=>(hf b hb).1⟩⟩
  rw[Int.mul_one]
 done:=by
  intro X hP hw hK hc i pins s σ H E I hf st hg;subst hP hw hK;obtain⟨f0,f1,f2,f3,f4,f5⟩:=hf it (by simp);exact wpAny_pyNext_range_end (I.ok.hd hc) st (by have:n<=i:=hg;omega) fun h' eb=>⟨rfl,I.turned (t':=s.toks) (fun b o hb e=>eb b o hb e) f0 f1 f3 f4 f5⟩
 self:=fun _ _ _ _ _ st h=>wpAny_pyIter_rangeiter st h
theorem q94{R:It->Hp->Prop}{lo hi:Int}{t u v:Tok}{tk:Nat}(I:Inv X pins σ H s)(h1:-(2^62)<=lo)(h2:lo<2^62)(h3:-(2^62)<=hi)(h4:hi<2^62)
  (q:R (Itr lo (hi-lo).toNat) H):wpAny (model X.prog X.w) X.A (pyIter (.ref s.heap.objs.size)) (PIE X pins σ tg R) E {s with heap:=s.heap.push {cls:=.type "range", data:=.fields #[.int lo t,.int hi u,.int 1 v]},toks:=tk}:=by
 refine wpAny_pyIter_range (IsRange.new ..) (small_one h1 h2 h3 h4) ?_;have I1:Inv X pins σ H {s with heap:=s.heap.push {cls:=.type "range", data:=.fields #[.int lo t,.int hi u,.int 1 v]},toks:=tk}:=I.kept fun b o e=>Heap.get?_push_of_some _ e
 refine⟨(s.heap.push {cls:=.type "range", data:=.fields #[.int lo t,.int hi u,.int 1 v]}).objs.size,[(s.heap.push {cls:=.type "range", data:=.fields #[.int lo t,.int hi u,.int 1 v]}).objs.size],_,_,H,rfl,
  I1.kept (t':=tk) fun b o e=>Heap.get?_push_of_some _ e,x3j _ lo (hi-lo).toNat,?_,fun b hb=>?_,q⟩
 ·have e1:lo+((0:Nat):Int)*1=lo:=by simp
  have e2:(((hi-lo).toNat:Nat):Int)-((0:Nat):Int)=Builtin.Range.rangeSize lo hi 1:=by rw[rangeSize_one];split<;>omega
  show IsRangeIter _ _ (lo+((0:Nat):Int)*1) ((((hi-lo).toNat:Nat):Int)-((0:Nat):Int)) 1;rw[e1,e2];exact Heap.get?_push_size _ rfl
 ·have e:b=(s.heap.push {cls:=.type "range", data:=.fields #[.int lo t,.int hi u,.int 1 v]}).objs.size:=by simpa using hb
  subst e;exact I1.fpOk (w0i _) (I1.hok.fresh (w0i _))
def iRng1(ta:TA):TI:=fun σ H R=>ta σ H fun vs H1=>∃j:Int,vs=[.int j]/\-(2^62)<=j/\j<2^62/\R (Itr 0 j.toNat) H1
def iRng2(ta:TA):TI:=fun σ H R=>ta σ H fun vs H1=>∃i j:Int,vs=[.int i,.int j]/\(-(2^62)<=i/\i<2^62/\-(2^62)<=j/\j<2^62)/\R (Itr i (j-i).toNat) H1
theorem x40{a:Expr}{ta:TA}(hg:Gl X "range")(hm:X.mg "range"=none)(ha:PA X [a] ta)(hs:starEach [a] X.env=[(false,eval a X.env)]:=by rfl):PI X tg (.Call (.Name "range" p) [a] [] pos) (iRng1 ta):=by
 intro pins s σ H R I h;refine Call_ (q4w I hg hm boot_range (PyProof.Rows.callWith_type1 (thn (ha pos pins s σ H _ I h) fun us s1 ⟨vs,H1,I1,r1,q1⟩=>?_) hs rfl))
 obtain⟨j,e,q1,q2,q⟩:=q1;subst e;cases r1 with
 |cons r rr=>
  cases rr;obtain⟨t,rfl⟩:=r;exact call_range_1 (q94 I1 (by omega) (by omega) q1 q2 (by simpa using q))
theorem x41{a b:Expr}{ta:TA}(hg:Gl X "range")(hm:X.mg "range"=none)(ha:PA X [a,b] ta)(hs:starEach [a,b] X.env=[(false,eval a X.env),(false,eval b X.env)]:=by rfl)(hs2:starEach [b] X.env=[(false,eval b X.env)]:=by rfl):
  PI X tg (.Call (.Name "range" p) [a,b] [] pos) (iRng2 ta):=by
 intro pins s σ H R I h;refine Call_ (q4w I hg hm boot_range (PyProof.Rows.callWith_type1 (thn (ha pos pins s σ H _ I h) fun us s1 ⟨vs,H1,I1,r1,q1⟩=>?_) (by rw[hs,hs2]) (by rw[hs2];rfl)))
 obtain⟨i,j,e,⟨q1,q2,q3,q4⟩,q⟩:=q1;subst e;cases r1 with
 |cons r rr=>
  cases rr with
  |cons r' rr=>
   cases rr;obtain⟨t,rfl⟩:=r;obtain⟨t',rfl⟩:=r';exact call_range_2 (q94 I1 q1 q2 q3 q4 q)
def tFor(wi:TI)(g:TG)(tb:TS):TS:=fun D σ H=>wi σ H fun J H1=>∃W:Nat->Nat->St->Hp->Prop,(∃m,W 0 m σ H1)/\∀i m σ H,W i m σ H ->
 (J.stop i H/\D.nx σ H)\/(J.go i H/\∃N:St->Hp->Prop,(∀σ' H',N σ' H'->∃m',m'<m/\W (i+1) m' σ' H')/\∀x H',J.yld i H x H'->g x σ H' fun σ2 H2=>tb {D with nx:=N,ct:=N,bk:=D.nx} σ2 H2)
noncomputable def pinsAt(fp:List Addr)(h:Heap):List (Addr×Obj):=fp.filterMap fun b=>(h.get? b).map fun o=>(b,o)
theorem q33{o:Obj}(hb:b∈fp)(e:h.get? b=some o):(b,o)∈pinsAt fp h:=w2g.mpr ⟨b,hb,by rw[e];rfl⟩
theorem x42{p:Addr×Obj}(hp:p∈pinsAt fp h):p.1∈fp/\h.get? p.1=some p.2:=by
 obtain⟨b,hb,e⟩:=w2g.mp hp;cases q:h.get? b with
 |none=>rw[q]at e;cases e
 |some o=>
  rw[q]at e;have e':(b,o)=p:=Option.some.inj e;subst e';exact⟨hb,q⟩
theorem Inv.pinned(I:Inv X pins σ H s)(hf:∀b∈fp,FpOk X pins H b)(ho:∀b∈fp,∃o,s.heap.get? b=some o/\∀v,o.data≠.cell v):Inv X (pins++pinsAt fp s.heap) σ H s:=
 I.pins_of fun p hp=>(w1q.mp hp).elim (fun z=>I.pin p (w0o _ z)) fun z=>by
  obtain⟨hb,e⟩:=x42 z;obtain⟨f0,f1,f2,_⟩:=hf p.1 hb;obtain⟨o,e',d⟩:=ho p.1 hb;rw[e]at e';cases e';exact⟨e,f0,f1,f2,d⟩
theorem Inv.unpinned{pl:List (Addr×Obj)}(I:Inv X (pins++pl) σ H s):Inv X pins σ H s:=I.pins_of fun p hp=>I.pin p (w0o _ (w1h _ hp))
theorem q53{iter:Expr}{body:List Stmt}{wi:TI}{g:TG}(hp:PassesOwn (model X.prog X.w) X.A X.env X.xe)(hc:X.calm=true)(hi:PI X tg iter wi)(hg:PG X tg g)(hb:PSs X body tb)
  (hs:∀x,foldedSetIterable iter X.env x=pure x:=by intro _;rfl):PS X (.For tg iter body [] pos) (tFor wi g tb):=by
 intro pins s σ H D I h;refine wpAny_For (thn (hi pins s σ H _ I h) fun v s1 h1=>thn h1 fun itv s2 h2=>?_) hs
 obtain⟨it,fp,tn,J,H2,e,I2,T,st2,f2,W,⟨m0,w0⟩,turn⟩:=h2;subst e;have stat:∀{H':Hp},(∀b∈fp,H' b=none)->∀b∈fp,FpOk X pins H' b:=fun hn b hb=>⟨hn b hb,(f2 b hb).2⟩
 refine codeAny_forLoop_any (fun n s'=>∃i σ' H',Inv X pins σ' H' s'/\tn i s'.heap/\(∀b∈fp,H' b=none)/\W i n σ' H') ?_ m0 ⟨0,σ,H2,I2,st2,fun b hb=>(f2 b hb).1,w0⟩
 rintro n s3 ⟨i,σ3,H3,I3,st3,fr3,w3⟩;rcases turn i n σ3 H3 w3 with⟨stop,qn⟩|⟨go,N,hN,step⟩
 ·refine wpAny_passesOwn hp (thn (T.done X rfl rfl rfl hc i pins s3 σ3 H3 X.xe I3 (stat fr3) st3 stop) fun r s4 ⟨hr,I4⟩=>?_)
  subst hr;exact wpAny_execs_nil ⟨σ3,H3,I4,qn⟩
 ·refine wpAny_passesOwn hp (thn (T.item X rfl rfl rfl hc i pins s3 σ3 H3 X.xe I3 (stat fr3) st3 go) fun r s4 ⟨u,hr,h4⟩=>?_)
  subst hr;refine wpAny_passesOwn hp (thn h4 fun _ s5 ⟨x,H5,I5,r5,y5,st5,fr5⟩=>?_)
  have I5':=I5.pinned (stat fr5) (T.obj _ _ st5);refine wpAny_passesOwn hp (thn (hg _ s5 σ3 H5 x u _ I5' r5 (step x H5 y5)) fun _ s6 ⟨σ6,H6,I6,q6⟩=>?_)
  refine wpAny_passesOwn hp (thn (hb _ s6 σ6 H6 _ I6 q6) fun f s7 q7=>?_)
  have again:∀{σ7:St}{H7:Hp},Inv X (pins++pinsAt fp s5.heap) σ7 H7 s7->N σ7 H7->∃m,m<n/\∃i σ' H',Inv X pins σ' H' s7/\tn i s7.heap/\(∀b∈fp,H' b=none)/\W i m σ' H':=fun {σ7 H7} I7 n7=>by
   obtain⟨m',hm,w7⟩:=hN σ7 H7 n7;refine⟨m',hm,i+1,σ7,H7,I7.unpinned,T.keep _ _ _ st5 fun b hb o e=>(I7.pin (b,o) (w0o _ (w0o _ (q33 hb e)))).1,fun b hb=>?_,w7⟩
   obtain⟨o,e,d⟩:=T.obj _ _ st5 b hb;exact(I7.pin (b,o) (w0o _ (w0o _ (q33 hb e)))).2.1
  cases f with
  |next=>obtain⟨σ7,H7,I7,n7⟩:=q7;exact again I7 n7
  |cont=>obtain⟨σ7,H7,I7,n7⟩:=q7;exact again I7 n7
  |brk=>obtain⟨σ7,H7,I7,q7⟩:=q7;exact⟨σ7,H7,I7.unpinned,q7⟩
  |ret v=>obtain⟨x7,σ7,H7,I7,r7,q7⟩:=q7;exact⟨x7,σ7,H7,I7.unpinned,r7,q7⟩
theorem q95{xs:List V}{g:TG}{D:Ends}(Pv:Nat->St->Hp->Prop)(h0:Pv 0 σ H)(hl:∀i σ H,i<=xs.length->Pv i σ H->SqL K H a xs)
  (hs:∀i x σ H,xs[i]?=some x->Pv i σ H->g x σ H fun σ2 H2=>tb {D with nx:=Pv (i+1),ct:=Pv (i+1),bk:=D.nx} σ2 H2)(hd:∀σ H,Pv xs.length σ H->D.nx σ H):
  ∃W:Nat->Nat->St->Hp->Prop,(∃m,W 0 m σ H)/\∀i m σ H,W i m σ H ->
   ((Itl K a).stop i H/\D.nx σ H)\/((Itl K a).go i H/\∃N:St->Hp->Prop,(∀σ' H',N σ' H'->∃m',m'<m/\W (i+1) m' σ' H')/\∀x H',(Itl K a).yld i H x H'->g x σ H' fun σ2 H2=>tb {D with nx:=N,ct:=N,bk:=D.nx} σ2 H2):=by
 refine⟨fun i m σ H=>m=xs.length-i/\i<=xs.length/\Pv i σ H,⟨xs.length,by simp,w0w _,h0⟩,?_⟩
 rintro i m σ H ⟨rfl,hi,p⟩;have q:=hl i σ H hi p
 by_cases hlt:i<xs.length
 ·refine .inr ⟨⟨xs,xs[i],q,by simp[hlt]⟩,Pv (i+1),fun σ' H' p'=>⟨xs.length-(i+1),by omega,rfl,hlt,p'⟩,fun x H' y=>?_⟩
  obtain⟨e,y⟩:=y;subst e;exact hs i x σ _ (y xs q) p
 ·have e:i=xs.length:=by omega
  subst e;exact .inl ⟨⟨xs,q,w0i _⟩,hd σ H p⟩
theorem y1n{g:TG}{D:Ends}(Pv:Nat->St->Hp->Prop)(h0:Pv 0 σ H)(hl:∀i σ H,i<=xs.length->Pv i σ H->SqT K H a xs)
  (hs:∀i x σ H,xs[i]?=some x->Pv i σ H->g x σ H fun σ2 H2=>tb {D with nx:=Pv (i+1),ct:=Pv (i+1),bk:=D.nx} σ2 H2)(hd:∀σ H,Pv xs.length σ H->D.nx σ H):
  ∃W:Nat->Nat->St->Hp->Prop,(∃m,W 0 m σ H)/\∀i m σ H,W i m σ H ->
   ((Itt K a).stop i H/\D.nx σ H)\/((Itt K a).go i H/\∃N:St->Hp->Prop,(∀σ' H',N σ' H'->∃m',m'<m/\W (i+1) m' σ' H')/\∀x H',(Itt K a).yld i H x H'->g x σ H' fun σ2 H2=>tb {D with nx:=N,ct:=N,bk:=D.nx} σ2 H2):=by
 refine⟨fun i m σ H=>m=xs.length-i/\i<=xs.length/\Pv i σ H,⟨xs.length,by simp,w0w _,h0⟩,?_⟩
 rintro i m σ H ⟨rfl,hi,p⟩;have q:=hl i σ H hi p
 by_cases hlt:i<xs.length
 ·refine .inr ⟨⟨xs,xs[i],q,by simp[hlt]⟩,Pv (i+1),fun σ' H' p'=>⟨xs.length-(i+1),by omega,rfl,hlt,p'⟩,fun x H' y=>?_⟩
  obtain⟨e,y⟩:=y;subst e;exact hs i x σ _ (y xs q) p
 ·have e:i=xs.length:=by omega
  subst e;exact .inl ⟨⟨xs,q,w0i _⟩,hd σ H p⟩
theorem x43{lo:Int}{n:Nat}{g:TG}{D:Ends}(Pv:Nat->St->Hp->Prop)(h0:Pv 0 σ H)
  (hs:∀i σ H,i<n->Pv i σ H->g (.int (lo+i)) σ H fun σ2 H2=>tb {D with nx:=Pv (i+1),ct:=Pv (i+1),bk:=D.nx} σ2 H2)(hd:∀σ H,Pv n σ H->D.nx σ H):
  ∃W:Nat->Nat->St->Hp->Prop,(∃m,W 0 m σ H)/\∀i m σ H,W i m σ H ->
   ((Itr lo n).stop i H/\D.nx σ H)\/((Itr lo n).go i H/\∃N:St->Hp->Prop,(∀σ' H',N σ' H'->∃m',m'<m/\W (i+1) m' σ' H')/\∀x H',(Itr lo n).yld i H x H'->g x σ H' fun σ2 H2=>tb {D with nx:=N,ct:=N,bk:=D.nx} σ2 H2):=by
 refine⟨fun i m σ H=>m=n-i/\i<=n/\Pv i σ H,⟨n,by simp,w0w _,h0⟩,?_⟩
 rintro i m σ H ⟨rfl,hi,p⟩
 by_cases hlt:i<n
 ·refine .inr ⟨hlt,Pv (i+1),fun σ' H' p'=>⟨n-(i+1),by omega,rfl,hlt,p'⟩,fun x H' y=>?_⟩
  obtain⟨e,y⟩:=y;subst e y;exact hs i σ _ hlt p
 ·have e:i=n:=by omega
  subst e;exact .inl ⟨w0i _,hd σ H p⟩
abbrev R2:=V->V->Hp->VK->Prop
variable{r:R2}
def OpR(X:Cx)(f:Value->Value->Sem Value)(r:R2):Prop:=
 ∀(pins:List (Addr×Obj))(s:Shared)(σ:St)(H:Hp)(x y:V)(v u:Value)(Q:VK),Inv X pins σ H s->RelV x v->RelV y u->r x y H Q ->
  wpAny (model X.prog X.w) X.A (f v u) (EP X pins σ Q) X.xe s
def UnR(X:Cx)(f:Value->Sem Value)(r:V->Hp->VK->Prop):Prop:=
 ∀(pins:List (Addr×Obj))(s:Shared)(σ:St)(H:Hp)(x:V)(v:Value)(Q:VK),Inv X pins σ H s->RelV x v->r x H Q ->
  wpAny (model X.prog X.w) X.A (f v) (EP X pins σ Q) X.xe s
def CallR(X:Cx)(f:Value)(r:List V->Hp->VK->Prop):Prop:=
 ∀(pins:List (Addr×Obj))(s:Shared)(σ:St)(H:Hp)(xs:List V)(us:List Value)(Q:VK),Inv X pins σ H s->Vals xs us->r xs H Q ->
  wpAny (model X.prog X.w) X.A (call f us) (EP X pins σ Q) X.xe s
def TruR(X:Cx)(r:V->Hp->(Bool->Hp->Prop)->Prop):Prop:=
 ∀(pins:List (Addr×Obj))(s:Shared)(σ:St)(H:Hp)(x:V)(v:Value)(Q:Bool->Hp->Prop),Inv X pins σ H s->RelV x v->r x H Q ->
  wpAny (model X.prog X.w) X.A (truthy v) (TP X pins σ Q) X.xe s
def tOp(r:R2)(ta tb:TE):TE:=fun σ H Q=>ta σ H fun x H1=>tb σ H1 fun y H2=>r x y H2 Q
def tUn(r:V->Hp->VK->Prop)(ta:TE):TE:=fun σ H Q=>ta σ H fun x H1=>r x H1 Q
def rI(C:Int->Int->Prop)(g:Int->Int->V):R2:=fun x y H Q=>∃i j,x=.int i/\y=.int j/\C i j/\Q (g i j) H
def rI0(g:Int->Int->V):R2:=fun x y H Q=>∃i j,x=.int i/\y=.int j/\Q (g i j) H
def rU(g:Int->V):V->Hp->VK->Prop:=fun x H Q=>∃i,x=.int i/\Q (g i) H
section
variable{a b:Expr}{tb tc:TE}
theorem binT(ha:PE X a ta)(hb:PE X b tb){R:V->V->Hp->Prop}(I:Inv X pins σ H s)
  (h:ta σ H fun x H1=>tb σ H1 fun y H2=>R x y H2){Q:Value->Shared->Prop}
  (hf:∀v u s2 x y H2,Inv X pins σ H2 s2->RelV x v->RelV y u->R x y H2->wpAny (model X.prog X.w) X.A (f v u) Q X.xe s2):
  wpAny (model X.prog X.w) X.A (eval a X.env) (fun v s₁=>wpAny (model X.prog X.w) X.A (eval b X.env) (fun u s₂=>wpAny (model X.prog X.w) X.A (f v u) Q X.xe s₂) X.xe s₁) X.xe s:=by
 refine thn (ha pins s σ H _ I h) fun v s1 ⟨x,H1,I1,r1,q1⟩=>?_
 refine thn (hb pins s1 σ H1 _ I1 q1) fun u s2 ⟨y,H2,I2,r2,q2⟩=>?_
 exact hf v u s2 x y H2 I2 r1 r2 q2
theorem y8w{op:Operator}(ho:OpR X (binaryOp op) r)(ha:PE X a ta)(hb:PE X b tb):PE X (.BinOp a op b pos) (tOp r ta tb):=by
 intro pins s σ H Q I h;exact wpAny_BinOp (binT ha hb I h fun v u s2 x y H2 I2 rx ry q=>ho pins s2 σ H2 x y v u Q I2 rx ry q)
theorem y8x{op:UnaryOp}{r:V->Hp->VK->Prop}(ho:UnR X (unaryOp op) r)(ha:PE X a ta):PE X (.UnaryOp op a pos) (tUn r ta):=by
 intro pins s σ H Q I h;exact UnaryOp_ (thn (ha pins s σ H _ I h) fun v s1 ⟨x,H1,I1,r1,q1⟩=>ho pins s1 σ H1 x v Q I1 r1 q1)
theorem opI{C:Int->Int->Prop}{g:Int->Int->Int}
  (rule:∀(i j:Int)(t u:Tok)(s:Shared)(Q:Value->Shared->Prop)(E:Value->Shared->Prop),C i j->Q (.int (g i j) s.toks) {s with toks:=s.toks+1}->wpAny (model X.prog X.w) X.A (f (.int i t) (.int j u)) Q E s):
  OpR X f (rI C fun i j=>.int (g i j)):=by
 intro pins s σ H x y v u Q I rx ry h;obtain⟨i,j,rfl,rfl,hc,q⟩:=h;obtain⟨t,rfl⟩:=rx;obtain⟨t',rfl⟩:=ry;exact rule i j t t' s _ _ hc ⟨.int (g i j),H,I.tok _,⟨_,rfl⟩,q⟩
theorem opI0{g:Int->Int->Int}
  (rule:∀(i j:Int)(t u:Tok)(s:Shared)(Q:Value->Shared->Prop)(E:Value->Shared->Prop),Q (.int (g i j) s.toks) {s with toks:=s.toks+1}->wpAny (model X.prog X.w) X.A (f (.int i t) (.int j u)) Q E s):
  OpR X f (rI0 fun i j=>.int (g i j)):=by
 intro pins s σ H x y v u Q I rx ry h;obtain⟨i,j,rfl,rfl,q⟩:=h;obtain⟨t,rfl⟩:=rx;obtain⟨t',rfl⟩:=ry;exact rule i j t t' s _ _ ⟨.int (g i j),H,I.tok _,⟨_,rfl⟩,q⟩
theorem opB0{g:Int->Int->Bool}
  (rule:∀(i j:Int)(t u:Tok)(s:Shared)(Q:Value->Shared->Prop)(E:Value->Shared->Prop),Q (.bool (g i j)) s->wpAny (model X.prog X.w) X.A (f (.int i t) (.int j u)) Q E s):
  OpR X f (rI0 fun i j=>.bl (g i j)):=by
 intro pins s σ H x y v u Q I rx ry h;obtain⟨i,j,rfl,rfl,q⟩:=h;obtain⟨t,rfl⟩:=rx;obtain⟨t',rfl⟩:=ry;exact rule i j t t' s _ _ ⟨.bl (g i j),H,I,rfl,q⟩
def CDiv(i j:Int):Prop:=0<j/\j<1073741824
def CMul(i j:Int):Prop:=(-(2^64)<i/\i<2^64)\/(-(2^64)<j/\j<2^64)
theorem CMul.ok{i j:Int}(h:CMul i j):IntMulOk i j:=by
 rcases h with⟨h1,h2⟩|⟨h1,h2⟩
 ·exact .of_left (intBits_le_64 h1 h2)
 ·exact .of_right (intBits_le_64 h1 h2)
theorem op_add:OpR X (binaryOp .Add) (rI0 fun i j=>.int (i+j)):=opI0 fun _ _ _ _ _ _ _ q=>add_int q
theorem y5r:OpR X (binaryOp .Sub) (rI0 fun i j=>.int (i-j)):=opI0 fun _ _ _ _ _ _ _ q=>sub_int q
theorem y5s:OpR X (binaryOp .Mult) (rI CMul fun i j=>.int (i*j)):=opI fun _ _ _ _ _ _ _ hc q=>mul_int q hc.ok
theorem y1o:OpR X (binaryOp .FloorDiv) (rI CDiv fun i j=>.int (i / j)):=opI fun i j _ _ _ _ _ hc q=>by
 have h1:(0:Int)<j:=hc.1;have h2:j<1073741824:=hc.2;exact floordiv_int (by omega) (by rw[Int.fdiv_eq_ediv_of_nonneg i (by omega)];exact q) (.inl (PyProof.noPylong_small (by omega)))
theorem y5t:OpR X (binaryOp .Mod) (rI (fun _ j=>0<j) fun i j=>.int (i%j)):=opI fun i j _ _ _ _ _ hc q=>by
 have h1:(0:Int)<j:=hc;exact mod_int' (by omega) (by rw[Int.fmod_eq_emod_of_nonneg i (by omega)];exact q)
theorem unI{f:Value->Sem Value}{g:Int->Int}
  (rule:∀(i:Int)(t:Tok)(s:Shared)(Q:Value->Shared->Prop)(E:Value->Shared->Prop),Q (.int (g i) s.toks) {s with toks:=s.toks+1}->wpAny (model X.prog X.w) X.A (f (.int i t)) Q E s):
  UnR X f (rU fun i=>.int (g i)):=by
 intro pins s σ H x v Q I rx h;obtain⟨i,rfl,q⟩:=h;obtain⟨t,rfl⟩:=rx;exact rule i t s _ _ ⟨.int (g i),H,I.tok _,⟨_,rfl⟩,q⟩
theorem y5u:UnR X (unaryOp .USub) (rU fun i=>.int (-i)):=unI fun _ _ _ _ _ q=>neg_int q
end
section
variable{a b:Expr}{tb tc:TE}
theorem x3k:OpR X (compareOp .Lt) (rI0 fun i j=>.bl (decide (i<j))):=opB0 fun _ _ _ _ _ _ _ q=>lt_int q
theorem y0z:OpR X (compareOp .LtE) (rI0 fun i j=>.bl (decide (i<=j))):=opB0 fun _ _ _ _ _ _ _ q=>le_int q
theorem y00:OpR X (compareOp .Gt) (rI0 fun i j=>.bl (decide (j<i))):=opB0 fun _ _ _ _ _ _ _ q=>gt_int q
theorem OpR.or{r':R2}(h:OpR X f r)(h':OpR X f r'):OpR X f (fun x y H Q=>r x y H Q\/r' x y H Q):=by
 intro pins s σ H x y v u Q I rx ry q;rcases q with q|q
 ·exact h pins s σ H x y v u Q I rx ry q
 ·exact h' pins s σ H x y v u Q I rx ry q
theorem nomark(b:Expr)(h:op≠.In:=by decide)(h2:op≠.NotIn:=by decide):behindInMarks op b=false:=by
 have e1:(op==CmpOp.In)=false:=by cases op<;>first|rfl|exact absurd rfl h
 have e2:(op==CmpOp.NotIn)=false:=by cases op<;>first|rfl|exact absurd rfl h2
 cases b<;>simp[behindInMarks,e1,e2]
theorem y1p(ho:OpR X (compareOp op) r)(ha:PE X a ta)(hb:PE X b tb)(hm:behindInMarks op b=false):PE X (.Compare a [op] [b] pos) (tOp r ta tb):=by
 intro pins s σ H Q I h;exact wpAny_Compare1 (binT ha hb I h fun v u s2 x y H2 I2 rx ry q=>ho pins s2 σ H2 x y v u Q I2 rx ry q) hm
def tTest(t:TE):TT:=fun σ H Q=>t σ H fun x H'=>∃k,x=.bl k/\Q k H'
theorem y1q(ho:OpR X (compareOp op) r)(ha:PE X a ta)(hb:PE X b tb)(hm:behindInMarks op b=false):PT X (.Compare a [op] [b] pos) (tTest (tOp r ta tb)):=by
 intro pins s σ H Q I h
 refine wpAny_isTrue_Compare1 (thn (ha pins s σ H _ I h) fun v s1 ⟨x,H1,I1,r1,q1⟩=>thn (hb pins s1 σ H1 _ I1 q1) fun u s2 ⟨y,H2,I2,r2,q2⟩=>
  thn (ho pins s2 σ H2 x y v u _ I2 r1 r2 q2) fun c s3 ⟨z,H3,I3,r3,k,e,q3⟩=>?_) hm
 subst e;cases r3;exact wpAny_truthy_bool ⟨H3,I3,q3⟩
def tChain(r r':R2)(ta tb tc:TE):TE:=fun σ H Q=>ta σ H fun x H1=>tb σ H1 fun y H2=>r x y H2 fun z H3=>∃k,z=.bl k /\
 (if k=true then tc σ H3 fun w' H4=>r' y w' H4 Q else Q (.bl false) H3)
theorem x75{op':CmpOp}{r':R2}(ho:OpR X (compareOp op) r)(ho':OpR X (compareOp op') r')(ha:PE X a ta)(hb:PE X b tb)(hc:PE X c tc)
  (hm:lastMarks [op,op'] [b,c]=false:=by with_unfolding_all rfl):PT X (.Compare a [op,op'] [b,c] pos) (tTest (tChain r r' ta tb tc)):=by
 intro pins s σ H Q I h
 refine isTrue_chain (thn (ha pins s σ H _ I h) fun v s1 ⟨x,H1,I1,r1,q1⟩=>test_link (thn (hb pins s1 σ H1 _ I1 q1) fun u s2 ⟨y,H2,I2,r2,q2⟩=>
  thn (ho pins s2 σ H2 x y v u _ I2 r1 r2 q2) fun d s3 ⟨z,H3,I3,r3,k,e,q3⟩=>?_)) hm
 subst e;cases r3;refine wpAny_truthy_bool ?_;cases k with
 |false=>
  obtain⟨k',e',q'⟩:=q3;cases e';exact ite_ff ⟨H3,I3,q'⟩
 |true=>
  refine ite_tt (test_last (thn (hc pins s3 σ H3 _ I3 q3) fun w' s4 ⟨z',H4,I4,r4,q4⟩=>thn (ho' pins s4 σ H4 y z' u w' _ I4 r2 r4 q4) fun d' s5 ⟨z2,H5,I5,r5,k2,e2,q5⟩=>?_))
  subst e2;cases r5;exact wpAny_truthy_bool ⟨H5,I5,q5⟩
def TruV(K:PySem.W.Frag)(x:V)(H:Hp)(k:Bool):Prop:=
 match x with
 |.non=>k=false
 |.bl b=>k=b
 |.int i=>k=(i != 0)
 |.str y=>y.length<=sizeLine/\k=((y.length:Int) != 0)
 |.byt y=>y.size<=sizeLine/\k=((y.size:Int) != 0)
 |.ref p=>(∃xs,SqL K H p xs/\k=!xs.isEmpty)\/(∃xs,SqT K H p xs/\k=!xs.isEmpty)\/∃kvs,H p=some (.dK kvs)/\k=!kvs.isEmpty
 |_=>False
theorem x3l{κ:Type}{kvs:List (κ×V)}{vs:List (κ×Value)}(r:KV kvs vs):(!vs.isEmpty)=!kvs.isEmpty:=by
 cases r<;>rfl
theorem q7i{its:List Value}(r:Vals xs its):(!its.toArray.isEmpty)=!xs.isEmpty:=by
 cases r<;>simp
theorem line63:(sizeLine:Nat)<2^63:=by rw[sizeLine_eq];decide
theorem y5v:TruR X (fun x H Q=>∃k,TruV X.K x H k/\Q k H):=by
 intro pins s σ H x v Q I rx h;obtain⟨k,e,q⟩:=h;have hl:=line63;have hs:sizeLine=16777216:=sizeLine_eq;cases x with
 |non=>
  cases rx;have e':k=false:=e;subst e';exact truthy_none ⟨H,I,q⟩
 |bl b=>
  cases rx;have e':k=b:=e;subst e';exact wpAny_truthy_bool ⟨H,I,q⟩
 |int i=>
  obtain⟨t,rfl⟩:=rx;have e':k=(i != 0):=e;subst e';exact PySem.P.truthy_int ⟨H,I,q⟩
 |str y=>
  obtain⟨t,rfl⟩:=rx;obtain⟨hy,e'⟩:y.length<=sizeLine/\k=((y.length:Int) != 0):=e;subst e';exact PySem.P.truthy_str (by omega) ⟨H,I.tok _,q⟩
 |byt y=>
  obtain⟨t,rfl⟩:=rx;obtain⟨hy,e'⟩:y.size<=sizeLine/\k=((y.size:Int) != 0):=e;subst e';exact PySem.W.truthy_bytes (by omega) ⟨H,I.tok _,q⟩
 |ref p=>
  cases rx;have e':(∃xs,SqL X.K H p xs/\k=!xs.isEmpty)\/(∃xs,SqT X.K H p xs/\k=!xs.isEmpty)\/∃kvs,H p=some (.dK kvs)/\k=!kvs.isEmpty:=e;rcases e' with⟨xs,hx,e'⟩|⟨xs,hx,e'⟩|⟨kvs,hx,e'⟩
  ·subst e';obtain⟨its,r,pl,hz⟩:=I.list hx;have hlen:=r.length;exact wpAny_truthy_list pl.isList (by simp only[w0h];omega) ⟨H,I.tok _,by rw[q7i r];exact q⟩
  ·subst e';obtain⟨its,r,pl,hz⟩:=I.tuple hx;have hlen:=r.length;exact truthy_tuple pl (by simp only[w0h];omega) ⟨H,I.tok _,by rw[q7i r];exact q⟩
  ·subst e';obtain⟨hz,hS,vs,r,m⟩:kvs.length<=sizeLine/\(p==sysModules)=false/\∃vs,KV kvs vs/\s.heap.DictOf (mixKind X.prog X.w) p vs:=I.hok p _ hx;have hlen:kvs.length=vs.length:=Paired.length r;exact wpAny_truthy_dict hS m (by omega) ⟨H,I.tok _,by rw[x3l r];exact q⟩
 |_=>exact(show False from e).elim
theorem x76(ha:PE X a ta)(he:∀whole,isTrue a X.env whole=(do let v <- whole;standAt a.pos;holding [v] (truthy v))):
  PT X a (fun σ H Q=>ta σ H fun x H'=>∃k,TruV X.K x H' k/\Q k H'):=by
 intro pins s σ H Q I h;exact isTrue_plain (thn (ha pins s σ H _ I h) fun v s1 ⟨x,H1,I1,r1,q1⟩=>y5v pins s1 σ H1 x v Q I1 r1 q1) (he _)
theorem op_add_str:OpR X (binaryOp .Add) (fun x y H Q=>∃i j,x=.str i/\y=.str j/\i.length+j.length<=sizeLine/\Q (.str (i++j)) H):=by
 intro pins s σ H x y v u Q I rx ry h;obtain⟨i,j,rfl,rfl,hz,q⟩:=h;obtain⟨t,rfl⟩:=rx;obtain⟨t',rfl⟩:=ry;exact add_str (fun t' tk=>⟨.str (i++j),H,I.tok _,⟨_,rfl⟩,q⟩) hz
theorem vals1{x:V}(r:Vals [x] us):∃u,us=[u]/\RelV x u:=by
 cases r with
 |cons r1 r2=>cases r2;exact⟨_,rfl,r1⟩
theorem vals2{x y:V}(r:Vals [x,y] us):∃u w',us=[u,w']/\RelV x u/\RelV y w':=by
 cases r with
 |cons r1 r2=>
  cases r2 with
  |cons r3 r4=>cases r4;exact⟨_,_,rfl,r1,r3⟩
theorem x44(hc:X.calm=true):CallR X (.builtin "max") (fun xs H Q=>∃i j,xs=[.int i,.int j]/\Q (.int (if j>i then j else i)) H):=by
 intro pins s σ H xs us Q I r h;obtain⟨i,j,rfl,q⟩:=h;obtain⟨u,w',rfl,⟨t,rfl⟩,⟨t',rfl⟩⟩:=vals2 r;refine max_two_ints (I.ok.hd hc) fun h' tk k=>⟨_,H,I.kept k,?_,q⟩
 by_cases hj:j>i
 ·rw[if_pos hj,if_pos hj];exact⟨_,rfl⟩
 ·rw[if_neg hj,if_neg hj];exact⟨_,rfl⟩
theorem x45(hc:X.calm=true):CallR X (.builtin "min") (fun xs H Q=>∃i j,xs=[.int i,.int j]/\Q (.int (if j<i then j else i)) H):=by
 intro pins s σ H xs us Q I r h;obtain⟨i,j,rfl,q⟩:=h;obtain⟨u,w',rfl,⟨t,rfl⟩,⟨t',rfl⟩⟩:=vals2 r;refine min_two_ints (I.ok.hd hc) fun h' tk k=>⟨_,H,I.kept k,?_,q⟩
 by_cases hj:j<i
 ·rw[if_pos hj,if_pos hj];exact⟨_,rfl⟩
 ·rw[if_neg hj,if_neg hj];exact⟨_,rfl⟩
theorem x46:CallR X (.type "int") (fun xs H Q=>(∃i,xs=[.int i]/\Q (.int i) H)\/∃k,xs=[.bl k]/\Q (.int (if k then 1 else 0)) H):=by
 intro pins s σ H xs us Q I r h;rcases h with⟨i,rfl,q⟩|⟨k,rfl,q⟩
 ·obtain⟨u,rfl,t,rfl⟩:=vals1 r;exact call_int_int ⟨.int i,H,I,⟨_,rfl⟩,q⟩
 ·obtain⟨u,rfl,r1⟩:=vals1 r;cases r1;exact call_int_bool ⟨.int (if k then 1 else 0),H,I.tok _,⟨_,rfl⟩,q⟩
def LenV(K:PySem.W.Frag)(x:V)(H:Hp)(n:Nat):Prop:=
 match x with
 |.str y=>y.length<=sizeLine/\n=y.length
 |.byt y=>y.size<=sizeLine/\n=y.size
 |.ref p=>(∃xs,SqL K H p xs/\n=xs.length)\/∃xs,SqT K H p xs/\n=xs.length
 |_=>False
theorem x77:CallR X (.builtin "len") (fun xs H Q=>∃x n,xs=[x]/\LenV X.K x H n/\Q (.int n) H):=by
 intro pins s σ H xs us Q I r h;obtain⟨x,n,rfl,e,q⟩:=h;obtain⟨u,rfl,rx⟩:=vals1 r;have hl:=line63;have hs:sizeLine=16777216:=sizeLine_eq;cases x with
 |str y=>
  obtain⟨t,rfl⟩:=rx;obtain⟨hy,e'⟩:y.length<=sizeLine/\n=y.length:=e;subst e';exact len_str (by omega) ⟨.int _,H,I.tok _,⟨_,rfl⟩,q⟩
 |byt y=>
  obtain⟨t,rfl⟩:=rx;obtain⟨hy,e'⟩:y.size<=sizeLine/\n=y.size:=e;subst e';exact PySem.W.len_bytes (by omega) ⟨.int _,H,I.tok _,⟨_,rfl⟩,q⟩
 |ref p=>
  cases rx;have e':(∃xs,SqL X.K H p xs/\n=xs.length)\/∃xs,SqT X.K H p xs/\n=xs.length:=e;rcases e' with⟨xs,hx,e'⟩|⟨xs,hx,e'⟩
  ·subst e';obtain⟨its,r',pl,hz⟩:=I.list hx;have hlen:=r'.length;exact Calls.call_len_list pl.isList (by simp only[w0h];omega) ⟨.int xs.length,H,I.tok _,⟨_,by simp only[w0h];rw[hlen]⟩,q⟩
  ·subst e';obtain⟨its,r',pl,hz⟩:=I.tuple hx;have hlen:=r'.length;exact len_tuple pl (by simp only[w0h];omega) ⟨.int xs.length,H,I.tok _,⟨_,by simp only[w0h];rw[hlen]⟩,q⟩
 |_=>exact(show False from e).elim
end
structure ObjM(h:Heap)(x dx C:Addr)(mA:Str->Option Value):Prop where
 obj:h.get? x=some (PySem.W.instObj C dx)
 ns:h.Ns1 dx mA
 ne:dx≠x
theorem RelO.some_of{v:V}{o:Option Value}(r:RelO (some v) o):∃u,o=some u/\RelV v u:=by
 cases o with
 |none=>exact(show False from r).elim
 |some u=>exact⟨u,rfl,r⟩
structure Cls(K:PySem.W.Frag)(C:Addr):Prop where
 pg:PySem.W.plainGet K C Str.empty=true
 hd:PySem.W.hasDictIn K C=true
 po:PySem.W.plainOver K C=true
 sa:findIn K (.ref C) "__setattr__"=some (some (.builtin "object.__setattr__"))
structure Con(K:PySem.W.Frag)(C:Addr)(f:Str)(v:V)(u:Value):Prop where
 at_:findIn K (.ref C) f=some (some u)
 rel:RelV v u
 get:specialIn K u "__get__"=some none
 cp:PySem.W.copiedNames.contains f=false
structure Meth(K:PySem.W.Frag)(C:Addr)(m:Str)(f:Addr):Prop where
 at_:findIn K (.ref C) m=some (some (.ref f))
 fn:PySem.W.isFn K (.ref f)=true
 kp:keepIn K (.ref f)=true
section
variable{Q:Value->Shared->Prop}{c:Value}{b:Bool}
inductive TyOf(K:PySem.W.Frag)(H:Hp):V->Value->Prop where
 |non:TyOf K H .non (.type "NoneType")
 |bl (x:Bool):TyOf K H (.bl x) (.type "bool")
 |int (i:Int):TyOf K H (.int i) (.type "int")
 |str (x:Str):TyOf K H (.str x) (.type "str")
 |flt (x:UInt64):TyOf K H (.flt x) (.type "float")
 |lst {a:Addr} {xs:List V} (e:H a=some (.lst xs)):TyOf K H (.ref a) (.type "list")
 |frz {a:Addr} {o:Obj} {xs:List V} (e:H a=some (.frz o (.lst xs))):TyOf K H (.ref a) (.type "list")
 |tup {a:Addr} {xs:List V} (e:H a=some (.tup xs)):TyOf K H (.ref a) (.type "tuple")
 |dK {a:Addr} {kvs:List (Key×V)} (e:H a=some (.dK kvs)):TyOf K H (.ref a) (.type "dict")
 |dT {a:Addr} {sh:Sh} {kvs:List (Kx×V)} {kas:List Addr} (e:H a=some (.dT sh kvs kas)):TyOf K H (.ref a) (.type "dict")
 |ins {a C dx:Addr} {fs:List (Str×V)} (e:H a=some (.ins C dx fs)) (cl:Cls K C) (ha:findIn K (.ref C) "__class__"=some (some (.builtin "object.__class__")))
   (hn:specialIn K (.builtin "object.__class__") "__get__"=some (some (.builtin "getset_descriptor.__get__"))) (htk:takesIn K (.builtin "object.__class__")=some true)
   (hm:PySem.W.mroIn K C (.type "object")=some true):TyOf K H (.ref a) (.ref C)
end
structure Room(k:Nat)(A:Around):Prop where
 hd:A.handled=none
 dp:A.depth+3*k+5<recursionLimit
 un:A.units+16*k+200<cLine
 gd:A.guards=some []
theorem Room.deeper(r:Room (k+1) A)(env:Env):Room k (A.deeper env):=
 ⟨r.hd,by have:=r.dp;show A.depth+1+3*k+5<_;omega,by have:=r.un;show A.units+3+16*k+200<_;omega,r.gd⟩
theorem Room.depth(r:Room k A):A.depth<recursionLimit:=by have:=r.dp;omega
def tNil:TA:=fun _ H Q=>Q [] H
def tCons(ta:TE)(tr:TA):TA:=fun σ H Q=>ta σ H fun x H1=>tr σ H1 fun xs H2=>Q (x::xs) H2
section
variable{t:TA}
theorem q38:PA X [] tNil:=fun _ _ _ _ H Q I h=>Calls.spliced_nil ⟨[],H,I,.nil,h⟩
theorem q17(ha:PE X e te)(hr:PA X es t)(hs:starEach (e::es) X.env=(false,eval e X.env)::starEach es X.env:=by rfl):PA X (e::es) (tCons te t):=by
 intro pos pins s σ H Q I h;rw[hs];show wpAny _ _ (spliced ((false,eval e X.env)::backTo pos (starEach es X.env))) _ _ s;refine Calls.spliced_cons (thn (ha pins s σ H _ I h) fun u s1 ⟨x,H1,I1,r1,q1⟩=>?_)
 exact thn (hr pos pins s1 σ H1 _ I1 q1) fun us s2 ⟨xs,H2,I2,r2,q2⟩=>⟨x::xs,H2,I2,.cons r1 r2,q2⟩
def tTup(t:TA):TE:=fun σ H Q=>t σ H fun xs H1=>xs.length<=sizeLine/\∀p,H1 p=none->Q (.ref p) (upd H1 p (.tup xs))
def tLst(t:TA):TE:=fun σ H Q=>t σ H fun xs H1=>xs.length<=sizeLine/\∀p,H1 p=none->Q (.ref p) (upd H1 p (.lst xs))
theorem x47{x1}(h:PA X es t):PE X (.Tuple es x1 pos) (tTup t):=by
 intro pins s σ H Q I hq;refine wpAny_Tuple_spliced (thn (h pos pins s σ H _ I hq) fun us s1 ⟨xs,H1,I1,r,z,q⟩=>⟨by rw[<- r.length];exact z,?_⟩)
 have hf:H1 s1.heap.objs.size=none:=I1.hok.fresh (w0i _);refine⟨.ref s1.heap.objs.size,upd H1 s1.heap.objs.size (.tup xs),I1.laid (t':=s1.toks) (fun b u e=>Heap.get?_push_of_some _ e) (w0i _) ?_,rfl,q _ hf⟩
 exact⟨z,us,r,⟨_,Heap.get?_push_size _ rfl,rfl,_,rfl⟩,⟨_,Heap.get?_push_size _ rfl,rfl⟩⟩
theorem y5w(h:PA X es t):PE X (.List es pos) (tLst t):=by
 intro pins s σ H Q I hq;refine wpAny_List_spliced (thn (h pos pins s σ H _ I hq) fun us s1 ⟨xs,H1,I1,r,z,q⟩=>⟨by rw[<- r.length];exact z,?_⟩)
 have hf:H1 s1.heap.objs.size=none:=I1.hok.fresh (w0i _);refine⟨.ref s1.heap.objs.size,upd H1 s1.heap.objs.size (.lst xs),I1.laid (t':=s1.toks) (fun b u e=>Heap.get?_push_of_some _ e) (w0i _) ?_,rfl,q _ hf⟩
 exact⟨z,us,0,r,Heap.get?_push_size _ rfl⟩
end
abbrev Sp:=List V->Hp->VK->XK->Prop
variable{sp:Sp}
abbrev CXT:=List Env->Hp->Shared->XK->Value->Shared->Prop
variable{CX:CXT}
structure Env0(P:Program)(w:World)(K:PySem.W.Frag)(mg:Str->Option Value)(base:Heap)(A:Around)(outer:List Env)(s:Shared)(H:Hp):Prop where
 frames:A.frames=some outer
 mod:Mod K mg base
 bs:∀b o,base.get? b=some o->s.heap.get? b=some o/\H b=none
 bsz:base.objs.size<=s.heap.objs.size
 funs:s.heap.FunFrames base outer
 frf:∀b∈frs outer,H b=none
 hok:HOk P w H s.heap
 bare:AllBare s.gens
 tab:TabOk K H
def CE(outer:List Env)(P:Program)(w:World)(H:Hp)(s:Shared)(Q:VK)(u:Value)(s':Shared):Prop:=
 ∃v H',s'.os=s.os/\AllBare s'.gens/\Un (frs outer) [] H H' s.heap s'.heap/\HOk P w H' s'.heap/\RelV v u/\Q v H'
def CR(CX:CXT)(outer:List Env)(P:Program)(w:World)(H:Hp)(s:Shared)(Q:VK)(E:XK)(r:Result)(s':Shared):Prop:=
 match r with
 |.ok (.ret u)=>CE outer P w H s Q u s'
 |.ok _=>False
 |.error e=>CX outer H s E e s'
structure FnOk(P:Program)(w:World)(K:PySem.W.Frag)(mg:Str->Option Value)(base:Heap)(CX:CXT)(k:Nat)(f:Addr)(fd:FuncData)(ps:List Str)(sp:Sp):Prop where
 len:∀vs H Q E,sp vs H Q E->vs.length=ps.length
 run:∀(A:Around)(outer:List Env)(s:Shared)(H:Hp)(args:Args)(us:List Value)(vs:List V)(Q:VK)(E:XK),Room k A->Env0 P w K mg base A outer s H->BindsTo s fd args (ps.zip us)->Vals vs us->sp vs H Q E ->
  codeAny (model P w) A (.call (.ref f) args) (CR CX outer P w H s Q E) s
theorem FnOk.imp{base:Heap}{f:Addr}{sp':Sp}(F:FnOk P w K mg base CX k f fd ps sp)
  (h:∀vs H Q E,sp' vs H Q E->sp vs H Q E):FnOk P w K mg base CX k f fd ps sp':=
 ⟨fun vs H Q E q=>F.len vs H Q E (h _ _ _ _ q),fun A outer s H args us vs Q E hr he hb hv hs=>F.run A outer s H args us vs Q E hr he hb hv (h _ _ _ _ hs)⟩
section
variable{s':Shared}
theorem Inv.env0(I:Inv X pins σ H s):Env0 X.prog X.w X.K X.mg X.base X.A X.stack s H:=
 ⟨I.ok.frames,I.ok.mod,I.bs,w0u I.ok.bsz I.sz,I.stack,I.stkFree,I.hok,I.bare,I.ok.tab.un I.base⟩
theorem Inv.after{Q:VK}(I:Inv X pins σ H s)(h:CE X.stack X.prog X.w H s Q u s'):EP X pins σ Q u s':=by
 obtain⟨v,H',os,bare,un,hok,r,q⟩:=h;obtain⟨hh,g,d,t,os'⟩:=s';obtain rfl:os'=s.os:=os;exact⟨v,H',I.call (h':=hh) (g':=g) (d':=d) (t':=t) (ch:=[]) un hok bare (fun b z=>absurd z (by simp)),r,q⟩
end
def Binds(K:PySem.W.Frag)(fd:FuncData)(ps:List Str)(ds:List Value):Prop:=
 ∀(s:Shared)(us:List Value),K.In s.heap->(us++ds).length=ps.length->BindsTo s fd ⟨us,[]⟩ (ps.zip (us++ds))
theorem Binds.all(h:∀us:List Value,us.length=ps.length->bindArgs fd ⟨us,[]⟩=pure (ps.zip us)):Binds K fd ps []:=fun s us _ hl=>by
 rw[w1r]at hl |-
 exact .of_eq (h us hl)
section
variable{f:Addr}{dvs:List V}{ds:List Value}{E:XK}{m:Str}{apos:Pos}{o:Expr}{t:TA}
structure Mk(K:PySem.W.Frag)(C f:Addr):Prop where
 makes:PySem.W.makesIn K C=true
 init:findIn K (.ref C) "__init__"=some (some (.ref f))
 fn:PySem.W.isFn K (.ref f)=true
 kp:keepIn K (.ref C)=true
end
section
variable{f:Addr}{ks:List Str}{E:XK}{m:Str}{apos kpos:Pos}{o:Expr}{kws:List Keyword}{t tk:TA}{nm:Option Str}
structure KBinds(K:PySem.W.Frag)(fd:FuncData)(ps ks:List Str)(g:List Value->List Value->List Value)(gV:List V->List V->List V):Prop where
 to:∀(s:Shared)(us ws:List Value),K.In s.heap->(g us ws).length=ps.length->BindsTo s fd ⟨us,ks.zip ws⟩ (ps.zip (g us ws))
 rel:∀{vs:List V}{us:List Value}{zs:List V}{ws:List Value},Vals vs us->Vals zs ws->Vals (gV vs zs) (g us ws)
variable{g:List Value->List Value->List Value}{gV:List V->List V->List V}
end
structure FnScope(N P:List Str)(sc:Scope):Prop where
 kind:sc.kind=.function
 co:sc.isCoroutine=false
 gen:sc.isGenerator=false
 nd:N.Nodup
 pre:N.take P.length=P
 par:∀x∈P,sc.names.lookup x=some .local\/sc.names.lookup x=some .cell
 nofree:∀y∈sc.names,y.2≠.free
theorem q8v{kindOf:Str->Option NameKind}:∀{binds:List (Str×Value)}{m:Str->Option Value},(∀v,(x,v)∉binds)->bindL kindOf binds m x=m x
 |[],_,_=>rfl
 |(n,v)::r,m,h=>by
  unfold bindL;rw[q8v fun w hw=>h w (w0m _ hw)]
  split
  ·have:x≠n:=by rintro rfl;exact h v w0s
   simp[this]
  ·rfl
theorem q8w{kindOf:Str->Option NameKind}:∀{binds:List (Str×Value)}{m:Str->Option Value},(∀v,(x,v)∉binds)->bindC kindOf binds m x=m x
 |[],_,_=>rfl
 |(n,v)::r,m,h=>by
  unfold bindC;rw[q8w fun w hw=>h w (w0m _ hw)]
  split
  ·rfl
  ·have:x≠n:=by rintro rfl;exact h v w0s
   simp[this]
theorem q8x{kindOf:Str->Option NameKind}{x:Str}{v:Value}:∀{P:List Str}{vs:List Value}{i:Nat}{m:Str->Option Value},P.Nodup->P[i]?=some x->vs[i]?=some v->kindOf x=some .local ->
  bindL kindOf (P.zip vs) m x=some v
 |[],_,_,_,_,h,_,_=>by simp at h
 |_::_,[],_,_,_,_,h,_=>by simp at h
 |p::P,w::vs,0,m,nd,h1,h2,hk=>by
  simp at h1 h2;subst h1;subst h2;show bindL kindOf ((p,w)::P.zip vs) m p=_;unfold bindL;rw[q8v fun v hv=>(w2h.mp nd).1 (w3j hv).1,if_pos hk]
  simp
 |p::P,w::vs,i+1,m,nd,h1,h2,hk=>by
  show bindL kindOf ((p,w)::P.zip vs) m x=_;unfold bindL;exact q8x (i:=i) (w2h.mp nd).2 (by simpa using h1) (by simpa using h2) hk
theorem q8y{kindOf:Str->Option NameKind}{x:Str}{v:Value}:∀{P:List Str}{vs:List Value}{i:Nat}{m:Str->Option Value},P.Nodup->P[i]?=some x->vs[i]?=some v->kindOf x≠some .local ->
  bindC kindOf (P.zip vs) m x=some v
 |[],_,_,_,_,h,_,_=>by simp at h
 |_::_,[],_,_,_,_,h,_=>by simp at h
 |p::P,w::vs,0,m,nd,h1,h2,hk=>by
  simp at h1 h2;subst h1;subst h2;show bindC kindOf ((p,w)::P.zip vs) m p=_;unfold bindC;rw[q8w fun v hv=>(w2h.mp nd).1 (w3j hv).1,if_neg hk]
  simp
 |p::P,w::vs,i+1,m,nd,h1,h2,hk=>by
  show bindC kindOf ((p,w)::P.zip vs) m x=_;unfold bindC;exact q8y (i:=i) (w2h.mp nd).2 (by simpa using h1) (by simpa using h2) hk
noncomputable def start(N:List Str)(vs:List V):St:=vs.map some++List.replicate (N.length-vs.length) none
noncomputable def cxOf(CX:CXT)(P:Program)(w:World)(K:PySem.W.Frag)(mg:Str->Option Value)(base:Heap)(N:List Str)(qual:Str)(scope:Scope)(f:Addr)(cd:Value)(A:Around)(outer:List Env)(s:Shared)(H:Hp)(E:XK):Cx where
 prog:=P
 w:=w
 K:=K
 mg:=mg
 base:=base
 A:=A.deeper (envOfC qual scope s.heap.objs.size f cd)
 N:=N
 s₀:=s
 H₀:=H
 env:=envOfC qual scope s.heap.objs.size f cd
 outer:=outer
 stack:=envOfC qual scope s.heap.objs.size f cd::outer
 ex:=[]
 calm:=true
 fn:=fun _=>true
 pn:=[]
 xe:=fun e s'=>wpAny (model P w) (A.deeper (envOfC qual scope s.heap.objs.size f cd)) (leaving (envOfC qual scope s.heap.objs.size f cd) e) (fun _ s''=>CX outer H s E e s'') (fun e' s''=>CX outer H s E e' s'') s'
theorem q96{sc:Scope}{n:Nat}(h:sc.names.lookup x=some .cell):∃c,(cellsFrom n sc.names []).lookup x=some c:=by
 have q:=PySem.W.cellsFrom_some sc.names n [] (.inl h);exact w3b.mp q
theorem x48{base:Heap}{qual:Str}{scope:Scope}{f:Addr}{cd:Value}{outer:List Env}{s1:Shared}{E:XK}{vs:List V}
  (S:FnScope N ps scope)(hd:A.handled=none)(e0:Env0 P w K mg base A outer s H)(hl:vs.length=ps.length)(r:Vals vs us)
  (x:InCallC s s.heap.objs.size (bindL (envOfC qual scope s.heap.objs.size f cd).kindOf (ps.zip us) fun _=>none) (cellsFrom (s.heap.objs.size+1) scope.names []) (bindC (envOfC qual scope s.heap.objs.size f cd).kindOf (ps.zip us) fun _=>none) s1):
  Inv (cxOf CX P w K mg base N qual scope f cd A outer s H E) [] (start N vs) H s1:=by
 have hpl:ps.length<=N.length:=by have:=congrArg List.length S.pre;rw[List.length_take]at this;omega
 obtain⟨h1,tk,rfl,hk⟩:=x.done;have noA:∀b:Addr,b∉(cxOf CX P w K mg base N qual scope f cd A outer s H E).ex:=fun b z=>absurd (show b∈([]:List Addr)from z) (by simp)
 refine⟨⟨e0.mod,S.kind,rfl,rfl,w0i _,fun y z c h1 h2=>?_,fun y hy=>?_,fun y c _ h=>?_,fun _=>hd,Around.frames_deeper e0.frames,.inr ⟨rfl,rfl⟩,fun b z=>absurd z (noA b),e0.bs,e0.bsz,fun b _ _=>noA b,fun b z=>absurd z (noA b),e0.funs,e0.frf,e0.tab⟩,
  rfl,e0.bare,Un.kept hk,⟨_,x.toInCall.ns,fun i y v h1 h2 h3=>?_⟩,fun y c h=>⟨_,x.cell y c h⟩,e0.hok.fresh (w0i _),fun y c h=>?_,fun p hp=>absurd (show p∈([]:List (Addr×Obj))from hp) (by simp),e0.hok.kept hk,?_⟩
 ·exact name_of_addr x.apart (PySem.mem_of_lookup h1) (PySem.mem_of_lookup h2)
 ·have hy:scope.names.lookup y=some .cell\/scope.names.lookup y=some .free:=hy;rcases hy with hy|hy
  ·exact q96 hy
  ·exact absurd rfl (S.nofree _ (PySem.mem_of_lookup hy))
 ·exact w4a (x.above y c (PySem.mem_of_lookup h))
 ·have hi:i<vs.length:=by
   unfold start at h2
   by_cases hi:i<vs.length
   ·exact hi
   ·rw[w2b (by simpa using hi)]at h2;rw[w2i]at h2;split at h2<;>cases h2
  have ha:vs[i]?=some v:=by
   unfold start at h2;rw[w2c (by simpa using hi),w0f]at h2;cases e:vs[i]? with
   |none=>rw[e]at h2;cases h2
   |some a=>rw[e]at h2;cases h2;rfl
  obtain⟨u,hu,rv⟩:=r.get ha
  have hp:ps[i]?=some y:=by
   rw[<- S.pre,List.getElem?_take_of_lt (by omega)];exact h1
  have ndP:ps.Nodup:=by rw[<- S.pre];exact S.nd.sublist (List.take_sublist _ _)
  refine⟨u,rv,?_⟩;rcases S.par y (w0y hp)with k|k
  ·exact .inl ⟨k,q8x ndP hp hu k⟩
  ·obtain⟨c,e⟩:=q96 (n:=s.heap.objs.size+1) k;refine .inr ⟨.inl k,c,e,?_⟩;have q:=x.cell y c e;rw[q8y ndP hp hu (by show scope.names.lookup y≠_;rw[k];decide)]at q;exact q
 ·exact e0.hok.fresh (w4a (x.above y c (PySem.mem_of_lookup h)))
 ·unfold start;show _=N.length;rw[w1b,w0c,w1f];omega
theorem y8y{base:Heap}{f:Addr}{name qual:Str}{params:Arguments}{body:List Stmt}{scope:Scope}{dV kV doc pm cdv ct oc:Value}{an od:Option Addr}
  {osl:Array (Option Value)}(lk:K.lookup f=some ⟨oc,od,.func (PySem.W.fnOf name qual params body scope dV kV doc pm an cdv ct),osl⟩)(hcd:PySem.W.codeIn K cdv qual=true)(S:FnScope N ps scope)
  (len:∀vs H Q E,sp vs H Q E->vs.length=ps.length)
  (hbody:∀(A:Around)(outer:List Env)(s:Shared)(H:Hp)(vs:List V)(Q:VK)(E:XK),Room k (A.deeper (envOfC qual scope s.heap.objs.size f cdv))->sp vs H Q E ->
   ∃t,PSs (cxOf CX P w K mg base N qual scope f cdv A outer s H E) body t/\t {nx:=fun _ H'=>Q .non H',rt:=Q} (start N vs) H):
  FnOk P w K mg base CX (k+1) f (PySem.W.fnOf name qual params body scope dV kV doc pm an cdv ct) ps sp:=by
 refine⟨len,fun A outer s H args us vs Q E hr e0 hb r hsp=>?_⟩
 have hl:=len _ _ _ _ hsp;have KX:K.In s.heap:=e0.mod.kin.keeps fun b o e=>(e0.bs b o e).1
 have lim:s.heap.NoLimit:=e0.mod.nolimit.keeps fun b o e=>(e0.bs b o e).1
 have hkind:∀y∈ps.zip us,scope.names.lookup y.1=some .local\/(scope.names.lookup y.1=some .cell/\((cellsFrom (s.heap.objs.size+1) scope.names []).lookup y.1).isSome=true):=fun⟨n,v⟩ hy=>by
  rcases S.par n (w3j hy).1 with q|q
  ·exact .inl q
  ·exact .inr ⟨q,PySem.W.cellsFrom_some _ _ _ (.inl q)⟩
 refine codeAny_call_function hr.depth (KX _ _ lk) rfl S.co S.gen rfl (PySem.W.codeRec_of KX hcd) (hb _ _ _ _ ?_)
 refine wpAny_newFunctionEnv_cells S.kind hkind fun env he s1 x=>?_
 subst he;refine⟨lim.keeps x.toInCall.keep,codeAny_func ?_⟩
 obtain⟨t,ht,hq⟩:=hbody A outer s H vs Q E (hr.deeper _) hsp;have I:Inv (cxOf CX P w K mg base N qual scope f cdv A outer s H E) [] (start N vs) H s1:=x48 S hr.hd e0 hl r x;refine wpAny_mono (ht [] s1 (start N vs) H _ I hq) (fun fl s' hs=>?_) fun e s' hs=>hs
 have fin:∀{σ':St}{H':Hp}{v:V}{u:Value},Inv (cxOf CX P w K mg base N qual scope f cdv A outer s H E) [] σ' H' s'->RelV v u->Q v H'->CE outer P w H s Q u s':=
  fun {σ' H' v u} J rv q=>⟨v,H',J.os,J.bare,J.base,J.hok,rv,q⟩
 cases fl with
 |ret u=>
  obtain⟨v,σ',H',J,rv,q⟩:=hs;exact fin J rv q
 |next=>
  obtain⟨σ',H',J,q⟩:=hs;exact fin (v:=V.non) (u:=Value.none) J rfl q
 |brk=>
  obtain⟨_,_,_,q⟩:=hs;exact False.elim q
 |cont=>
  obtain⟨_,_,_,q⟩:=hs;exact False.elim q
section
variable{t:TA}{id T:String}{r:List V->Hp->VK->Prop}
def tCB(r:List V->Hp->VK->Prop)(t:TA):TE:=fun σ H Q=>t σ H fun vs H1=>r vs H1 Q
theorem q64(hc:CallR X (.builtin id) r)(hg:Gl X x)(hm:X.mg x=none)(hv:bootBuiltins x=some (.builtin id))(ha:PA X (e::es) t)(hn:x≠"__name__":=by decide)(hdb:(x==("__debug__":Str))=false:=by decide)
  (he:starEach (e::es) X.env=(false,eval e X.env)::starEach es X.env:=by rfl)(hpl:(backTo pos (starEach es X.env)).any (·.1)=false:=by rfl):PE X (.Call (.Name x p) (e::es) [] pos) (tCB r t):=by
 intro pins s σ H Q I h;refine wpAny_Call_Name_kw (q4w I hg hm hv ?_ hn hdb);exact PyProof.Rows.callWith_builtin1 (thn (ha pos pins s σ H _ I h) fun us s1 ⟨vs,H1,I1,r1,q1⟩=>hc pins s1 σ H1 vs us Q I1 r1 q1) he hpl
theorem q4l(hc:CallR X (.type T) r)(hg:Gl X x)(hm:X.mg x=none)(hv:bootBuiltins x=some (.type T))(ha:PA X (e::es) t)(hn:x≠"__name__":=by decide)(hdb:(x==("__debug__":Str))=false:=by decide)
  (he:starEach (e::es) X.env=(false,eval e X.env)::starEach es X.env:=by rfl)(hpl:(backTo pos (starEach es X.env)).any (·.1)=false:=by rfl):PE X (.Call (.Name x p) (e::es) [] pos) (tCB r t):=by
 intro pins s σ H Q I h;refine wpAny_Call_Name_kw (q4w I hg hm hv ?_ hn hdb);exact PyProof.Rows.callWith_type1 (thn (ha pos pins s σ H _ I h) fun us s1 ⟨vs,H1,I1,r1,q1⟩=>hc pins s1 σ H1 vs us Q I1 r1 q1) he hpl
end
end L2
namespace HT
open PySem PyProof.Rows
section
variable{prog:Program}{w:World}{A:Around}{E:Value->Shared->Prop}{s:Shared}
theorem cat_tup{t b:Addr}{vs ws:List Value}{Q:Value->Shared->Prop}(ht:IsTup s.heap t vs.toArray)(hb:IsTup s.heap b ws.toArray)(hv:vs≠[])
  (h1:ws=[]->Q (.ref t) s)(h2:ws≠[]->Q (.ref s.heap.objs.size) {s with heap:=s.heap.push {cls:=.type "tuple", data:=.seq (vs++ws).toArray}})
  (hsz:vs.length+ws.length<=sizeLine):wpAny (model prog w) A (binaryOp .Add (.ref t) (.ref b)) Q E s:=by
 obtain⟨⟨cls,dd,data,sl⟩,ho,hc,n,hd⟩:=id ht;obtain⟨⟨cls2,dd2,data2,sl2⟩,ho2,hc2,n2,hd2⟩:=id hb;simp only at hc hd hc2 hd2;subst hc hd hc2 hd2;have e:vs.toArray++ws.toArray=(vs++ws).toArray:=by simp
 by_cases hw:ws=[]
 ·exact concat_meets ⟨_,ho,rfl⟩ ⟨_,ho2,rfl⟩ noFill_tuple_add seq_tuple_add PySem.F.slot_tuple_add PySem.F.entry_tuple_add (PySem.F.args_tuple_add_2 _ _)
   (tuple_addW1 t b vs.toArray ws.toArray n n2 dd dd2 sl sl2 (by simpa using hv) (by simp[hw])) ⟨ho,ho2,h1 hw⟩
 ·refine concat_meets ⟨_,ho,rfl⟩ ⟨_,ho2,rfl⟩ noFill_tuple_add seq_tuple_add PySem.F.slot_tuple_add PySem.F.entry_tuple_add (PySem.F.args_tuple_add_2 _ _)
   (tuple_addW2 t b vs.toArray ws.toArray n n2 dd dd2 sl sl2 (by simpa using hv) (by simpa using hw) (by rw[w0h,w0h];exact hsz)) ⟨ho,ho2,?_⟩
  rw[e];exact h2 hw
noncomputable def sIx(n d:Nat):Option Int->Nat
 |none=>d
 |some v=>if v<0 then(v+(n:Int)).toNat else min v.toNat n
end
end HT
namespace L2
open PySem PySem.Spec PyProof.Rows
variable{X:Cx}{xs:List V}{us:List Value}{n:Nat}{s:Shared}{α:Type}
abbrev TO:=St->Hp->(Option Int->Hp->Prop)->Prop
def PO(X:Cx)(e:Option Expr)(t:TO):Prop:=
 ∀(pins:List (Addr×Obj))(s:Shared)(σ:St)(H:Hp)(Q:Option Int->Hp->Prop),Inv X pins σ H s->t σ H Q ->
  wpAny (model X.prog X.w) X.A (evalPart e X.env) (fun u s'=>∃o H',Inv X pins σ H' s'/\IsPart u o/\Q o H') X.xe s
section
variable{e:Expr}{te:TE}{lo hi:Option Expr}{tl th:TO}{pos p2:Pos}
def SlR(X:Cx)(r:V->Option Int->Option Int->Hp->VK->Prop):Prop:=
 ∀(pins:List (Addr×Obj))(s:Shared)(σ:St)(H:Hp)(x:V)(v vl vu:Value)(lo hi:Option Int)(sl:Addr)(Q:VK),Inv X pins σ H s->RelV x v->s.heap.IsSliceOf sl vl vu .none->IsPart vl lo->IsPart vu hi->r x lo hi H Q ->
  ∃T id,typeLookup (.type T) "__getitem__"=pure (some (.builtin id))/\s.TypeIs v T/\wpAny (model X.prog X.w) X.A (getItem v (.ref sl)) (EP X pins σ Q) X.xe s
def rCatT(K:PySem.W.Frag):R2:=fun x y H Q=>∃a b xs ys,x=.ref a/\y=.ref b/\SqT K H a xs/\SqT K H b ys/\xs≠[]/\xs.length+ys.length<=sizeLine /\
 (ys=[]->Q (.ref a) H)/\(ys≠[]->∀p,H p=none->Q (.ref p) (upd H p (.tup (xs++ys))))
theorem Vals.nil_iff(r:Vals xs us):us=[]↔xs=[]:=by
 cases r with
 |nil=>simp
 |cons _ _=>simp
theorem op_catT:OpR X (binaryOp .Add) (rCatT X.K):=by
 intro pins s σ H x y v u Q I rx ry h;obtain⟨a,b,xs,ys,rfl,rfl,ha,hb,hx,hz,q1,q2⟩:=h;cases rx;cases ry;obtain⟨its,r1,p1,_⟩:=I.tuple ha;obtain⟨its2,r2,p2,_⟩:=I.tuple hb;refine HT.cat_tup p1 p2 (fun z=>hx (r1.nil_iff.mp z)) (fun z=>⟨.ref a,H,I,rfl,q1 (r2.nil_iff.mp z)⟩) (fun z=>?_) (by rw[<- r1.length,<- r2.length];exact hz)
 refine⟨.ref s.heap.objs.size,_,I.laid (t':=s.toks) (o:=.tup (xs++ys)) (fun b ob q=>Heap.get?_push_of_some _ q) (w0i _) ?_,rfl,q2 (fun w=>z (r2.nil_iff.mpr w)) _ (I.hok.fresh (w0i _))⟩
 exact⟨by rw[w1b];exact hz,_,r1.append r2,IsTup.new _ _,_,Heap.get?_push_size _ rfl,rfl⟩
end
noncomputable def ixN(n:Nat)(i:Int):Option Nat:=if 0<=i then(if i<n then some i.toNat else none)else if -(n:Int)<=i then some (i+n).toNat else none
noncomputable def atI(xs:List α)(i:Int):Option α:=(ixN xs.length i).bind fun j=>xs[j]?
theorem y1r{i:Int}{j:Nat}(h:ixN n i=some j):seqIndex? i n=some j/\j<n/\-(n:Int)<=i/\i<n:=by
 unfold ixN at h
 by_cases h0:0<=i
 ·rw[if_pos h0]at h
  by_cases h1:i<n
  ·rw[if_pos h1]at h;have e:i.toNat=j:=Option.some.inj h;exact⟨by rw[seqIndex_of h0 h1,e],by omega,by omega,h1⟩
  ·rw[if_neg h1]at h;cases h
 ·rw[if_neg h0]at h
  by_cases h1:-(n:Int)<=i
  ·rw[if_pos h1]at h;have e:(i+n).toNat=j:=Option.some.inj h;exact⟨by rw[seqIndex_neg (by omega) h1,e],by omega,h1,by omega⟩
  ·rw[if_neg h1]at h;cases h
theorem q8d{xs:List α}{i:Int}{v:α}(h:atI xs i=some v):∃j,seqIndex? i xs.length=some j/\xs[j]?=some v/\j<xs.length/\-(xs.length:Int)<=i/\i<xs.length:=by
 unfold atI at h;cases e:ixN xs.length i with
 |none=>rw[e]at h;cases h
 |some j=>
  rw[e]at h;obtain⟨h1,h2,h3,h4⟩:=y1r e;exact⟨j,h1,h,h2,h3,h4⟩
theorem q2x{xs:List α}{j:Nat}{v:α}(h:xs[j]?=some v):atI xs (j:Int)=some v:=by
 have hj:j<xs.length:=(w0a.mp h).1
 have e:ixN xs.length (j:Int)=some j:=by
  unfold ixN;rw[if_pos (by omega),if_pos (by omega)];simp
 unfold atI;rw[e];exact h
def PlainIx(b:Expr):Prop:=∀o i,subscripted b false o i=operate [o,i] (getItem o i)
def IxR(X:Cx)(r:R2):Prop:=
 ∀(value slice:Expr)(pins:List (Addr×Obj))(s:Shared)(σ:St)(H:Hp)(x y:V)(v u:Value)(Q:VK),Inv X pins σ H s->RelV x v->RelV y u->r x y H Q ->
  subscripted slice false v u=operate [v,u] (getItem v u)->wpAny (model X.prog X.w) X.A (subscriptTail value slice v u) (EP X pins σ Q) X.xe s
def MtR(X:Cx)(id:String)(r:V->List V->Hp->VK->Prop):Prop:=
 ∀(pins:List (Addr×Obj))(s:Shared)(σ:St)(H:Hp)(x:V)(xs:List V)(v:Value)(us:List Value)(Q:VK),Inv X pins σ H s->RelV x v->Vals xs us->r x xs H Q ->
  wpAny (model X.prog X.w) X.A (call (.builtin id) (v::us)) (EP X pins σ Q) X.xe s
section
variable{a b:Expr}{ta tb:TE}{pos:Pos}
theorem IxR.or{r r':R2}(h:IxR X r)(h':IxR X r'):IxR X (fun x y H Q=>r x y H Q\/r' x y H Q):=by
 intro value slice pins s σ H x y v u Q I rx ry q hs;rcases q with q|q
 ·exact h value slice pins s σ H x y v u Q I rx ry q hs
 ·exact h' value slice pins s σ H x y v u Q I rx ry q hs
theorem x3m{r:R2}(hr:IxR X r)(ha:PE X a ta)(hb:PE X b tb)(hs:PlainIx b):PE X (.Subscript a b pos) (tOp r ta tb):=by
 intro pins s σ H Q I h;exact Subscript_ (binT ha hb I h fun v u s2 x y H2 I2 rx ry q=>hr a b pins s2 σ H2 x y v u Q I2 rx ry q (hs _ _))
def rIxL(K:PySem.W.Frag):R2:=fun x y H Q=>∃p xs i v,x=.ref p/\y=.int i/\SqL K H p xs/\atI xs i=some v/\Q v H
def rIxT(K:PySem.W.Frag):R2:=fun x y H Q=>∃p xs i v,x=.ref p/\y=.int i/\SqT K H p xs/\atI xs i=some v/\Q v H
def rIxS:R2:=fun x y H Q=>∃z i c,x=.str z/\y=.int i/\z.length<=sizeLine/\atI z.cps.toList i=some c/\Q (.str ⟨#[c]⟩) H
theorem ix_list:IxR X (rIxL X.K):=by
 intro value slice pins s σ H x y v u Q I rx ry h hs;obtain⟨p,xs,i,z,rfl,rfl,hq,he,q⟩:=h;cases rx;obtain⟨t,rfl⟩:=ry;obtain⟨its,r,pl,hz⟩:=I.list hq;obtain⟨j,h1,h2,h3,h4,h5⟩:=q8d he;obtain⟨w,ew,rw'⟩:=r.get h2;have hl:=r.length;have hn:=line63;have fin:EP X pins σ Q w s:=⟨z,H,I,rw',q⟩
 by_cases h0:0<=i
 ·have hj:i.toNat=j:=by
   rw[seqIndex_of h0 h5]at h1;exact Option.some.inj h1
  exact item_listR pl.isList h0 (by omega) (by rw[hj];simpa using ew) fin hs
 ·have hj:(i+(its.toArray.size:Int)).toNat=j:=by
   rw[seqIndex_neg (by omega) h4]at h1;rw[w0h,<- hl];exact Option.some.inj h1
  exact subscriptTail_builtinR (x:=w) pl.isList.typeIs slot_list_getitem.lookup
   (wpAny_getItem_list_neg (Q:=fun r s'=>r=w/\EP X pins σ Q r s') pl.isList (by omega) (by rw[w0h]<;>omega) (by omega) (by rw[hj];simpa using ew) ⟨rfl,fin⟩) hs
theorem ix_tup:IxR X (rIxT X.K):=by
 intro value slice pins s σ H x y v u Q I rx ry h hs;obtain⟨p,xs,i,z,rfl,rfl,hq,he,q⟩:=h;cases rx;obtain⟨t,rfl⟩:=ry;obtain⟨its,r,pl,hz⟩:=I.tuple hq;obtain⟨j,h1,h2,h3,h4,h5⟩:=q8d he;obtain⟨w,ew,rw'⟩:=r.get h2;have hl:=r.length;have hn:=line63;have fin:EP X pins σ Q w s:=⟨z,H,I,rw',q⟩
 exact subscriptTail_builtinR (x:=w) pl.typeIs slot_tuple_getitem.lookup
  (getItem_tuple (j:=j) (Q:=fun r s'=>r=w/\EP X pins σ Q r s') pl (by omega) (by omega) (by rw[w0h,<- hl];exact h1) (by simpa using ew) ⟨rfl,fin⟩) hs
theorem y5x:IxR X rIxS:=by
 intro value slice pins s σ H x y v u Q I rx ry h hs;obtain⟨z,i,c,rfl,rfl,hz,he,q⟩:=h;obtain⟨t,rfl⟩:=rx;obtain⟨t',rfl⟩:=ry;obtain⟨j,h1,h2,h3,h4,h5⟩:=q8d he;have hl:z.cps.toList.length=z.length:=by simp[Str.length]
 rw[hl]at h1 h4 h5;have hn:=line63
 exact tail_any (typeIs_str s z t) slot_str_getitem.lookup (getItem_str (c:=c) (by
  have e1:decide (i < -(2^63:Int))=false:=decide_eq_false (by omega);have e2:decide (i>=2^63)=false:=decide_eq_false (by omega);rw[e1,e2,Bool.or_false]) (by rw[h1];simpa using h2) ⟨.str ⟨#[c]⟩,H,I.tok _,⟨_,rfl⟩,q⟩) hs
def rIx(K:PySem.W.Frag):R2:=fun x y H Q=>rIxL K x y H Q\/rIxT K x y H Q\/rIxS x y H Q
theorem x49:IxR X (rIx X.K):=ix_list.or (ix_tup.or y5x)
theorem q97:CallR X (.type "list") (fun xs H Q=>∃p ys,xs=[.ref p]/\(SqL X.K H p ys\/SqT X.K H p ys)/\∀l,H l=none->Q (.ref l) (upd H l (.lst ys))):=by
 intro pins s σ H xs us Q I r h;obtain⟨p,ys,rfl,hq,q⟩:=h;obtain⟨u,rfl,rx⟩:=vals1 r;cases rx
 have fin:∀(its:List Value),Vals ys its->ys.length<=sizeLine->∀(h':Heap)(c':Nat),(∀b o',s.heap.get? b=some o'->h'.get? b=some o') ->
   h'.get? s.heap.objs.size=some {cls:=.type "list", dict:=none,data:=.seq its.toArray c',slots:=#[]}->EP X pins σ Q (.ref s.heap.objs.size) {s with heap:=h'}:=fun its r' hz h' c' kp e=>
  ⟨.ref s.heap.objs.size,_,I.laid (t':=s.toks) kp (w0i _) (show ObjOk X.prog X.w _ h' _ (.lst ys)from⟨hz,its,c',r',e⟩),rfl,q _ (I.hok.fresh (w0i _))⟩
 rcases hq with hq|hq
 ·obtain⟨its,r',pl,hz⟩:=I.list hq;have hlen:=r'.length;obtain⟨o,ho,hc,n,hd⟩:=pl.isList;exact call_list_seq p (.inl rfl) ho hc hd (fun h' c' kp e=>fin its r' hz h' c' kp e) (by simp only[w0h]<;>omega)
 ·obtain⟨its,r',pl,hz⟩:=I.tuple hq;have hlen:=r'.length;obtain⟨o,ho,hc,n,hd⟩:=pl;exact call_list_seq p (.inr rfl) ho hc hd (fun h' c' kp e=>fin its r' hz h' c' kp e) (by simp only[w0h]<;>omega)
theorem q9m:CallR X (.type "tuple") (fun xs H Q=>∃p ys,xs=[.ref p]/\((SqL X.K H p ys/\∀l,H l=none->Q (.ref l) (upd H l (.tup ys)))\/(SqT X.K H p ys/\Q (.ref p) H))):=by
 intro pins s σ H xs us Q I r h;obtain⟨p,ys,rfl,h⟩:=h;obtain⟨u,rfl,rx⟩:=vals1 r;cases rx;rcases h with⟨hq,q⟩|⟨hq,q⟩
 ·obtain⟨its,r',pl,hz⟩:=I.list hq;have hlen:=r'.length;refine call_tuple_list pl.isList (fun h' kp=>?_) (by simp only[w0h]<;>omega)
  have I1:Inv X pins σ H {s with heap:=h'}:=I.kept (t':=s.toks) kp
  have I2:Inv X pins σ (upd H h'.objs.size (.tup ys)) {s with heap:=h'.push {cls:=.type "tuple", data:=.seq its.toArray}}:=
   I1.laid (t':=s.toks) (fun b o e=>Heap.get?_push_of_some _ e) (w0i _) (show ObjOk X.prog X.w _ _ _ (.tup ys)from⟨hz,its,r',IsTup.new _ _,_,Heap.get?_push_size _ rfl,rfl⟩)
  exact⟨.ref h'.objs.size,_,I2,rfl,q _ (I1.hok.fresh (w0i _))⟩
 ·obtain⟨its,r',pl,hz⟩:=I.tuple hq;exact call_tuple_same pl ⟨.ref p,H,I,rfl,q⟩
def tyV(K:PySem.W.Frag)(T:String)(x:V)(H:Hp):Prop:=match x with
 |.str _=>T="str"
 |.int _=>T="int"
 |.ref p=>(T="list" /\ ∃xs,SqL K H p xs)\/(T="tuple" /\ ∃o,K.lookup p=some o/\o.cls=.type "tuple" /\ o.dict=none) \/
   (T="dict" /\ ((∃kvs,H p=some (.dK kvs))\/∃sh kvs kas,H p=some (.dT sh kvs kas)))\/(T="set" /\ ∃S n,H p=some (.set S n))
 |_=>False
theorem x5a{pins:List (Addr×Obj)}{σ:St}{H:Hp}{T:String}{x:V}{v:Value}(I:Inv X pins σ H s)(r:RelV x v)(ty:tyV X.K T x H):
  s.TypeIs v T/\∀a,v=.ref a->∃ob,s.heap.get? a=some ob/\ob.dict=none:=by
 cases x with
 |str z=>
  obtain⟨t,rfl⟩:=r;cases(show T="str" from ty);exact⟨typeIs_str s z t,fun _ e=>nomatch e⟩
 |int i=>
  obtain⟨t,rfl⟩:=r;cases(show T="int" from ty);exact⟨typeIs_int s i t,fun _ e=>nomatch e⟩
 |ref p=>
  cases r;rcases ty with⟨rfl,xs,hq⟩|⟨rfl,o,hk,hc,hd⟩|⟨rfl,hk⟩|⟨rfl,S,n,hk⟩
  ·obtain⟨its,_,pl,_⟩:=I.list hq;refine⟨pl.isList.typeIs,fun a e=>?_⟩
   cases e;obtain⟨o,n,e,c,hd,_⟩:=pl;exact⟨o,e,hd⟩
  ·refine⟨⟨o,I.kIn p o hk,hc⟩,fun a e=>?_⟩
   cases e;exact⟨o,I.kIn _ o hk,hd⟩
  ·have z:∃o,s.heap.get? p=some o/\o.ExactDict:=by
    rcases hk with⟨kvs,hk⟩|⟨sh,kvs,kas,hk⟩
    ·obtain⟨_,_,_,_,o,_,_,e,ex,_⟩:=I.hok p _ hk;exact⟨o,e,ex⟩
    ·obtain⟨_,_,_,_,_,o,_,_,e,ex,_⟩:=I.hok p _ hk;exact⟨o,e,ex⟩
   obtain⟨o,e,ex⟩:=z;refine⟨⟨o,e,ex.1⟩,fun a e2=>?_⟩
   cases e2;exact⟨o,e,ex.2.1⟩
  ·obtain⟨o,_,_,_,e,ex,_⟩:=I.hok p _ hk;refine⟨⟨o,e,ex.1⟩,fun a e2=>?_⟩
   cases e2;exact⟨o,e,ex.2.1⟩
 |_=>exact False.elim ty
def tBM0(K:PySem.W.Frag)(T:String)(r:V->List V->Hp->VK->Prop)(to:TE):TE:=fun σ H Q=>to σ H fun x H1=>tyV K T x H1/\r x [] H1 Q
def tBM(K:PySem.W.Frag)(T:String)(r:V->List V->Hp->VK->Prop)(to:TE)(t:TA):TE:=fun σ H Q=>to σ H fun x H1=>tyV K T x H1/\t σ H1 fun xs H2=>r x xs H2 Q
variable{o e:Expr}{es:List Expr}{to:TE}{t:TA}{name:Str}{apos cpos:Pos}{T id:String}{r:V->List V->Hp->VK->Prop}
theorem x5b(pa:PlainAttrs T)(slot:Slot T name id)(hty:typeOf (.builtin id)=pure (.type "method_descriptor"))(hm:MtR X id r)(ho:PE X o to)
  (hbase:attributeBase o name X.env (eval o X.env)=eval o X.env:=by rfl)(hline:(apos.endLine==cpos.line)=true:=by rfl):PE X (.Call (.Attribute o name apos) [] [] cpos) (tBM0 X.K T r to):=by
 intro pins s σ H Q I h;refine wpAny_Call_method0_late hbase hline (thn (ho pins s σ H _ I h) fun v s1 ⟨x,H1,I1,r1,ty,q1⟩=>?_)
 obtain⟨h1,h2⟩:=x5a I1 r1 ty;exact⟨T,id,pa,slot,hty,h1,h2,Calls.callWith_builtin rfl (PySem.evalArgs_none (hm pins s1 σ H1 x [] v [] Q I1 r1 .nil q1))⟩
theorem y8z(pa:PlainAttrs T)(slot:Slot T name id)(hty:typeOf (.builtin id)=pure (.type "method_descriptor"))(hm:MtR X id r)(ho:PE X o to)(ha:PA X (e::es) t)
  (hbase:attributeBase o name X.env (eval o X.env)=eval o X.env:=by rfl)
  (hfew:((backTo cpos (starEach (e::es) X.env)).all (fun x=>!x.1)&&(backToKw cpos (keywordEach [] X.env)).all (fun x=>x.1.isSome)
   && decide ((e::es).length+([]:List Keyword).length+(if([]:List Keyword).isEmpty then 0 else 1)<30))=true:=by rfl)
  (hline:(apos.endLine==cpos.line)=true:=by rfl)(hs:starEach (e::es) X.env=(false,eval e X.env)::starEach es X.env:=by rfl)(hplain:(backTo cpos (starEach es X.env)).any (·.1)=false:=by rfl):
  PE X (.Call (.Attribute o name apos) (e::es) [] cpos) (tBM X.K T r to t):=by
 intro pins s σ H Q I h;refine wpAny_Call_method_late hbase hfew hline rfl (thn (ho pins s σ H _ I h) fun v s1 ⟨x,H1,I1,r1,ty,q1⟩=>?_)
 obtain⟨h1,h2⟩:=x5a I1 r1 ty;refine⟨T,id,pa,slot,hty,h1,h2,?_⟩;have hA:=ha cpos pins s1 σ H1 _ I1 q1;rw[hs]at hA |-
 refine Calls.callWith_builtin (by show(false||(backTo cpos (starEach es X.env)).any (·.1))=false;rw[hplain]<;>rfl) (Calls.evalArgs_plain ?_);exact thn hA fun us s2 ⟨vs,H2,I2,r2,q2⟩=>hm pins s2 σ H2 x vs v us Q I2 r1 r2 q2
/- xs.append(e),list.index on a module's tuple .. are MtR facts of 06m -/
end
def MtM(X:Cx)(id:String)(r:V->List V->Hp->VK->Prop):Prop:=
 ∀(pins:List (Addr×Obj))(s:Shared)(σ:St)(H:Hp)(x:V)(xs:List V)(v:Value)(us:List Value)(Q:VK),Inv X pins σ H s->RelV x v->Vals xs us->r x xs H Q ->
  wpAny (model X.prog X.w) X.A (call (.builtin id) (v::us)) (EP X pins σ Q) X.xe s
theorem Vals.one{x:V}(h:Vals [x] us):∃u,us=[u]/\RelV x u:=vals1 h
theorem Vals.zero:∀{us:List Value},Vals [] us->us=[]
 |_,.nil=>rfl
theorem Vals.reverse(h:Vals xs us):Vals xs.reverse us.reverse:=by
 induction h with
 |nil=>exact .nil
 |cons r t ih=>rw[w2m,w2m];exact Vals.append ih (.cons r .nil)
theorem Vals.rep(h:Vals xs us):∀k:Nat,Vals (List.replicate k xs).flatten (List.replicate k us).flatten
 |0=>.nil
 |k+1=>by
  rw[w0x,w0x,w1d,w1d];exact Vals.append h (Vals.rep h k)
theorem q8z(its:List Value):∀(k:Nat)(acc:List Value),
  List.foldl (fun x1 x2=>x1++x2) acc.toArray (List.replicate k its.toArray)=(acc++(List.replicate k its).flatten).toArray
 |0,acc=>by simp
 |k+1,acc=>by
  have e:acc.toArray++its.toArray=(acc++its).toArray:=by simp
  have e2:(acc++its)++(List.replicate k its).flatten=acc++(List.replicate (k+1) its).flatten:=by
   rw[w0x,w1d,w1z]
  rw[<- e2,<- q8z its k (acc++its),<- e,w0x,w1s]
section
variable{pins:List (Addr×Obj)}{σ:St}{H:Hp}{l b:Addr}{ys zs:List V}
theorem Inv.lset{its its':List Value}{f:Array Value->Array Value}{t':Nat}(I:Inv X pins σ H s)(hH:H l=some (.lst xs))
  (e:s.heap.get? l=some {cls:=.type "list", data:=.seq its.toArray n})(hf:f its.toArray=its'.toArray)(hv:Vals ys its')(hz:ys.length<=sizeLine):
  Inv X pins σ (upd H l (.lst ys)) {s with heap:=s.heap.update l (Obj.mapSeq f),toks:=t'}:=by
 have q:=PySem.IsL.update e f;rw[hf]at q;refine I.write (x:=l) (e:=l) (by rw[hH];exact trivial) (.inl rfl) (fun b' u hb hu=>(Heap.get?_update_other s.heap (Obj.mapSeq f) (Ne.symm hb)).trans hu) ⟨_,q⟩ ?_
 exact⟨hz,its',_,hv,q⟩
theorem Inv.lnew{its:List Value}{t':Nat}(I:Inv X pins σ H s)(hv:Vals ys its)(hz:ys.length<=sizeLine):
  Inv X pins σ (upd H s.heap.objs.size (.lst ys)) {s with heap:=s.heap.push {cls:=.type "list", data:=.seq its.toArray},toks:=t'}:=
 I.laid (fun _ _ q=>Heap.get?_push_of_some _ q) (w0i _) ⟨hz,its,0,hv,Heap.get?_push_size _ rfl⟩
theorem Inv.fresh(I:Inv X pins σ H s):H s.heap.objs.size=none:=I.hok.fresh (w0i _)
theorem Inv.lstM(I:Inv X pins σ H s)(hH:H l=some (.lst xs)):xs.length<=sizeLine/\∃(its:List Value)(n:Nat),Vals xs its/\xs.length=its.length/\s.heap.get? l=some {cls:=.type "list", data:=.seq its.toArray n}:=by
 obtain⟨z,its,n,r,e⟩:=I.hok l _ hH;exact⟨z,its,n,r,r.length,e⟩
theorem notLongL(h:n<=sizeLine):Builtin.List.listTooLong n=false:=by
 unfold Builtin.List.listTooLong;exact decide_eq_false (by omega)
end
def rAppend:V->List V->Hp->VK->Prop:=fun x vs H Q=>∃l xs y,x=.ref l/\vs=[y]/\H l=some (.lst xs)/\xs.length<sizeLine/\Q .non (upd H l (.lst (xs++[y])))
theorem q80:MtM X "list.append" rAppend:=by
 intro pins s σ H x vs v us Q I rx rv h;obtain⟨l,xs,y,rfl,rfl,hH,hz,q⟩:=h;cases rx;obtain⟨u,rfl,ru⟩:=rv.one;obtain⟨z,its,n,r,hl,e⟩:=I.lstM hH;refine call_meets F.slot_list_append ⟨_,e,rfl⟩ F.entry_list_append (F.args_list_append_2 _ _) (PySem.list_append l its.toArray n u (by rw[w0h];omega)) ⟨e,?_⟩;refine⟨.non,_,I.lset (its':=its++[u]) hH e (by simp) (r.append (.cons ru .nil)) ?_,rfl,q⟩;rw[w1b,w3k];omega
def rReverse:V->List V->Hp->VK->Prop:=fun x vs H Q=>∃l xs,x=.ref l/\vs=[]/\H l=some (.lst xs)/\Q .non (upd H l (.lst xs.reverse))
theorem x3n:MtM X "list.reverse" rReverse:=by
 intro pins s σ H x vs v us Q I rx rv h;obtain⟨l,xs,rfl,rfl,hH,q⟩:=h;cases rx;have hus:=rv.zero;subst hus;obtain⟨z,its,n,r,hl,e⟩:=I.lstM hH;refine call_meets F.slot_list_reverse ⟨_,e,rfl⟩ F.entry_list_reverse (F.args_list_reverse_1 _) (AutoSeq1.list_reverse_list_0 l its.toArray n (by rw[w0h];omega)) ⟨e,?_⟩;refine⟨.non,_,I.lset (its':=its.reverse) hH e (by simp) r.reverse ?_,rfl,q⟩;rw[List.length_reverse];omega
def rClear:V->List V->Hp->VK->Prop:=fun x vs H Q=>∃l xs,x=.ref l/\vs=[]/\H l=some (.lst xs)/\Q .non (upd H l (.lst []))
theorem x78:MtM X "list.clear" rClear:=by
 intro pins s σ H x vs v us Q I rx rv h;obtain⟨l,xs,rfl,rfl,hH,q⟩:=h;cases rx;have hus:=rv.zero;subst hus;obtain⟨z,its,n,r,hl,e⟩:=I.lstM hH;refine call_meets F.slot_list_clear ⟨_,e,rfl⟩ F.entry_list_clear (F.args_list_clear_1 _) (AutoSeq1.list_clear_list_0 l its.toArray n (by rw[w0h];omega)) ⟨e,?_⟩;exact⟨.non,_,I.lset (its':=[]) (ys:=[]) hH e rfl .nil (w0w _),rfl,q⟩
theorem y1s(xs:List α)(k:Nat):(List.replicate k xs).flatten.length=k*xs.length:=by
 induction k with
 |zero=>simp
 |succ k ih=>rw[w0x,w1d,w1b,ih,Nat.succ_mul,Nat.add_comm]
end L2
namespace Att
open PySem PySem.W PySem.Calls PyProof.Rows
theorem q7j{P:Params}{h:Heap}:∀(ns:List Int)(vs:List Value),WellAll P h vs (ns.map WData.int)->IntsAre vs ns:=by
 intro ns
 induction ns with
 |nil=>
  intro vs w;rw[List.map_nil]at w;cases w;exact .nil
 |cons n ns ih=>
  intro vs w;rw[w0v]at w;cases w with
  |cons a b=>
   cases a;exact .cons _ _ (ih _ b)
theorem x5c{l:OpenLaw}{n:Nat}(hn:l.most=some n){P:Params}{h:Heap}{args:List WData}{vals:List Value}
  (hpre:l.row.toRowW.claim.pre args=true)(hwl:WellAll P h vals args):
  ∃a vs ns,vals=[Value.ref a]/\args=[WData.list (ns.map WData.int)]/\h.get? a=some {cls:=.type "list", data:=.seq vs.toArray}/\IntsAre vs ns/\ns.length<=n:=by
 have hsh:WShape.hasAll [] args [.list .int]=true:=(pre_splitW hpre).1;have hc:l.pre.holds [] {args:=args}=true:=(pre_splitW hpre).2;obtain⟨d,r,rfl,h1,h2⟩:=hasAllW_cons hsh;obtain rfl:=hasAllW_nil h2;obtain⟨xs,rfl,h3⟩:=hasW_list h1;obtain⟨ns,rfl⟩:=items_int h3
 have hlen:ns.length<=n:=by
  unfold OpenLaw.pre at hc
  have h4:(WTm.not (.lt (.lit (.int (n:Int))) (.len (.arg 0)))).holds [] {args:=[.list (ns.map .int)]}=true:=by
   have h4:=(holds_andW hc).1;rw[hn]at h4;exact h4
  have h5:=condW_of h4 (w_not (w_lt w_lit (w_len_list (w_arg rfl))));rw[w0c]at h5;refine Nat.le_of_not_lt fun q=>?_
  have q':(n:Int)<((ns.length:Nat):Int):=by omega
  first
   |(rw[decide_eq_true q']at h5;exact absurd h5 (by decide))
   |(simp at h5;omega)
 cases hwl with
 |cons w1 w2=>
  cases w2;cases w1 with
  |list ho hall=>exact⟨_,_,ns,rfl,rfl,ho,q7j ns _ hall,hlen⟩
theorem x5d(l:OpenLaw)(args:List WData):l.row.toRowW.claim.post args (.bool true) args=true:=
 postW_of (r:=l.row.toRowW) (X:=(true==true))
  (show WShape.has [] (.bool true) .bool=true by first|rfl|decide|simp[WShape.has,WShape.arms,WShape.armsAll])
  (show(WTm.eq .res (.lit (.bool true))).value [] {args:=args,res:=some (.bool true),after:=args}=some (.bool (true==true))from w_eq_bool (w_res rfl) w_lit) rfl
theorem attach_call{l:OpenLaw}{n:Nat}{q:Program}{loose:List Str}{XP:(Str->Option Value)->Heap->Prop}{YP:World->Heap->Prop}{d:DefRec}
  (hn:l.most=some n)(hdf:d.params.defaults=[])
  (call:∀(w:World)(s₀ s₁:Shared)(mg mb:Str->Option Value)(fa:Addr)(o:Obj)(pm cd doc:Value)(a:Addr)(vs:List Value)(ns:List Int),
   Ground q loose [] XP w s₀ mg mb s₁.heap->YP w s₁.heap ->
   s₁.heap.get? fa=some o->o.data=.func (docDef d.name d.params d.body d.scope pm cd doc)->s₁.heap.CodeRec cd d.name->mg d.name=some (.ref fa) ->
   s₁.heap.get? a=some {cls:=.type "list", data:=.seq vs.toArray}->IntsAre vs ns->ns.length<=n->s₁.gens=#[] ->
   codeAny (model l.prog w) callerA (.call (.ref fa) ⟨[.ref a],[]⟩) (fun r s'=>r=.ok (.ret (.bool true))/\OldK s₁.heap s'.heap/\s'.os=s₁.os/\AllBare s'.gens) s₁):
  WalkO q loose XP YP l.row.toRowW d [] (fun f vs=>PySem.call f vs):=by
 intro w s₀ s₁ mg mb G Y fa o pm cd doc dV kV ho hd hcd hD hmg hg args vals as hpre hlay hrd hwl hlo;obtain rfl:dV=.none:=Dflts.none hD hdf;obtain rfl:kV=.none:=Dflts.noKw hD;obtain⟨a,vs,ns,rfl,rfl,hobj,hints,hlen⟩:=x5c hn hpre hwl;refine enter_call (codeAny_mono (call w s₀ s₁ mg mb fa o pm cd doc a vs ns G Y ho (fd_plain hd) hcd hmg hobj hints hlen hg) fun r s' hq=>?_)
 obtain⟨rfl,h2,h3,h4⟩:=hq;exact⟨.inl ⟨.bool true,.bool true,[],rfl,fun _=>rfl,.bool true,x5d l _,fun _=>⟨List.Pairwise.nil,fun _ hm=>(nomatch hm)⟩⟩,h2,h3,h4⟩
section
variable{prog:Program}{w:World}{A:Around}{E:Value->Shared->Prop}{s:Shared}{K:Frag}
noncomputable def ledger(h:Heap)(L d:Addr):List (Addr×Obj):=(List.range h.objs.size).filterMap fun a=>if a=L\/a=d then none else(h.get? a).map fun o=>(a,o)
end
end Att
namespace L2
open PySem PySem.Spec PyProof.Rows
theorem q81:∀{vs:List Value}{ns:List Int},IntsAre vs ns->Vals (ns.map V.int) vs
 |_,_,.nil=>.nil
 |_,_,.cons n t h=>.cons ⟨t,rfl⟩ (q81 h)
def Only(H:Hp):Prop:=∀b,H b=none\/∃o xs,H b=some (.frz o (.lst xs))
theorem x79{P:Program}{w:World}{K:PySem.W.Frag}{mg mb:Str->Option Value}{CX:CXT}{k:Nat}{fa a:Addr}{fd:FuncData}{x:Str}{sp:Sp}{s₁:Shared}{vs:List Value}{ns:List Int}
  (KX:K.In s₁.heap)(hns:s₁.heap.Ns mainGlobals mg)(hb:s₁.heap.Ns builtinsNs mb)(hbb:∀x:Str,x≠"__name__"->mb x=bootBuiltins x)(hlim:s₁.heap.NoLimit)(hg:s₁.gens=#[])
  (ha:s₁.heap.get? a=some {cls:=.type "list", data:=.seq vs.toArray})(hi:IntsAre vs ns)(hl:ns.length<=sizeLine)(hr:Room k callerA)
  (F:∀base:Heap,K.In base->base.Ns mainGlobals mg->FnOk P w K mg base CX k fa fd [x] sp)(hbind:∀(s:Shared)(u:Value),BindsTo s fd ⟨[u],[]⟩ [(x,u)])
  (hsp:∀H:Hp,Only H->SqL K H a (ns.map V.int)->sp [.ref a] H (fun v _=>v=.bl true) fun _ _ _=>False)
  (hCX:∀H e s',CX [] H s₁ (fun _ _ _=>False) e s'->False)(hNM:noMark K=true):
  codeAny (model P w) callerA (.call (.ref fa) ⟨[.ref a],[]⟩) (fun r s'=>r=.ok (.ret (.bool true))/\OldK s₁.heap s'.heap/\s'.os=s₁.os/\AllBare s'.gens) s₁:=by
 have rv:=q81 hi;have lenV:=hi.length
 have core:∀H:Hp,Only H->SqL K H a (ns.map V.int)->HOk P w H s₁.heap->(∀b,H b≠none->b=a)->(H a≠none->K.lookup a=none) ->
   codeAny (model P w) callerA (.call (.ref fa) ⟨[.ref a],[]⟩) (fun r s'=>r=.ok (.ret (.bool true))/\OldK s₁.heap s'.heap/\s'.os=s₁.os/\AllBare s'.gens) s₁:=by
  intro H hO hS hok hA hK;have base_of:∀{b:Addr}{o:Obj},s₁.heap.get? b=some o->H b=none->(hidT s₁.heap H).get? b=some o:=fun e n=>x73 e n
  have noA:∀{b:Addr}{o:Obj}{es:Array DictEntry}{ep:Nat},s₁.heap.get? b=some o->o.data=.dict es ep->H b=none:=fun {b o es ep} e d=>by
   cases q:H b with
   |none=>rfl
   |some u=>
    have e':b=a:=hA b (by rw[q];simp);subst e';rw[ha]at e;cases e;have d':Data.seq vs.toArray _=Data.dict es ep:=d;cases d'
  have nsK:∀{b:Addr}{m:Str->Option Value},s₁.heap.Ns b m->(hidT s₁.heap H).Ns b m:=fun {b m} ⟨o,es,ep,e,d,r⟩=>⟨o,es,ep,base_of e (noA e d),d,r⟩
  have hKb:K.In (hidT s₁.heap H):=fun b o e=>base_of (KX b o e) (by
   cases q:H b with
   |none=>rfl
   |some u=>
    have e':b=a:=hA b (by rw[q];simp);subst e';rw[hK (by rw[q];simp)]at e;cases e)
  have hM:Mod K mg (hidT s₁.heap H):=⟨hKb,nsK hns,⟨mb,nsK hb,hbb⟩,let ⟨mc,h1,h2⟩:=hlim;⟨mc,nsK h1,h2⟩⟩;have e0:Env0 P w K mg (hidT s₁.heap H) callerA [] s₁ H:=⟨rfl,hM,fun b o e=>y1i e,Nat.le_of_eq (x4w _ _),trivial,fun b hb=>absurd (show b∈([]:List Addr)from hb) (by simp),hok,.of_eq hg,.vac hNM⟩
  refine codeAny_mono ((F _ hKb (nsK hns)).run callerA [] s₁ H ⟨[.ref a],[]⟩ [.ref a] [.ref a] _ _ hr e0 (hbind s₁ (.ref a)) (.cons rfl .nil) (hsp H hO hS)) fun r s' h=>?_
  cases r with
  |error e=>exact(hCX H e s' h).elim
  |ok fl=>
   cases fl with
   |next=>exact False.elim h
   |brk=>exact False.elim h
   |cont=>exact False.elim h
   |ret u=>
    obtain⟨v,H',os,bare,un,hok',r',q⟩:=h;have q':v=.bl true:=q;subst q';obtain rfl:u=Value.bool true:=r';refine⟨rfl,OldK.of_keep fun b o e=>?_,os,bare⟩
    cases q:H b with
    |none=>exact un.keep b o e q (by intro z;exact absurd (show b∈([]:List Addr)from z) (by simp)) (by simp)
    |some u=>
     rcases hO b with z|⟨ob,xs,z⟩
     ·rw[q]at z;cases z
     ·have z2:=un.frzs b ob _ z;obtain⟨e1,_⟩:=hok b _ z;obtain⟨e2,_⟩:=hok' b _ z2;rw[e]at e1;cases e1;exact e2
 cases hk:K.lookup a with
 |some o=>
  have e:=KX a o hk;rw[ha]at e;cases e;refine core (fun _=>none) (fun _=>.inl rfl) (.inr ⟨_,vs.toArray,_,hk,rfl,rfl,rfl,by rw[w0h,lenV];exact hl,by simpa using rv⟩) (fun b u z=>by have z':(none:Option HO)=some u:=z;cases z') (fun b z=>absurd rfl z) fun z=>absurd rfl z
 |none=>
  refine core (fun b=>if b=a then some (.frz {cls:=.type "list", data:=.seq vs.toArray} (.lst (ns.map V.int)))else none) (fun b=>?_) (.inl (.inr ⟨{cls:=.type "list", data:=.seq vs.toArray},if_pos rfl⟩)) (fun b u z=>?_) (fun b z=>?_) fun _=>hk
  ·by_cases hb:b=a
   ·exact .inr ⟨_,_,if_pos hb⟩
   ·exact .inl (if_neg hb)
  ·by_cases hb:b=a
   ·have z':=(if_pos hb).symm.trans z;cases z';subst hb;exact⟨ha,by rw[w0c];exact hl,vs,_,rv,ha⟩
   ·have z':=(if_neg hb).symm.trans z;cases z'
  ·by_cases hb:b=a
   ·exact hb
   ·exact absurd (if_neg hb) z
noncomputable abbrev KOf{K:PySem.W.Frag}{h:Heap}(_:K.In h):PySem.W.Frag:=K
theorem x2b{l:PySem.W.OpenLaw}{n k:Nat}{q:Program}{loose:List Str}{XP:(Str->Option Value)->Heap->Prop}{YP:World->Heap->Prop}{d:DefRec}{K:Params->PySem.W.Frag}{CX:World->CXT}{sp:World->Sp}{x:Str}
  (hn:l.most=some n)(hn2:n<=sizeLine)(hdf:d.params.defaults=[])(hr:Room k callerA)
  (hY:∀(w:World)(h:Heap),YP w h->(K w.params).In h)
  (F:∀(w:World)(mg:Str->Option Value)(fa:Addr)(h:Heap),(K w.params).In h->h.Ns mainGlobals mg->mg d.name=some (.ref fa) ->
   ∃fd:FuncData,(∀(s:Shared)(u:Value),BindsTo s fd ⟨[u],[]⟩ [(x,u)]) /\
    ∀base:Heap,(K w.params).In base->base.Ns mainGlobals mg->FnOk l.prog w (K w.params) mg base (CX w) k fa fd [x] (sp w))
  (hsp:∀(w:World)(H:Hp)(a:Addr)(ns:List Int),ns.length<=n->Only H->SqL (K w.params) H a (ns.map V.int)->sp w [.ref a] H (fun v _=>v=.bl true) fun _ _ _=>False)
  (hCX:∀(w:World)(H:Hp)(s:Shared)(e:Value)(s':Shared),CX w [] H s (fun _ _ _=>False) e s'->False)(hNM:∀w:World,noMark (K w.params)=true):
  PySem.W.WalkO q loose XP YP l.row.toRowW d [] (fun f vs=>PySem.call f vs):=by
 refine Att.attach_call hn hdf fun w s₀ s₁ mg mb fa o pm cd doc a vs ns G Y ho hd hcd hmg hobj hints hlen hg=>?_
 have KX:=hY w _ Y;obtain⟨fd,hb,hF⟩:=F w mg fa _ KX G.T.g hmg;exact x79 KX G.T.g G.T.b G.T.builtins G.T.nolimit hg hobj hints (w0u hlen hn2) hr hF hb (fun H hO hS=>hsp w H a ns hlen hO hS) (fun H e s'=>hCX w H s₁ e s') (hNM w)
end L2
/- THE LAST THEOREM (shape; LID, My.* are yours):
   My.Adr: a structure of the addresses that your layer names (classes, functions); My.Txt K t: a structure (Prop) of the equations over K;
   My.txt_mk : {K} {implicit addresses ..} (e1 : nsIn K mainGlobals "law" = some (some (.ref f))) (e2 : K.lookup f = some ⟨oc, od, .func (fnOf "law" "law" params body scope dV kV doc pm an cdv ct), sl⟩) (e3 : codeIn K cdv "law" = true) .. : ∃ t, My.Txt K t
set_option maxRecDepth 100000 in
set_option maxHeartbeats 0 in
theorem PySem.Challenge.cw_LID_holds : PySem.Challenge.rw_LID.Holds := by
 w_on; o_law; k_head; (case hw => w_witness2)
 k_fill
 refine L2.x2b (l := PySem.Challenge.rw_LID) (n := 63) (k := 40) (x := "script") (CX := fun w => ..) (sp := fun _ => My.sp_law) rfl (by decide) rfl ⟨rfl, by decide, by decide⟩ (fun w h Y => PySem.W.kIn_of Y) ?F ?S ?C
 case F =>
  intro w mg fa h KX G hmg
  have T : ∃ t, My.Txt (L2.KOf KX) t := by
   dsimp only [L2.KOf]                          -- K must stand as «<heap const> w.params» for k_is;refine' My.txt_mk ?e1 ?e2 ?e3 ..
   (case e1 => PySem.W.k_is)                    -- in the order: a name -> its address -> its object -> its parts
   (case e2 => PySem.W.k_is)
   ..
  obtain ⟨t, T⟩ := T;have e0 := hmg.symm.trans (mg_of KX G T.law);cases e0                                       -- fa is the law's own address;exact ⟨_, fun s u => .of_eq rfl, fun base kb nb => My.law_fn T kb nb⟩     -- if «.of_eq rfl» comes too early: refine' ⟨_, ?b, fun base kb nb => My.law_fn T kb nb⟩; exact fun s u => .of_eq rfl
 case S => exact fun w H a ns hl hO hS => ..
 case C => exact ..
(the tactic k_is has no namespace: write k_is) -/
namespace L2
open PySem PySem.Spec PyProof.Rows
variable{a f:Addr}{X:Cx}{env:Env}{e:Expr}{fd:FuncData}{h:Heap}{H H':Hp}{pins:List (Addr×Obj)}{es ifs:List Expr}{js:List Nat}{N ps:List Str}{k:Nat}{pos:Pos}{P:Program}{K:PySem.W.Frag}{s:Shared}{sp:Sp}{σ:St}{qual x:Str}{mg:Str->Option Value}{te:TE}{v:V}{w:World}
noncomputable def defArgs(s:Stmt):Arguments:=match s with
 |.FunctionDef _ a _ _ _ _ _ _ _ _=>a
 |_=>{posonlyargs:=[],args:=[],vararg:=none,kwonlyargs:=[],kw_defaults:=[],kwarg:=none,defaults:=[]}
noncomputable def defBody(s:Stmt):List Stmt:=match s with
 |.FunctionDef _ _ b _ _ _ _ _ _ _=>b
 |_=>[]
noncomputable def defScope(s:Stmt):Scope:=match s with
 |.FunctionDef _ _ _ _ _ _ sc _ _ _=>sc
 |_=>{kind:=.function,names:=[],isGenerator:=false,isCoroutine:=false}
noncomputable abbrev CX0:CXT:=fun _ _ _ _ _ _=>False
noncomputable abbrev E0:XK:=fun _ _ _=>False
structure Fun(K:PySem.W.Frag)(x qual:Str)(st:Stmt)(f:Addr)(fd:FuncData):Prop where
 ex:∃(oc:Value)(od:Option Addr)(kV doc pm:Value)(an:Option Addr)(cdv ct:Value)(osl:Array (Option Value)),
  fd=PySem.W.fnOf x qual (defArgs st) (defBody st) (defScope st) .none kV doc pm an cdv ct/\K.lookup f=some ⟨oc,od,.func fd,osl⟩/\PySem.W.codeIn K cdv qual=true
 kp:keepIn K (.ref f)=true
section
variable{base:Heap}
theorem Fun.binds{st:Stmt}{ps:List Str}(F:Fun K x qual st f fd)
  (h:∀(kV doc pm:Value)(an:Option Addr)(cdv ct:Value)(us:List Value),us.length=ps.length->bindArgs (PySem.W.fnOf x qual (defArgs st) (defBody st) (defScope st) .none kV doc pm an cdv ct) ⟨us,[]⟩=pure (ps.zip us)):Binds K fd ps []:=by
 obtain⟨oc,od,kV,doc,pm,an,cdv,ct,osl,rfl,lk,hcd⟩:=F.ex;exact .all (h kV doc pm an cdv ct)
theorem q0n{st:Stmt}{oc:Value}{od an:Option Addr}{osl:Array (Option Value)}{kV doc pm cdv ct:Value}(l:K.lookup f=some ⟨oc,od,.func (PySem.W.fnOf x qual (defArgs st) (defBody st) (defScope st) .none kV doc pm an cdv ct),osl⟩)
  (c:PySem.W.codeIn K cdv qual=true)(k:keepIn K (.ref f)=true):Fun K x qual st f (PySem.W.fnOf x qual (defArgs st) (defBody st) (defScope st) .none kV doc pm an cdv ct):=⟨⟨oc,od,kV,doc,pm,an,cdv,ct,osl,rfl,l,c⟩,k⟩
end
theorem pv(i:Nat)(hN:X.N[i]?=some x:=by rfl)(hv:Vis X.env.scope x:=by walk_at "1")(hd:(x==("__debug__":Str))=false:=by decide)
  (hcd:(x==("__classdict__":Str))=false:=by decide):PE X (.Name x pos) (tVar i):=y5i hN hv hd hcd
def Same(H H':Hp):Prop:=∀b o,H b=some o->H' b=some o
theorem Same.refl(H:Hp):Same H H:=fun _ _ h=>h
theorem Same.trans{H1 H2:Hp}(a:Same H H1)(b:Same H1 H2):Same H H2:=fun c o h=>b c o (a c o h)
theorem Same.free(e:Same H H'){l:Addr}(h:H' l=Option.none):H l=Option.none:=by
 cases q:H l with
 |none=>rfl
 |some o=>
  rw[e l o q]at h;cases h
theorem Same.seq{xs:List V}(e:Same H H')(h:SqL K H a xs):SqL K H' a xs:=by
 rcases h with(h|⟨o,h⟩)|h
 ·exact .inl (.inl (e _ _ h))
 ·exact .inl (.inr ⟨o,e _ _ h⟩)
 ·exact .inr h
set_option maxHeartbeats 4000000
theorem ObjOk.get{o:HO}(x:ObjOk P w H h a o):∃ob,h.get? a=some ob:=by
 cases o with
 |lst xs=>obtain⟨_,_,_,_,e⟩:=x;exact⟨_,e⟩
 |tup xs=>obtain⟨_,_,_,p,_⟩:=x;obtain⟨o,e,_⟩:=p;exact⟨o,e⟩
 |dK kvs=>obtain⟨_,_,_,_,o,_,_,e,_⟩:=x;exact⟨_,e⟩
 |dT sh kvs kas=>obtain⟨_,_,_,_,_,o,_,_,e,_⟩:=x;exact⟨_,e⟩
 |set S n=>obtain⟨o,_,_,_,e,_⟩:=x;exact⟨_,e⟩
 |ins C dx fs=>obtain⟨_,_,_,e,_⟩:=x;exact⟨_,e⟩
 |own y=>obtain⟨_,e⟩:=x;exact⟨_,e⟩
 |xd fs=>obtain⟨_,⟨_,_,_,e,_⟩,_⟩:=x;exact⟨_,e⟩
 |rng lo hi=>obtain⟨_,_,_,e⟩:=x;exact⟨_,e⟩
 |frz ob u=>obtain⟨e,_⟩:=x;exact⟨_,e⟩
 |tbl ps=>rcases x with⟨_,_,_,_,e,_⟩|⟨_,_,_,_,_,_,_,_,_,_,_,_,e⟩<;>exact⟨_,e⟩
 |met f y=>exact⟨_,(show h.get? a=some _ from x)⟩
 |ext φ=>obtain⟨_,⟨_,e⟩,_⟩:=x;exact⟨_,e⟩
structure Fly(outer:List Env)(H H':Hp)(h h':Heap)(e:Addr)(cls:Value)(B:Heap):Prop where
 fl:∃a0,Heap.FlyingW B outer e cls a0 h'
 old:∀b o,h.get? b=some o->H b=none->b∉frs outer->B.get? b=some o
 trk:∀b u o,H' b=some u->h'.get? b=some o->B.get? b=some o
 all:∀b o,h.get? b=some o->b∈frs outer\/∃o',B.get? b=some o'
 new:h.get? e=none
noncomputable def CX1(P:Program)(w:World):CXT:=fun outer H s E ev s'=>∃(e:Addr)(cls:Value)(H':Hp)(B:Heap),
 ev=.ref e/\s'.os=s.os/\AllBare s'.gens/\Un (frs outer) [] H H' s.heap s'.heap/\HOk P w H' s'.heap/\Fly outer H H' s.heap s'.heap e cls B/\E cls none H'
def PassX(CX:CXT)(X:Cx)(EE:L2.St->XK):Prop:=∀(pins:List (Addr×Obj))(σ:St)(H:Hp)(s:Shared)(e:Value)(s':Shared),Inv X pins σ H s->CX X.stack H s (EE σ) e s'->X.xe e s'
def RaisX(X:Cx)(EE:L2.St->XK):Prop:=∀(pins:List (Addr×Obj))(σ:St)(H:Hp)(s:Shared)(e:Addr)(cls:Value)(vs:List Value)(h':Heap),Inv X pins σ H s->Heap.MadeExcOf s.heap h' e cls vs->EE σ cls none H->X.xe (.ref e) {s with heap:=h'}
section
variable{CX:CXT}{base:Heap}{scope:Scope}{cd:Value}{A:Around}{outer:List Env}{s₀:Shared}{H₀:Hp}{E:XK}
theorem x2c{s':Shared}{e:Addr}{cls:Value}{B h'':Heap}{a0:Value}
  (I:Inv (cxOf CX P w K mg base N qual scope f cd A outer s₀ H₀ E) pins σ H s)(J:Inv (cxOf CX P w K mg base N qual scope f cd A outer s₀ H₀ E) pins σ H' s')
  (old:∀b o,s.heap.get? b=some o->H b=none->b∉frs (envOfC qual scope s₀.heap.objs.size f cd::outer)->B.get? b=some o)
  (trk:∀b u o,H' b=some u->s'.heap.get? b=some o->B.get? b=some o)
  (all:∀b o,s.heap.get? b=some o->b∈frs (envOfC qual scope s₀.heap.objs.size f cd::outer)\/∃o',B.get? b=some o')
  (new:s.heap.get? e=none)
  (fl:Heap.FlyingW B outer e cls a0 h'')(up:s'.heap.UpToSlots h'')(hE:E cls none H'):
  CX1 P w outer H₀ s₀ E (.ref e) {s' with heap:=h''}:=by
 have neL:∀b o,s₀.heap.get? b=some o->b∉frs outer->b∉frs (envOfC qual scope s₀.heap.objs.size f cd::outer):=fun b o q nb hb=>by
  rcases w0j.mp (show b∈s₀.heap.objs.size::frs outer from hb)with z|z
  ·exact absurd (Heap.lt_size q) (by rw[z];exact w1y _)
  ·exact nb z
 have ex0:∀b:Addr,b∉([]:List Addr):=fun b z=>nomatch z
 have slot:∀b o,s₀.heap.get? b=some o->b∈frs outer->∃sl,h''.get? b=some {o with slots:=sl}:=fun b o q hb=>by
  obtain⟨sl,e1⟩:=J.base.slot b o q (J.ok.frf b hb) hb (ex0 b);obtain⟨_,o2,e2,nd⟩:=J.funs.mem hb
  rw[e1]at e2;cases e2;obtain⟨sl',e3⟩:=up b _ e1 nd;exact⟨sl',e3⟩
 refine⟨e,cls,H',B,rfl,J.os,J.bare,⟨fun b o q n hb hx=>?_,fun b o q n hb hx=>slot b o q hb,fun b o q n hx=>J.base.free b o q n hx,fun b o q hx=>?_,J.base.tups,J.base.frzs,J.base.tbls⟩,fun a o q=>?_,⟨⟨a0,fl⟩,fun b o q n hb=>?_,fun b u o q z=>?_,fun b o q=>?_,?_⟩,hE⟩
 ·exact fl.1 b o (old b o (I.base.keep b o q n hb hx) (I.base.free b o q n hx) (neL b o q hb))
 ·by_cases hb:b∈frs outer
  ·obtain⟨sl,z⟩:=slot b o q hb;exact⟨_,z⟩
  ·obtain⟨o1,e1⟩:=I.base.there b o q hx;rcases all b o1 e1 with z|⟨o',z⟩
   ·exact absurd z (neL b o q hb)
   ·exact⟨o',fl.1 b o' z⟩
 ·refine(J.hok a o q).stay (fun b u hb z=>?_) (fun _ z=>z) fun _ _ _ z=>z
  rcases hb with rfl|hb
  ·exact fl.1 _ _ (trk b o u q z)
  ·exact fl.1 _ _ (trk b _ u hb z)
 ·exact old b o (I.base.keep b o q n hb (ex0 b)) (I.base.free b o q n (ex0 b)) (neL b o q hb)
 ·obtain⟨o1,e1⟩:=(J.hok b u q).get;have e2:=trk b u o1 q e1;have e3:=fl.1 b o1 e2;rw[e3]at z;cases z;exact e2
 ·obtain⟨o1,e1⟩:=I.base.there b o q (ex0 b);rcases all b o1 e1 with z|z
  ·by_cases hb:b∈frs outer
   ·exact .inl hb
   ·exact absurd z (neL b o q hb)
  ·exact .inr z
 ·cases q:s₀.heap.get? e with
  |none=>rfl
  |some o=>
   obtain⟨o1,e1⟩:=I.base.there e o q (ex0 e);rw[new]at e1;cases e1
theorem pass1:PassX (CX1 P w) (cxOf (CX1 P w) P w K mg base N qual scope f cd A outer s₀ H₀ E) (fun _=>E):=by
 intro pins σ H s ev s' I hx;obtain⟨e,cls,H',B,rfl,hos,hg,un,hok,fly,hE⟩:=hx;have J:=I.call' (ch:=[]) hos un hok hg (fun b hb=>nomatch hb)
 obtain⟨a0,fl⟩:=fly.fl;refine wpAny_leaves_onW (base:=B) I.ok.frames rfl fl fun h'' fl2 up=>?_
 exact x2c I J fly.old fly.trk fly.all fly.new fl2 up hE
theorem rais1:RaisX (cxOf (CX1 P w) P w K mg base N qual scope f cd A outer s₀ H₀ E) (fun _=>E):=by
 intro pins σ H s e cls vs h' I hx hE;have J:Inv (cxOf (CX1 P w) P w K mg base N qual scope f cd A outer s₀ H₀ E) pins σ H {s with heap:=h'}:=I.kept (t':=s.toks) hx.keeps;have hin:∀env∈(envOfC qual scope s₀.heap.objs.size f cd::outer),∀b,env.frame=some b->b∈frs (envOfC qual scope s₀.heap.objs.size f cd::outer):=fun env he b hb=>w2g.mpr ⟨env,he,hb⟩
 refine wpAny_leaves_madeW (base:=PySem.W.hideAll s.heap (frs (envOfC qual scope s₀.heap.objs.size f cd::outer))) (h:=s.heap) I.ok.frames rfl (fun b o q=>PySem.W.of_hideAll _ q) (PySem.W.funFrames_hide I.stack hin) hx fun h'' t fl _ _ up=>?_
 refine x2c I J (fun b o q _ nb=>hideAll_get _ q nb) (fun b u o q z=>?_) (fun b o q=>?_) hx.new fl up hE
 ·obtain⟨o1,e1⟩:=(I.hok b u q).get;have e2:=hx.keeps b o1 e1;have z':h'.get? b=some o:=z;rw[e2]at z';cases z';refine hideAll_get _ e1 fun hb=>?_
  rw[I.stkFree b hb]at q;cases q
 ·by_cases hb:b∈frs (envOfC qual scope s₀.heap.objs.size f cd::outer)
  ·exact .inl hb
  ·exact .inr ⟨o,hideAll_get _ q hb⟩
end
def tCallX(sp:Sp)(dvs:List V)(EE:L2.St->XK)(t:TA):TE:=fun σ H Q=>t σ H fun vs H1=>sp (vs++dvs) H1 Q (EE σ)
section
variable{CX:CXT}{C:Addr}{dvs:List V}{ds:List Value}{EE:L2.St->XK}{m:Str}{p apos:Pos}{o:Expr}{ta:TE}{t:TA}
theorem y1t{Q:VK}{us:List Value}{vs:List V}(F:FnOk X.prog X.w X.K X.mg X.base CX k f fd ps sp)(hr:Room k X.A)(hb:Binds X.K fd ps ds)(hd:Vals dvs ds)(hx:PassX CX X EE)
  (I:Inv X pins σ H s)(r:Vals vs us)(h:sp (vs++dvs) H Q (EE σ)):wpAny (model X.prog X.w) X.A (call (.ref f) us) (EP X pins σ Q) X.xe s:=by
 have r2:Vals (vs++dvs) (us++ds):=r.append hd;have hl:(us++ds).length=ps.length:=by rw[<- r2.length];exact F.len _ _ _ _ h
 refine wpAny_call (codeAny_mono (F.run X.A X.stack s H ⟨us,[]⟩ (us++ds) (vs++dvs) Q (EE σ) hr I.env0 (hb s us I.kIn hl) r2 h) fun r s' hq=>?_)
 cases r with
 |error e=>exact hx pins σ H s e s' I hq
 |ok fl=>
  cases fl with
  |ret u=>exact I.after hq
  |next=>exact False.elim hq
  |brk=>exact False.elim hq
  |cont=>exact False.elim hq
theorem x8a(F:FnOk X.prog X.w X.K X.mg X.base CX k f fd ps sp)(hr:Room k X.A)(hg:Gl X x)(hm:X.mg x=some (.ref f))(hk:keepIn X.K (.ref f)=true)(hb:Binds X.K fd ps ds)(hd:Vals dvs ds)(hx:PassX CX X EE)
  (ha:PA X (e::es) t)(hdb:(x==("__debug__":Str))=false:=by decide)(he:starEach (e::es) X.env=(false,eval e X.env)::starEach es X.env:=by rfl)(hpl:(backTo pos (starEach es X.env)).any (·.1)=false:=by rfl):
  PE X (.Call (.Name x p) (e::es) [] pos) (tCallX sp dvs EE t):=by
 intro pins s σ H Q I h;refine wpAny_Call_Name_kw (x2a I hg hm ?_ hdb);refine PySem.W.callWith_K (h₀:=X.base) I.ok.mod.kin hk (thn (ha pos pins s σ H _ I h) fun us s1 ⟨vs,H1,I1,r,q⟩=>⟨I1.kIn,?_⟩) he hpl
 exact y1t F hr hb hd hx I1 r q
end
section
variable{base:Heap}
theorem Fun.okX{st:Stmt}(F:Fun K x qual st f fd)(S:FnScope N ps (defScope st))(len:∀vs H Q E,sp vs H Q E->vs.length=ps.length)
  (hbody:∀(cdv:Value)(A:Around)(outer:List Env)(s:Shared)(H:Hp)(vs:List V)(Q:VK)(E:XK),Room k (A.deeper (envOfC qual (defScope st) s.heap.objs.size f cdv))->sp vs H Q E ->
   ∃t,PSs (cxOf (CX1 P w) P w K mg base N qual (defScope st) f cdv A outer s H E) (defBody st) t/\t {nx:=fun _ H'=>Q .non H',rt:=Q} (start N vs) H):FnOk P w K mg base (CX1 P w) (k+1) f fd ps sp:=by
 obtain⟨oc,od,kV,doc,pm,an,cdv,ct,osl,rfl,lk,hcd⟩:=F.ex;exact y8y lk hcd S len fun A outer s H vs Q E hr hsp=>hbody cdv A outer s H vs Q E hr hsp
end
noncomputable def strKeysIn(K:PySem.W.Frag)(a:Addr):Bool:=match K.lookup a with
 |some ⟨_,_,.dict es _,_⟩=>es.toList.all fun e=>match e.key with|.str _ _=>true|_=>false
 |_=>false
noncomputable def noInitIn(K:PySem.W.Frag)(a:Addr):Bool:=strKeysIn K a&&PySem.W.nsIn K a "__init__"==some none
noncomputable abbrev veMro:List Value:=[.type "ValueError", .type "Exception", .type "BaseException", .type "object"]
noncomputable def excIn(K:PySem.W.Frag)(C A:Addr):Bool:=match K.lookup C,K.lookup A with
 |some ⟨.type "type", _,.cls cd,sl⟩,some ⟨_,_,.cls ca,_⟩=>(match sl.toList with
   |[_,_,_,_,some (.builtin n),_]=>n=="ValueError.__new__"&&cd.mro==(.ref C::.ref A::veMro)&&!cd.hasDel&&noInitIn K cd.ns&&noInitIn K ca.ns
   |_=>false)
 |_,_=>false
theorem q82(X:K.In h)(q:noInitIn K a=true):∃m,h.Ns a m/\m "__init__"=none:=by
 unfold noInitIn at q;rw[w1k]at q;obtain⟨q1,q2⟩:=q;unfold strKeysIn at q1;split at q1
 ·rename_i c d es n sl hl
  have hs:StrKeys es:=fun e he=>by
   have:=w1c.mp q1 e (by simpa using he);split at this
   ·rename_i k t hk;exact⟨_,_,hk⟩
   ·cases this
  refine⟨nsFind es,⟨_,es,n,X _ _ hl,rfl,hs,fun _=>rfl⟩,?_⟩
  have q2:=beq_iff_eq.mp q2;unfold PySem.W.nsIn at q2;rw[hl]at q2;dsimp only at q2;unfold nsFind findBy;rw[<- Array.find?_toList];split at q2
  ·cases q2
  ·rename_i he;rw[he];rfl
 ·cases q1
theorem q54{C A:Addr}(X:K.In h)(q:excIn K C A=true):
  ∃nm qn N bs hdct sn sub ab col dd k0 k1 k2 k3 k5 mN,h.get? C=some (excClassObj nm qn C N bs (.ref A::veMro) hdct sn sub ab col dd k0 k1 k2 k3 k5 "ValueError.__new__")/\h.Ns N mN/\mN "__init__"=none/\OwnTail h veMro (.ref A::veMro):=by
 unfold excIn at q;split at q
 ·rename_i dd cd sl ca0 cad ca csl hC hA;split at q
  ·rename_i k0 k1 k2 k3 n k5 hs;simp only[w1k,beq_iff_eq,Bool.not_eq_true']at q;obtain⟨⟨⟨⟨rfl,hm⟩,hdel⟩,hn⟩,hna⟩:=q;obtain⟨nm,bs,mro,ns,qn,hd,sn,sub,ab,col,del⟩:=cd;dsimp only at hm hdel hn;subst hm hdel
   have hsl:sl=#[k0,k1,k2,k3,some (.builtin "ValueError.__new__"),k5]:=by
    obtain⟨l⟩:=sl;simp only at hs;rw[hs]
   subst hsl;obtain⟨mN,hN,hi⟩:=q82 X hn;obtain⟨mA,hNA,hiA⟩:=q82 X hna;exact⟨nm,qn,ns,bs,hd,sn,sub,ab,col,dd,k0,k1,k2,k3,k5,mN,X _ _ hC,hN,hi,.own (X _ _ hA) hNA hiA .base⟩
  ·cases q
 ·cases q
def tRaise(C:Addr)(EE:L2.St->XK)(t:TA):TS:=fun _ σ H=>t σ H fun vs H1=>vs.length<=sizeLine/\EE σ (.ref C) none H1
section
variable{C Ac:Addr}{EE:L2.St->XK}{np cpos:Pos}{t:TA}
theorem x8b(hx:RaisX X EE)(hc:X.calm=true)(hg:Gl X x)(hm:X.mg x=some (.ref C))(hC:excIn X.K C Ac=true)(ha:PA X (e::es) t)
  (hdb:(x==("__debug__":Str))=false:=by decide)(he:starEach (e::es) X.env=(false,eval e X.env)::starEach es X.env:=by rfl)(hpl:(backTo cpos (starEach es X.env)).any (·.1)=false:=by rfl):
  PS X (.Raise (some (.Call (.Name x np) (e::es) [] cpos)) none pos) (tRaise C EE t):=by
 intro pins s σ H D I h;obtain⟨nm,qn,N,bs,hdct,sn,sub,ab,col,dd,k0,k1,k2,k3,k5,mN,hC1,hN,hi,T⟩:=q54 I.kIn hC
 have hpl2:(backTo cpos (starEach (e::es) X.env)).any (·.1)=false:=by
  rw[he];show(false||(backTo cpos (starEach es X.env)).any (·.1))=false;rw[hpl];rfl
 refine wpAny_Raise_call_subT (C:=C) (nm:=nm) (q:=qn) (N:=N) (bs:=bs) (bm:=.ref Ac::veMro) (hdct:=hdct) (sn:=sn) (sub:=sub) (ab:=ab) (col:=col) (dd:=dd) (k0:=k0) (k1:=k1) (k2:=k2) (k3:=k3) (k5:=k5)
  PySem.F.excBase_ValueError (mN:=mN) (by rfl) (I.ok.hd hc) hpl2 hi (x2a I hg hm ⟨rfl,?_⟩ hdb)
 have key:=ha cpos pins s σ H _ I h;rw[he]at key |-
 refine Calls.evalArgs_plain (wpAny_mono key (fun us s1 ⟨vs,H1,I1,r,hz,q⟩=>?_) fun _ _ y=>y)
 obtain⟨nm',qn',N',bs',hdct',sn',sub',ab',col',dd',k0',k1',k2',k3',k5',mN',hC1',hN',hi',T'⟩:=q54 I1.kIn hC;have kk:∀b o,X.base.get? b=some o->s1.heap.get? b=some o:=I1.bk
 have hCb:X.base.get? C=s1.heap.get? C:=by
  obtain⟨_,_,_,_,_,_,_,_,_,_,_,_,_,_,_,_,z,_⟩:=q54 I.ok.mod.kin hC;rw[z];exact(kk _ _ z).symm
 have hCs:s.heap.get? C=s1.heap.get? C:=by
  obtain⟨_,_,_,_,_,_,_,_,_,_,_,_,_,_,_,_,z,_⟩:=q54 I.ok.mod.kin hC;rw[I.bk _ _ z];exact(kk _ _ z).symm
 have hC2:s1.heap.get? C=some (excClassObj nm qn C N bs (.ref Ac::veMro) hdct sn sub ab col dd k0 k1 k2 k3 k5 "ValueError.__new__"):=hCs ▸ hC1;rw[hC2]at hC1';cases hC1';have em:mN' "__init__"=none:=hi'
 have hN2:s1.heap.Ns N mN:=by
  obtain⟨o1,es1,ep1,a1,a2,a3,a4⟩:=hN;obtain⟨_,_,N3,_,_,_,_,_,_,_,_,_,_,_,_,m3,z3,n3,_,_⟩:=q54 I.ok.mod.kin hC;have z4:=I.bk _ _ z3;rw[hC1]at z4;cases z4;obtain⟨o5,es5,ep5,b1,b2,b3,b4⟩:=n3;have c1:=I.bk _ _ b1;rw[a1]at c1;cases c1;exact⟨_,es1,ep1,I1.bk _ _ b1,a2,a3,a4⟩
 exact⟨rfl,by rw[<- r.length];exact hz,hC2,hN2,T',fun h' ea hme=>hx pins σ H1 s1 ea (.ref C) us h' I1 hme q⟩
end
noncomputable def excO(e:Addr)(cls:Value):HO:=.ext fun h=>∃o vs,h.get? e=some o/\o.cls=cls/\o.data=.fields vs
structure RoomH(k:Nat)(A:Around):Prop where
 dp:A.depth+3*k+5<recursionLimit
 un:A.units+16*k+200<cLine
 gd:A.guards=some []
structure FnOkH(P:Program)(w:World)(K:PySem.W.Frag)(mg:Str->Option Value)(base:Heap)(k:Nat)(f:Addr)(fd:FuncData)(ps:List Str)(sp:Sp):Prop where
 len:∀vs H Q E,sp vs H Q E->vs.length=ps.length
 run:∀(A:Around)(outer:List Env)(s:Shared)(H:Hp)(args:Args)(us:List Value)(vs:List V)(Q:VK),RoomH k A->Env0 P w K mg base A outer s H->BindsTo s fd args (ps.zip us)->Vals vs us->sp vs H Q E0 ->
  codeAny (model P w) A (.call (.ref f) args) (CR CX0 outer P w H s Q E0) s
noncomputable abbrev Cx.cp(X:Cx)(Nc:List Str)(scope:Scope)(cl:List (Str×Addr))(C:Addr)(s₀:Shared)(H₀:Hp)(ex:List Addr):Cx:=
 {X with N:=Nc,s₀:=s₀,H₀:=H₀,env:=compEnvC scope cl C X.env,outer:=X.stack,ex:=ex,fn:=fun _=>false,pn:=[],xe:=fun _ _=>False}
theorem q39:∀(names:List (Str×NameKind))(acc:List (Str×Addr)),(∀x∈names,x.2=.free->∃c,env.cells.lookup x.1=some c) ->
  ∃cl,(forIn names acc fun(x:Str×NameKind) (r:List (Str×Addr))=>(if(x.2==NameKind.free)=true then(cellOf env x.1 >>= fun a=>pure (ForInStep.yield ((x.1,a)::r)))else pure (ForInStep.yield r):Sem (ForInStep (List (Str×Addr)))))=pure cl /\
   (∀x c,cl.lookup x=some c->acc.lookup x=some c\/env.cells.lookup x=some c)/\(∀x,((x,NameKind.free)∈names\/(acc.lookup x).isSome=true)->(cl.lookup x).isSome=true)
 |[],acc,_=>⟨acc,rfl,fun x c h=>.inl h,fun x h=>h.elim (fun z=>nomatch z) id⟩
 |(n,k)::r,acc,h=>by
  by_cases hk:k=.free
  ·subst hk;obtain⟨c,hc⟩:=h (n,.free) w0s rfl;obtain⟨cl,e1,e2,e3⟩:=q39 r ((n,c)::acc) fun x hx=>h x (w0m _ hx)
   refine⟨cl,?_,fun x d hd=>?_,fun x hx=>?_⟩
   ·rw[w1o];have:cellOf env n=pure c:=by unfold cellOf;rw[hc]
    simp only[beq_self_eq_true,if_true,this,pure_bind];exact e1
   ·rcases e2 x d hd with z|z
    ·rw[w1a]at z
     by_cases hx:(x==n)=true
     ·rw[hx]at z;have:x=n:=by simpa using hx
      subst this;cases z;exact .inr hc
     ·rw[w1p.mpr hx]at z;exact .inl z
    ·exact .inr z
   ·refine e3 x ?_;rcases hx with z|z
    ·rcases w0j.mp z with y|y
     ·cases y;exact .inr (by rw[w1a];simp)
     ·exact .inl y
    ·refine .inr ?_;rw[w1a]
     by_cases hx:(x==n)=true
     ·rw[hx];rfl
     ·rw[w1p.mpr hx];exact z
  ·obtain⟨cl,e1,e2,e3⟩:=q39 r acc fun x hx=>h x (w0m _ hx)
   refine⟨cl,?_,e2,fun x hx=>e3 x ?_⟩
   ·rw[w1o];have:(k==NameKind.free)=false:=by simpa using hk
    simp only[this,w0k,if_false,pure_bind];exact e1
   ·rcases hx with z|z
    ·rcases w0j.mp z with y|y
     ·cases y;exact absurd rfl hk
     ·exact .inl y
    ·exact .inr z
theorem x3o{scope:Scope}(h:∀x∈scope.names,x.2=.free->∃c,env.cells.lookup x.1=some c):
  ∃cl,closureFor scope env=pure cl/\(∀x c,cl.lookup x=some c->env.cells.lookup x=some c)/\∀x,(x,NameKind.free)∈scope.names->∃c,cl.lookup x=some c:=by
 obtain⟨cl,e1,e2,e3⟩:=q39 scope.names [] h;refine⟨cl,?_,fun x c hc=>(e2 x c hc).resolve_left (fun z=>nomatch z),fun x hx=>w3b.mp (e3 x (.inl hx))⟩
 unfold closureFor
 first
  |exact e1
  |(rw[e1];rfl)
  |(simp only[e1];rfl)
theorem q55{env : Env} : ∀ {names : List (Str × NameKind)} {x : Str}, (∀ y ∈ names, y.2 ≠ .cell) ->
    ((names.map fun (n, k) => if (k == NameKind.free && env.scope.kind == .function && env.kindOf n == some .cell) then (n, NameKind.cell) else (n, k)).lookup x = some .cell \/
     (names.map fun (n, k) => if (k == NameKind.free && env.scope.kind == .function && env.kindOf n == some .cell) then (n, NameKind.cell) else (n, k)).lookup x = some .free) -> (x, NameKind.free) ∈ names
  | [], x, _, h => by rcases h with h | h <;> cases h
  | (n, k) :: r, x, hc, h => by
    have ih := @q55 env r x fun y hy => hc y (w0m _ hy)
    rw [w0v] at h;dsimp only at h
    by_cases hx : (x == n) = true
    . have e : x = n := by simpa using hx
      subst e
      by_cases hk : k = .free
      . subst hk; exact w0s
      . exfalso
        have hb : (k == NameKind.free) = false := by simpa using hk
        simp only [hb, Bool.false_and, w0k, if_false, w1a, hx] at h;rcases h with h | h
        . exact hc (x, k) w0s (Option.some.inj h)
        . exact hk (Option.some.inj h)
    . refine w0m _ (ih ?_)
      have hb : (x == n) = false := w1p.mpr hx
      by_cases hq : (k == NameKind.free && env.scope.kind == .function && env.kindOf n == some .cell) = true
      . rw [if_pos hq] at h
        simpa only [w1a, hb] using h
      . rw [if_neg hq] at h
        simpa only [w1a, hb] using h
theorem x5e{prog:Program}{A:Around}{R:Result->Shared->Prop}{elt target iter:Expr}{scope:Scope}{it acc:Value}(I:Nat->Shared->Prop)
  (turn:∀n s,I n s->wpAny (model prog w) A (pyNext it) (fun r s1=>match r with
   |none=>R (.ok .next) s1
   |some v=>wpAny (model prog w) A (letOwnedTupleGo target it v) (fun _ s2=>wpAny (model prog w) A (assign target env v) (fun _ s3=>
     wpAny (model prog w) A (forIn ifs true fun c r=>if r=true then do let ok <- isTrue c env (eval c env);pure (ForInStep.yield ok)else pure (ForInStep.yield r)) (fun ok s4=>
      if ok=true then wpAny (model prog w) A (eval elt env) (fun x s5=>wpAny (model prog w) A (call (.builtin "list.append") [acc,x]) (fun _ s6=>∃m,m<n/\I m s6) (fun _ _=>False) s5) (fun _ _=>False) s4
      else ∃m,m<n/\I m s4) (fun _ _=>False) s3) (fun _ _=>False) s2) (fun _ _=>False) s1) (fun _ _=>False) s)
  (n:Nat)(h:I n s):codeAny (model prog w) A (.compLoop (.ListComp elt [⟨target,iter,ifs,0⟩] scope pos) 0 it acc env) R s:=by
 refine codeAny_loop rfl I (fun n s hI=>?_) n h
 show wpAny _ A ((compTurn (.ListComp elt [⟨target,iter,ifs,0⟩] scope pos) 0 it acc env).onRaise (fun x=>do noteFrame x env;theTreesLotGoes x)) _ _ s
 refine wpAny_noted ?_;rw[compTurn_list];refine wpAny_bind (wpAny_standAt (wpAny_bind (wpAny_mono (turn n s hI) (fun r s1 h1=>?_) fun _ _ z=>z.elim)))
 cases r with
 |none=>exact wpAny_pure h1
 |some v=>
  refine wpAny_bind (wpAny_mono h1 (fun _ s2 h2=>?_) fun _ _ z=>z.elim)
  refine wpAny_bind (wpAny_mono h2 (fun _ s3 h3=>?_) fun _ _ z=>z.elim)
  refine wpAny_bind (wpAny_mono h3 (fun ok s4 h4=>?_) fun _ _ z=>z.elim)
  cases ok with
  |false=>exact wpAny_pure ⟨rfl,h4⟩
  |true=>exact wpAny_bind (wpAny_bind (wpAny_mono h4 (fun x s5 h5=>wpAny_bind (wpAny_mono h5 (fun _ s6 h6=>wpAny_pure (wpAny_pure ⟨rfl,h6⟩)) fun _ _ z=>z.elim)) fun _ _ z=>z.elim))
noncomputable def pj(js:List Nat)(σ:St):St:=js.map fun j=>(σ[j]?).getD none
theorem y5y{i:Nat}(h:(pj js σ)[i]?=some (some v)):∃j,js[i]?=some j/\σ[j]?=some (some v):=by
 unfold pj at h;rw[w0f]at h;cases e:js[i]? with
 |none=>rw[e]at h;cases h
 |some j=>
  rw[e]at h;have h:(σ[j]?).getD none=some v:=Option.some.inj h;refine⟨j,rfl,?_⟩;cases e2:σ[j]? with
  |none=>rw[e2]at h;cases h
  |some z=>rw[e2]at h;rw[show z=some v from h]
def PTs(X:Cx)(ifs:List Expr)(t:TT):Prop:=
 ∀(pins:List (Addr×Obj))(s:Shared)(σ:St)(H:Hp)(Q:Bool->Hp->Prop),Inv X pins σ H s->t σ H Q ->
  wpAny (model X.prog X.w) X.A (forIn ifs true fun c r=>if r=true then do let ok <- isTrue c X.env (eval c X.env);pure (ForInStep.yield ok)else pure (ForInStep.yield r)) (TP X pins σ Q) X.xe s
def tYes:TT:=fun _ H Q=>Q true H
theorem y1u:PTs X [] tYes:=fun pins s σ H Q I h=>wpAny_tests_nil ⟨H,I,h⟩
theorem y1v{c:Expr}{t:TT}(h:PT X c t):PTs X [c] t:=fun pins s σ H Q I hq=>wpAny_tests_one (h pins s σ H Q I hq)
def Kp(σ σ':St):Prop:=∀(i:Nat) v,σ[i]?=some (some v)->σ'[i]?=some (some v)
theorem Kp.one:Kp (List.replicate 1 none++σ) (some v::σ):=fun i u h=>by
 cases i with
 |zero=>cases h
 |succ i=>exact h
theorem Kp.two{u:V}:Kp (List.replicate 2 none++σ) (some v::some u::σ):=fun i w h=>by
 match i,h with
 |0,h=>cases h
 |1,h=>cases h
 |i+2,h=>exact h
def tComp(wi:TI)(nl:Nat)(js:List Nat)(g:TG)(tc:TT)(te:TE):TE:=fun σ H Q=>wi σ H fun J H1=>∀D,H1 D=none->∃W:Nat->Nat->Hp->Prop,(∃m,W 0 m (upd H1 D (.lst [])))/\∀i m H2,W i m H2 ->
 (J.stop i H2/\Q (.ref D) H2)\/(J.go i H2/\∀x H3,J.yld i H2 x H3->g x (List.replicate nl none++pj js σ) H3 fun σ4 H4=>Kp (List.replicate nl none++pj js σ) σ4/\tc σ4 H4 fun b H5=>
  if b=true then te σ4 H5 fun y H6=>∃ys,H6 D=some (.lst ys)/\ys.length<sizeLine/\∃m',m'<m/\W (i+1) m' (upd H6 D (.lst (ys++[y])))else ∃m',m'<m/\W (i+1) m' H5)
section
variable{elt target iter:Expr}{scope:Scope}{wi:TI}{g:TG}{tc:TT}
theorem x8c{Nl Nf:List Str}{fp:List Addr}{cl:List (Str×Addr)}{h1:Heap}{tk:Nat}{mC:Str->Option Value}
  (I:Inv X pins σ H s)(hfp:∀b∈fp,FpOk X pins H b)(hob:∀b∈fp,∃o,s.heap.get? b=some o/\∀v,o.data≠.cell v)
  (hk:scope.kind=.function)(hcell:∀y∈scope.names,y.2≠.cell)(hcl:∀x c,cl.lookup x=some c->X.env.cells.lookup x=some c)(hcf:∀x,(x,NameKind.free)∈scope.names->∃c,cl.lookup x=some c)
  (hj:∀(i j:Nat) y,Nf[i]?=some y->js[i]?=some j->X.N[j]?=some y)(hlen:js.length=Nf.length)
  (hNf:∀y∈Nf,(y,NameKind.free)∈scope.names/\Vis X.env.scope y/\X.env.kindOf y≠some .local)
  (hvis:∀y∈Nf,(relabel scope X.env).names.lookup y=some .cell\/(relabel scope X.env).names.lookup y=some .free)
  (hn:h1.Ns (s.heap.objs.size+1) mC)(hs:Heap.SameBut (s.heap.objs.size+1) ((s.heap.push {cls:=.type "list", dict:=none,data:=.seq ([]:List Value).toArray}).push {cls:=.type "dict", data:=.dict #[]}) h1):
  Inv (X.cp (Nl++Nf) scope cl (s.heap.objs.size+1) {s with heap:=s.heap.push {cls:=.type "list", dict:=none,data:=.seq ([]:List Value).toArray}} (upd H s.heap.objs.size (.lst [])) fp) [] (List.replicate Nl.length none++pj js σ) (upd H s.heap.objs.size (.lst [])) {s with heap:=h1,toks:=tk}:=by
 have fD:H s.heap.objs.size=none:=I.hok.fresh (w0i _);have up1:∀b u,s.heap.get? b=some u->(s.heap.push {cls:=.type "list", dict:=none,data:=.seq ([]:List Value).toArray}).get? b=some u:=fun b u q=>Heap.get?_push_of_some _ q
 have szp:(s.heap.push {cls:=.type "list", dict:=none,data:=.seq ([]:List Value).toArray}).objs.size=s.heap.objs.size+1:=Heap.size_push ..
 have up2:∀b u,(s.heap.push {cls:=.type "list", dict:=none,data:=.seq ([]:List Value).toArray}).get? b=some u->h1.get? b=some u:=fun b u q=>by
  have hlt:=Heap.lt_size q;rw[szp]at hlt;exact(hs.2 b (w0q hlt)).trans (Heap.get?_push_of_some _ q)
 have up:∀b u,s.heap.get? b=some u->h1.get? b=some u:=fun b u q=>up2 b u (up1 b u q)
 have ltOf:∀b o,s.heap.get? b=some o->b≠s.heap.objs.size:=fun b o q=>w0q (Heap.lt_size q)
 have fr0:∀b o,s.heap.get? b=some o->H b=none->upd H s.heap.objs.size (.lst []) b=none:=fun b o q n=>by rw[q0b (ltOf b o q)];exact n
 have hasC:∀x,((relabel scope X.env).names.lookup x=some .cell\/(relabel scope X.env).names.lookup x=some .free)->∃c,cl.lookup x=some c:=fun x hx=>hcf x (q55 hcell hx)
 have hokD:HOk X.prog X.w (upd H s.heap.objs.size (.lst [])) (s.heap.push {cls:=.type "list", dict:=none,data:=.seq ([]:List Value).toArray}):=
  I.hok.laid up1 (w0i _) ⟨w0w _,[],_,.nil,Heap.get?_push_size _ rfl⟩
 have cellK:∀x c,cl.lookup x=some c->∃v,s.heap.IsCell c v:=fun x c e=>I.cell x c (hcl x c e)
 have cellUp:∀c v,s.heap.IsCell c v->h1.IsCell c v:=fun c v ⟨o,q,r⟩=>⟨o,up _ _ q,r⟩
 refine⟨⟨I.ok.mod,hk,I.ok.glob,I.ok.blt,(by show(s.heap.push _).objs.size<=_;rw[szp];exact w0i _),fun x y c e1 e2=>I.ok.inj x y c (hcl x c e1) (hcl y c e2),fun x hx=>hasC x hx,(fun x c z=>nomatch z),I.ok.hd,I.ok.frames,.inl rfl,fun b hb=>⟨?_,fun x c e=>?_⟩,fun b o q=>?_,?_,fun b o q hb=>?_,fun b hb hb2=>?_,?_,fun b hb=>?_,(I.ok.tab.un I.base).laid fD⟩,
  rfl,I.bare,Un.kept up2,⟨mC,hn,fun i y v e1 e2 e3=>?_⟩,fun x c e=>?_,?_,fun x c e=>?_,fun p hp=>(by cases hp),hokD.kept up2,?_⟩
 ·obtain⟨o,q,_⟩:=hob b hb;exact w0q (w2a (Heap.lt_size q))
 ·exact(hfp b hb).2.2.2.2.1 x c (hcl x c e)
 ·obtain⟨q1,q2⟩:=I.bs b o q;exact⟨up1 _ _ q1,fr0 b o q1 q2⟩
 ·show X.base.objs.size<=(s.heap.push _).objs.size;rw[szp];exact w3c (w0u I.ok.bsz I.sz)
 ·rcases(hfp b hb).2.2.2.1 with z|z
  ·exact I.ok.noex b o q z
  ·obtain⟨q1,_⟩:=I.ok.bs b o q;exact absurd (Heap.lt_size q1) (w3z.mpr z)
 ·rcases w0j.mp (I.stkSub b hb2)with z|z
  ·exact(hfp b hb).2.1 z
  ·exact(hfp b hb).2.2.1 z
 ·exact I.stack.of_keeps fun b o q _=>⟨o,up1 _ _ q,rfl⟩
 ·obtain⟨_,o,q,_⟩:=I.stack.mem hb;exact fr0 b o q (I.stkFree b hb)
 ·-- the names
  have e2':(List.replicate Nl.length none++pj js σ)[i]?=some (some v):=e2;have e1':(Nl++Nf)[i]?=some y:=e1
  by_cases hi:i<Nl.length
  ·rw[w2c (by simpa using hi),w2i]at e2';split at e2'<;>cases e2'
  ·have hi':Nl.length<=i:=w3z.mp hi;rw[w2b (by simpa using hi')]at e2';rw[w2b hi']at e1';rw[w1f]at e2';obtain⟨j,ej,eσ⟩:=y5y e2';have hNy:=hj _ _ _ e1' ej;obtain⟨hfr,hv,hnl⟩:=hNf y (w0y e1');obtain⟨m,hm,hl⟩:=I.loc;obtain⟨u,r,l⟩:=hl j y v hNy eσ hv;refine⟨u,r,?_⟩;rcases l with⟨k,_⟩|⟨k,c,ec,z⟩
   ·exact absurd k hnl
   ·obtain⟨c',ec'⟩:=hcf y hfr;have:=hcl y c' ec';rw[ec]at this;cases this;exact .inr ⟨hvis y (w0y e1'),c,ec',cellUp _ _ z⟩
 ·obtain⟨v,z⟩:=cellK x c e;exact⟨v,cellUp _ _ z⟩
 ·show upd H s.heap.objs.size (.lst []) (s.heap.objs.size+1)=none;rw[q0b (Nat.succ_ne_self _)];exact I.hok.fresh (w4c _)
 ·obtain⟨v,o,q,_⟩:=cellK x c e;exact fr0 c o q (I.freeC x c (hcl x c e))
 ·show(List.replicate Nl.length none++pj js σ).length=(Nl++Nf).length;rw[w1b,w1b,w1f];unfold pj;rw[w0c,hlen]
theorem y5z{σ':St}{s':Shared}{Nc:List Str}{fp:List Addr}{cl:List (Str×Addr)}{h':Heap}
  (I:Inv X pins σ H s)(hfp:∀b∈fp,FpOk X pins H b)
  (J:Inv (X.cp Nc scope cl (s.heap.objs.size+1) {s with heap:=s.heap.push {cls:=.type "list", dict:=none,data:=.seq ([]:List Value).toArray}} (upd H s.heap.objs.size (.lst [])) fp) [] σ' H' s')
  (hs:Heap.SameBut (s.heap.objs.size+1) s'.heap h'):Inv X pins σ H' {s' with heap:=h'}:=by
 have fD:H s.heap.objs.size=none:=I.hok.fresh (w0i _);have up1:∀b u,s.heap.get? b=some u->(s.heap.push {cls:=.type "list", dict:=none,data:=.seq ([]:List Value).toArray}).get? b=some u:=fun b u q=>Heap.get?_push_of_some _ q
 have neC:∀b o,s.heap.get? b=some o->b≠s.heap.objs.size+1:=fun b o q=>w0q (w2a (Heap.lt_size q))
 have fr0:∀b o,s.heap.get? b=some o->H b=none->upd H s.heap.objs.size (.lst []) b=none:=fun b o q n=>by rw[q0b (w0q (Heap.lt_size q))];exact n
 have old:∀b u,H b=some u->upd H s.heap.objs.size (.lst []) b=some u:=fun b u q=>by rw[q0b (q0l q fD)];exact q
 have B:Un (frs X.stack) fp (upd H s.heap.objs.size (.lst [])) H' (s.heap.push {cls:=.type "list", dict:=none,data:=.seq ([]:List Value).toArray}) s'.heap:=J.base;have hC:H' (s.heap.objs.size+1)=none:=J.free;refine I.call' (s':={s' with heap:=h'}) (ch:=fp) (J.os.trans rfl) ⟨fun b o q n hb hx=>?_,fun b o q n hb hx=>?_,fun b o q n hx=>B.free b o (up1 _ _ q) (fr0 b o q n) hx,fun b o q hx=>?_,fun b xs q=>B.tups b xs (old _ _ q),fun b o u q=>B.frzs b o u (old _ _ q),fun b ps q=>B.tbls b ps (old _ _ q)⟩ (fun a o q=>?_) J.bare fun b hb=>?_
 ·exact(hs.2 b (neC b o q)).trans (B.keep b o (up1 _ _ q) (fr0 b o q n) hb hx)
 ·obtain⟨sl,z⟩:=B.slot b o (up1 _ _ q) (fr0 b o q n) hb hx;exact⟨sl,(hs.2 b (neC b o q)).trans z⟩
 ·obtain⟨o',z⟩:=B.there b o (up1 _ _ q) hx;exact⟨o',(hs.2 b (neC b o q)).trans z⟩
 ·refine(J.hok a o q).stay (fun c v hc z=>(hs.2 c ?_).trans z) (fun _ z=>z) fun _ _ _ z=>z
  rintro rfl;rcases hc with rfl|hc
  ·rw[hC]at q;cases q
  ·rw[hC]at hc;cases hc
 ·obtain⟨_,f1,f2,f3,f4,f5⟩:=hfp b hb;exact⟨f3,f1,f4,f5⟩
theorem y1w{Nl Nf:List Str}(hc:X.calm=true)(hi:PI X target iter wi)
  (hk:scope.kind=.function)(hcell:∀y∈scope.names,y.2≠.cell)(hnames:∀x∈scope.names,x.2=.local->scope.names.lookup x.1=some .local)
  (hfree:∀x∈scope.names,x.2=.free->X.env.kindOf x.1=some .cell\/X.env.kindOf x.1=some .free)
  (hj:∀(i j:Nat) y,Nf[i]?=some y->js[i]?=some j->X.N[j]?=some y)(hlen:js.length=Nf.length)
  (hNf:∀y∈Nf,(y,NameKind.free)∈scope.names/\Vis X.env.scope y/\X.env.kindOf y≠some .local)
  (hvis:∀y∈Nf,(relabel scope X.env).names.lookup y=some .cell\/(relabel scope X.env).names.lookup y=some .free)
  (hg:∀cl C s₀ H₀ ex,PG (X.cp (Nl++Nf) scope cl C s₀ H₀ ex) target g)(ht:∀cl C s₀ H₀ ex,PTs (X.cp (Nl++Nf) scope cl C s₀ H₀ ex) ifs tc)(he:∀cl C s₀ H₀ ex,PE (X.cp (Nl++Nf) scope cl C s₀ H₀ ex) elt te)
  (hs:∀x,foldedSetIterable iter X.env x=pure x:=by intro _;rfl):
  PE X (.ListComp elt [⟨target,iter,ifs,0⟩] scope pos) (tComp wi Nl.length js g tc te):=by
 intro pins s σ H Q I h;obtain⟨cl,hclos,hcl,hcf⟩:=x3o (scope:=scope) (env:=X.env) fun x hx hf=>I.ok.has x.1 (hfree x hx hf)
 rw[eval_ListComp];refine wpAny_comprehension_free (use:=none) rfl hs hclos hk hnames (thn (hi pins s σ H _ I h) fun v s1 h1=>thn h1 fun itv s2 h2=>?_)
 obtain⟨it,fp,tn,J,H2,e,I2,T,st2,f2,rd⟩:=h2;subst e;refine wpAny_newObj_type (wpAny_newFunctionEnv hcell (by intro y hy;simp at hy) (fun h₁ hns₁ hsb₁=>?_) hk)
 dsimp only at hns₁ hsb₁ |-
 have szp:(s2.heap.push {cls:=.type "list", dict:=none,data:=.seq ([]:List Value).toArray}).objs.size=s2.heap.objs.size+1:=Heap.size_push ..;rw[szp]at hns₁ hsb₁ |-
 have fD:H2 s2.heap.objs.size=none:=I2.hok.fresh (w0i _);obtain⟨W,⟨m0,w0⟩,turn⟩:=rd s2.heap.objs.size fD;have obj2:=T.obj 0 s2.heap st2;have IS:=x8c (Nl:=Nl) (Nf:=Nf) (js:=js) (cl:=cl) (tk:=s2.toks+([]:List (Str×Value)).length) I2 f2 obj2 hk hcell hcl hcf hj hlen hNf hvis hns₁ hsb₁
 have upS:∀b u,s2.heap.get? b=some u->h₁.get? b=some u:=fun b u q=>by
  have hlt:=Heap.lt_size q;exact(hsb₁.2 b (w0q (w2a hlt))).trans (Heap.get?_push_of_some _ (Heap.get?_push_of_some _ q))
 have stS:tn 0 h₁:=T.keep 0 s2.heap h₁ st2 fun b hb o q=>upS b o q
 have noD:∀b∈fp,upd H2 s2.heap.objs.size (.lst []) b=none:=fun b hb=>by
  obtain⟨o,q,_⟩:=obj2 b hb;rw[q0b (w0q (Heap.lt_size q))];exact(f2 b hb).1
 have stat:∀{H':Hp},(∀b∈fp,H' b=none)->∀b∈fp,FpOk (X.cp (Nl++Nf) scope cl (s2.heap.objs.size+1) {s2 with heap:=s2.heap.push {cls:=.type "list", dict:=none,data:=.seq ([]:List Value).toArray}} (upd H2 s2.heap.objs.size (.lst [])) fp) [] H' b:=fun hn b hb=>by
  refine⟨hn b hb,(IS.ok.exf b hb).1,IS.ok.exfs b hb,.inl hb,(IS.ok.exf b hb).2,fun p hp=>(by cases hp)⟩
 have loop:∀s4:Shared,s4={s2 with heap:=h₁,toks:=s2.toks+([]:List (Str×Value)).length} ->
   codeAny (model X.prog X.w) X.A (.compLoop (.ListComp elt [⟨target,iter,ifs,0⟩] scope pos) 0 (.ref it) (.ref s2.heap.objs.size) (compEnvC scope cl (s2.heap.objs.size+1) X.env))
    (compPost (model X.prog X.w) X.A X.xe none (EP X pins σ Q) (.ref s2.heap.objs.size) (s2.heap.objs.size+1)) s4:=by
  rintro s4 rfl;refine x5e (fun n s'=>∃i H',Inv (X.cp (Nl++Nf) scope cl (s2.heap.objs.size+1) {s2 with heap:=s2.heap.push {cls:=.type "list", dict:=none,data:=.seq ([]:List Value).toArray}} (upd H2 s2.heap.objs.size (.lst [])) fp) [] (List.replicate Nl.length none++pj js σ) H' s'/\tn i s'.heap/\(∀b∈fp,H' b=none)/\W i n H') ?_ m0 ⟨0,_,IS,stS,noD,w0⟩
  rintro n s3 ⟨i,H3,I3,st3,fr3,w3⟩;rcases turn i n H3 w3 with⟨stop,qn⟩|⟨go,step⟩
  ·refine thn (T.done (X.cp (Nl++Nf) scope cl (s2.heap.objs.size+1) {s2 with heap:=s2.heap.push {cls:=.type "list", dict:=none,data:=.seq ([]:List Value).toArray}} (upd H2 s2.heap.objs.size (.lst [])) fp) rfl rfl rfl hc i [] s3 _ H3 _ I3 (stat fr3) st3 stop) fun r s5 ⟨hr,I5⟩=>?_
   subst hr;obtain⟨m5,hn5,_⟩:=I5.loc;refine⟨m5,hn5,fun h' hs'=>⟨.ref s2.heap.objs.size,H3,y5z I2 f2 I5 hs',rfl,qn⟩⟩
  ·refine thn (T.item (X.cp (Nl++Nf) scope cl (s2.heap.objs.size+1) {s2 with heap:=s2.heap.push {cls:=.type "list", dict:=none,data:=.seq ([]:List Value).toArray}} (upd H2 s2.heap.objs.size (.lst [])) fp) rfl rfl rfl hc i [] s3 _ H3 _ I3 (stat fr3) st3 go) fun r s5 ⟨u,hr,h5⟩=>?_
   subst hr;refine thn h5 fun _ s6 ⟨x,H6,I6,r6,y6,st6,fr6⟩=>?_
   have I6':=I6.pinned (stat fr6) (T.obj _ _ st6);refine thn (hg _ _ _ _ _ _ s6 _ H6 x u _ I6' r6 (step x H6 y6)) fun _ s7 ⟨σ7,H7,I7,kp,q7⟩=>?_
   refine thn (ht _ _ _ _ _ _ s7 σ7 H7 _ I7 q7) fun ok s8 ⟨H8,I8,q8⟩=>?_
   have again:∀{σ9:St}{H9:Hp}{s9:Shared},Inv (X.cp (Nl++Nf) scope cl (s2.heap.objs.size+1) {s2 with heap:=s2.heap.push {cls:=.type "list", dict:=none,data:=.seq ([]:List Value).toArray}} (upd H2 s2.heap.objs.size (.lst [])) fp) ([]++pinsAt fp s6.heap) σ9 H9 s9 ->
     Kp (List.replicate Nl.length none++pj js σ) σ9->(∃m',m'<n/\W (i+1) m' H9)->∃m,m<n/\∃i H',Inv (X.cp (Nl++Nf) scope cl (s2.heap.objs.size+1) {s2 with heap:=s2.heap.push {cls:=.type "list", dict:=none,data:=.seq ([]:List Value).toArray}} (upd H2 s2.heap.objs.size (.lst [])) fp) [] (List.replicate Nl.length none++pj js σ) H' s9/\tn i s9.heap/\(∀b∈fp,H' b=none)/\W i m H':=fun {σ9 H9 s9} I9 hw ⟨m',hm,w9⟩=>by
    refine⟨m',hm,i+1,H9,I9.unpinned.weak (by rw[I9.len,<- IS.len]) hw,T.keep _ _ _ st6 fun b hb o q=>(I9.pin (b,o) (w0o _ (w0o _ (q33 hb q)))).1,fun b hb=>?_,w9⟩
    obtain⟨o,q,d⟩:=T.obj _ _ st6 b hb;exact(I9.pin (b,o) (w0o _ (w0o _ (q33 hb q)))).2.1
   cases ok with
   |false=>exact again I8 kp (by simpa using q8)
   |true=>
    have q8':=by simpa only[if_true]using q8
    refine thn (he _ _ _ _ _ _ s8 σ7 H8 _ I8 q8') fun y s9 ⟨yv,H9,I9,r9,ys,hD,hz,q9⟩=>?_
    refine thn (q80 _ s9 σ7 H9 (.ref s2.heap.objs.size) [yv] (.ref s2.heap.objs.size) [y] (fun v H'=>v=.non/\H'=upd H9 s2.heap.objs.size (.lst (ys++[yv]))) I9 rfl (.cons r9 .nil) ⟨_,ys,yv,rfl,rfl,hD,hz,rfl,rfl⟩) fun _ s10 ⟨_,H10,I10,_,_,e10⟩=>?_
    subst e10;exact again I10 kp q9
 exact codeAny_compStart_list (loop _ rfl) (T.self X.A 0 _ _ _ stS (loop _ rfl))
end
theorem q56{env:Env}:∀{names:List (Str×NameKind)}{x:Str},names.lookup x=some .free ->
  (names.map fun(n,k)=>if(k==NameKind.free&&env.scope.kind==.function&&env.kindOf n==some .cell)then(n,NameKind.cell)else(n,k)).lookup x=some .cell \/
  (names.map fun(n,k)=>if(k==NameKind.free&&env.scope.kind==.function&&env.kindOf n==some .cell)then(n,NameKind.cell)else(n,k)).lookup x=some .free
 |[],x,h=>by cases h
 |(n,k)::r,x,h=>by
  have ih:=@q56 env r x;rw[w0v];dsimp only
  by_cases hx:(x==n)=true
  ·simp only[w1a,hx]at h;cases h
   by_cases hq:(NameKind.free==NameKind.free&&env.scope.kind==.function&&env.kindOf n==some .cell)=true
   ·rw[if_pos hq];left;simp[w1a,hx]
   ·rw[if_neg hq];right;simp[w1a,hx]
  ·have hb:(x==n)=false:=w1p.mpr hx;simp only[w1a,hb]at h;have z:=ih h
   by_cases hq:(k==NameKind.free&&env.scope.kind==.function&&env.kindOf n==some .cell)=true
   ·rw[if_pos hq];simpa only[w1a,hb]using z
   ·rw[if_neg hq];simpa only[w1a,hb]using z
noncomputable def compOk(sc scope:Scope)(N Nf:List Str)(js:List Nat):Bool:=
 scope.kind==.function&&scope.names.all (fun y=>y.2 != .cell)&&scope.names.all (fun y=>y.2 != .local||scope.names.lookup y.1==some .local) &&
 scope.names.all (fun y=>y.2 != .free||sc.names.lookup y.1==some .cell||sc.names.lookup y.1==some .free)&&js.length==Nf.length &&
 (List.range js.length).all (fun i=>match js[i]?,Nf[i]? with|some j,some y=>N[j]?==some y|_,_=>true) &&
 Nf.all (fun y=>scope.names.lookup y==some .free&&(sc.names.lookup y==some .cell||sc.names.lookup y==some .free))
theorem q65{elt target iter:Expr}{scope sc:Scope}{wi:TI}{g:TG}{tc:TT}{Nl Nf:List Str}(hc:X.calm=true)(hi:PI X target iter wi)
  (ok:compOk sc scope N Nf js=true)
  (hg:∀cl C s₀ H₀ ex,PG (X.cp (Nl++Nf) scope cl C s₀ H₀ ex) target g)(ht:∀cl C s₀ H₀ ex,PTs (X.cp (Nl++Nf) scope cl C s₀ H₀ ex) ifs tc)(he:∀cl C s₀ H₀ ex,PE (X.cp (Nl++Nf) scope cl C s₀ H₀ ex) elt te)
  (hsc:X.env.scope=sc:=by rfl)(hN:X.N=N:=by rfl)(hs:∀x,foldedSetIterable iter X.env x=pure x:=by intro _;rfl):
  PE X (.ListComp elt [⟨target,iter,ifs,0⟩] scope pos) (tComp wi Nl.length js g tc te):=by
 unfold compOk at ok;simp only[w1k,w1c,beq_iff_eq,bne_iff_ne,Bool.or_eq_true,w1n]at ok;obtain⟨⟨⟨⟨⟨⟨k1,k2⟩,k3⟩,k4⟩,k5⟩,k6⟩,k7⟩:=ok;have kind:∀x,X.env.kindOf x=sc.names.lookup x:=fun x=>by rw[<- hsc];rfl
 refine y1w hc hi k1 k2 (fun x hx hl=>(k3 x hx).resolve_left fun z=>z hl) (fun x hx hf=>?_) (fun i j y e1 e2=>?_) k5 (fun y hy=>?_) (fun y hy=>?_) hg ht he hs
 ·rw[kind];rcases k4 x hx with(z|z)|z
  ·exact absurd hf z
  ·exact .inl z
  ·exact .inr z
 ·have hlt:i<js.length:=(w0a.mp e2).1;have z:=k6 i hlt;rw[e1,e2]at z;rw[hN]
  simpa using z
 ·obtain⟨z1,z2⟩:=k7 y hy;refine⟨PySem.mem_of_lookup z1,?_,?_⟩
  ·rw[hsc];rcases z2 with z|z
   ·exact .inr (.inl z)
   ·exact .inr (.inr z)
  ·rw[kind];rcases z2 with z|z<;>(rw[z];decide)
 ·exact q56 (k7 y hy).1
abbrev TF:=Str->St->Hp->(Str->Hp->Prop)->Prop
def PF(X:Cx)(es:List Expr)(t:TF):Prop:=∀(acc:Str)(pins:List (Addr×Obj))(s:Shared)(σ:St)(H:Hp)(Q:Str->Hp->Prop),Inv X pins σ H s->t acc σ H Q ->
 Joins (model X.prog X.w) X.A X.xe (evalEach es X.env) acc (fun out s'=>out.length<=sizeLine/\∃H',Inv X pins σ H' s'/\Q out H') s
namespace RevT
variable{A:Around}{X:Cx}{e:Expr}{h:Heap}{H H':Hp}{EE:L2.St->XK}{es:List Expr}{ps:List Str}{k:Nat}{P:Program}{K:PySem.W.Frag}{s:Shared}{x:Str}{w:World}
theorem hint:typeLookup (.type "list_reverseiterator") "__length_hint__"=pure (some (.builtin "list_reverseiterator.__length_hint__")):=by rw[typeLookup_type,builtinLookup_eq_fast];kernel_rfl
open AutoSeq1 (wpAny_loadPart')
end RevT
open PySem PySem.Spec PyProof.Rows
structure ExcCls(K:PySem.W.Frag)(D:Addr):Prop where
 ga:findIn K (.ref D) "__getattribute__"=some (some (.builtin "BaseException.__getattribute__"))
 gt:findIn K (.ref D) "__getattr__"=some none
 cl:findIn K (.ref D) "__class__"=some (some (.builtin "object.__class__"))
 gs:specialIn K (.builtin "object.__class__") "__get__"=some (some (.builtin "getset_descriptor.__get__"))
 tk:takesIn K (.builtin "object.__class__")=some true
 mo:PySem.W.mroIn K D (.type "object")=some true
 mb:PySem.W.mroIn K D (.type "BaseException")=some true
 cd:(PySem.W.clsIn K D).isSome=true
noncomputable def excClsIn(K:PySem.W.Frag)(D:Addr):Bool:=
 findIn K (.ref D) "__getattribute__"==some (some (.builtin "BaseException.__getattribute__"))&&findIn K (.ref D) "__getattr__"==some none &&
 findIn K (.ref D) "__class__"==some (some (.builtin "object.__class__"))&&specialIn K (.builtin "object.__class__") "__get__"==some (some (.builtin "getset_descriptor.__get__")) &&
 takesIn K (.builtin "object.__class__")==some true&&PySem.W.mroIn K D (.type "object")==some true&&PySem.W.mroIn K D (.type "BaseException")==some true&&(PySem.W.clsIn K D).isSome
theorem ExcCls.of{D:Addr}(h:excClsIn K D=true):ExcCls K D:=by
 unfold excClsIn at h;simp only[w1k,beq_iff_eq]at h;obtain⟨⟨⟨⟨⟨⟨⟨h1,h2⟩,h3⟩,h4⟩,h5⟩,h6⟩,h7⟩,h8⟩:=h;exact⟨h1,h2,h3,h4,h5,h6,h7,h8⟩
def ExcAt(e D:Addr)(h:Heap):Prop:=∃o vs,h.get? e=some o/\o.cls=.ref D/\o.data=.fields vs
section
variable{prog:Program}{E:Value->Shared->Prop}{e D:Addr}
open PySem.W Builtin Builtin.ObjectAttr Builtin.Getset_descriptor
theorem q7k{M:Model}(p:ExcAt e D h):Looks M h (typeOf (.ref e)) (.ref D):=by
 obtain⟨o,vs,h1,h2,h3⟩:=p;exact h2 ▸ (Looks.ld h1).andThen .now
theorem x8d{M:Model}(X:K.In h)(C:ExcCls K D):Looks M h (find (.ref e) (.ref D) "__class__") (.bind (.builtin "getset_descriptor.__get__") (.builtin "object.__class__")):=by
 have L1:=looks_findIn (M:=M) X C.cl;have L2:Looks M h (getOf (some (.builtin "object.__class__"))) (some (.builtin "getset_descriptor.__get__")):=looks_specialIn X C.gs;have L3:=looks_takesIn (M:=M) X C.tk;refine L1.andThen (L2.andThen ?_);exact(show Looks M h (dataDescriptor? (some (.builtin "object.__class__")) (some (.builtin "getset_descriptor.__get__"))) (some (.builtin "getset_descriptor.__get__", .builtin "object.__class__"))from L3.andThen .now).andThen (Looks.tag .now)
theorem y1x{tp:Value}{R:Result->Shared->Prop}(X:K.In s.heap)(p:ExcAt e D s.heap)(hm:mroIn K D (.type "object")=some true)
  (h:R (.ok (.ret (.ref D))) s):codeAny (model prog w) A (.call (.builtin "getset_descriptor.__get__") ⟨[.builtin "object.__class__", .ref e,tp],[]⟩) R s:=by
 obtain⟨hh,g,dr,t,os⟩:=s;have L0:=q7k (M:=model prog w) p;have L1:=looks_mroIn (M:=model prog w) X hm;refine codeAny_call_builtin KF.slot_gs.plain KF.entry_gs (KF.slot_gs.check _ _ _ _ _ _ _ _ KF.type_class (KF.args_gs _ _ _) ?_);unfold Builtin.«getset_descriptor.__get__» descrGet;rw[dga_obj];refine wpAny_bind (wpAny_pure ?_);unfold descrGetter descrCheckInstance descrNameAndClass isInstance;simp only[KF.owner_class]
 repeat lk
 refine⟨Code.quiet_builtin _ (by decide +kernel),codeAny_builtin KF.entry_class ?_⟩;unfold Builtin.«object.__class__» shownTypeOf
 repeat lk
 exact h
theorem x5f{M:Model}{nameV:Value}{Q:Unit->Shared->Prop}{g:Array GenState}{d:Drawn}{t:Nat}{os:OsState}(X:K.In h)(p:ExcAt e D h)(hm:mroIn K D (.type "BaseException")=some true)(hq:Q () ⟨h,g,d,t,os⟩):
  wpAny M A (checkBuiltinCall "BaseException.__getattribute__" ⟨[.ref e,nameV],[]⟩) Q E ⟨h,g,d,t,os⟩:=by
 have hk:builtinKind "BaseException.__getattribute__"=some .slot:=by decide +kernel
 have hsplit:splitId "BaseException.__getattribute__"=some ("BaseException", "__getattribute__"):=by decide +kernel
 have L0:=q7k (M:=M) p;have L1:=looks_mroIn (M:=M) X hm;have LI:Looks M h (isInstance (.ref e) (.type "BaseException")) true:=L0.andThen L1;have ha:=PySem.F.args_bexc_ga (.ref e) nameV;simp only[checkBuiltinCall,hk,hsplit];refine wpAny_bind (LI.at ?_);rw[if_neg (by decide)];unfold argsOk at ha;split
 ·rename_i sig hs;rw[hs]at ha;exact wpAny_of_eq ha hq
 ·exact wpAny_pure hq
theorem x5g{Q:Option Value->Shared->Prop}(X:K.In s.heap)(p:ExcAt e D s.heap)(C:ExcCls K D)(h:Q (some (.ref D)) {s with toks:=s.toks+1}):wpAny (model prog w) A (getAttr? (.ref e) "__class__") Q E s:=by
 obtain⟨hh,g,d,t,os⟩:=s;have L0:=q7k (M:=model prog w) p;have L1:=looks_findIn (M:=model prog w) X C.ga;have L2:=looks_findIn (M:=model prog w) X C.gt;have L3:=x8d (M:=model prog w) (e:=e) X C;unfold getAttr? getAttrBy? getAttrBy;refine wpAny_bind (wpAny_mkText (wpAny_bind (wpAny_attempt (wpAny_holding (wpAny_bind (L0.at (wpAny_bind (L1.at ?_))))))));have hx2:(Value.builtin "BaseException.__getattribute__"==Value.builtin "object.__getattribute__")=false:=by decide +kernel
 have hx1:(onTheHeap (Value.ref D)&&Value.builtin "BaseException.__getattribute__"==Value.builtin "object.__getattribute__")=false:=by rw[hx2];rfl
 dsimp only;rw[if_neg (by rw[hx1];decide)];unfold getAttrByItsOwn hookBefore;rw[if_pos (by rfl)];refine wpAny_bind (L2.at ?_);refine wpAny_bind (wpAny_attempt (wpAny_holding ?_));unfold callGetattribute;rw[if_neg (by decide)];unfold boundAndCalled;have f3:=PySem.F.excAttr_ValueError.ga.bind (.ref e);refine wpAny_bind (wpAny_of_eq f3 ?_);refine wpAny_call (codeAny_call_builtin PySem.F.excAttr_ValueError.ga.plain F.entry_bexc_ga (x5f (K:=K) (D:=D) X p C.mb ?_));unfold Builtin.«object.__getattribute__»;refine wpAny_bind (wpAny_of_eq (a:=(Value.ref e,[Value.str (Str.ofString "__class__") t])) (by rfl) ?_);dsimp only;refine wpAny_bind (wpAny_of_eq (a:=Str.ofString "__class__") (by rfl) ?_);refine wpAny_bind (L0.at (wpAny_bind (L3.at ?_)));dsimp only;unfold bindTo;refine wpAny_bind (wpAny_holding (wpAny_call (y1x (K:=K) (D:=D) X p C.mo ?_)));dsimp only;refine wpAny_pure ?_;dsimp only;refine wpAny_of_eq (a:=Value.ref D) (by rfl) ?_;exact wpAny_pure h
theorem x8e(C:ExcCls K D):KitX K (.ref e) (.ref D) (ExcAt e D) where
 ty:=fun _ _ _ p=>q7k p
 it:=fun M h X p=>by
  have hcD:=C.cd;unfold clsIn at hcD;split at hcD
  ·rename_i c' d' cd' sl' ho;intro A' Q' E' s' k q;unfold isType loadHead;exact wpAny_bind (wpAny_loadPart (k _ _ (X _ _ ho)) (wpAny_pure q))
  ·cases hcD
 ne:=fun h tp dd its n sl X htp=>by
  refine w1p.mpr fun q=>?_
  have e1:D=tp:=Value.ref.inj (beq_iff_eq.mp q);subst e1;have hcD:=C.cd;unfold clsIn at hcD;split at hcD
  ·rename_i c' d' cd' sl' ho;have z:=(X _ _ ho).symm.trans htp;cases z
  ·cases hcD
 ca:=fun X p k=>x5g X p C k
end
def ClsV:V->Value->Prop
 |.ty n,c=>c=.type n
 |.ref a,c=>c=.ref a
 |_,_=>False
structure Cal(P:Program)(w:World)(K:PySem.W.Frag)(mg:Str->Option Value)(base:Heap)(k:Nat)(x:Str)(ps:List Str)(sp:Sp):Prop where
 ex:∃f fd,FnOk P w K mg base (CX1 P w) k f fd ps sp/\mg x=some (.ref f)/\keepIn K (.ref f)=true/\Binds K fd ps []
structure CalH(P:Program)(w:World)(K:PySem.W.Frag)(mg:Str->Option Value)(base:Heap)(k:Nat)(x:Str)(ps:List Str)(sp:Sp):Prop where
 ex:∃f fd,FnOkH P w K mg base k f fd ps sp/\mg x=some (.ref f)/\keepIn K (.ref f)=true/\Binds K fd ps []
structure At(K:PySem.W.Frag)(mg:Str->Option Value)(x:Str)(st:Stmt)(ps:List Str):Prop where
 ex:∃f fd,Fun K x x st f fd/\mg x=some (.ref f)/\Binds K fd ps []
section
variable{mg:Str->Option Value}{base:Heap}
theorem At.cal{st:Stmt}{N:List Str}{sp:Sp}(F:At K mg x st ps)(S:FnScope N ps (defScope st))(len:∀vs H Q E,sp vs H Q E->vs.length=ps.length)
  (hbody:∀(f:Addr)(cdv:Value)(A:Around)(outer:List Env)(s:Shared)(H:Hp)(vs:List V)(Q:VK)(E:XK),Room k (A.deeper (envOfC x (defScope st) s.heap.objs.size f cdv))->sp vs H Q E ->
   ∃t,PSs (cxOf (CX1 P w) P w K mg base N x (defScope st) f cdv A outer s H E) (defBody st) t/\t {nx:=fun _ H'=>Q .non H',rt:=Q} (start N vs) H):Cal P w K mg base (k+1) x ps sp:=by
 obtain⟨f,fd,F,m,b⟩:=F.ex;exact⟨f,fd,F.okX S len (hbody f),m,F.kp,b⟩
end
section
variable{sp:Sp}{p pos:Pos}{t:TA}
theorem q98(C:Cal X.prog X.w X.K X.mg X.base k x ps sp)(hr:Room k X.A)(hx:PassX (CX1 X.prog X.w) X EE)(ha:PA X (e::es) t)(hg:Gl X x:=by rfl)
  (hdb:(x==("__debug__":Str))=false:=by decide)(he:starEach (e::es) X.env=(false,eval e X.env)::starEach es X.env:=by rfl)(hpl:(backTo pos (starEach es X.env)).any (·.1)=false:=by rfl):
  PE X (.Call (.Name x p) (e::es) [] pos) (tCallX sp [] EE t):=by
 obtain⟨f,fd,F,m,kp,b⟩:=C.ex;exact x8a F hr hg m kp b .nil hx ha hdb he hpl
end
section
variable{te:TE}{t:TA}{pos pos' p:Pos}
theorem q7l(i:Nat)(hN:X.N.Nodup)(he:PE X e te)(hi:X.N[i]?=some x:=by rfl)(hx:Loc X.env.scope x:=by walk_at "3")(hs:swapsWith e (some (.Name x pos')) pos.line X.env=pure false:=by rfl)(hf:X.fn x=true\/X.env.scope.names.lookup x=some .local:=by walk_at "2"):
  PS X (.Assign [.Name x pos'] e pos) (tAsg te (gName i)):=y5q hN hi hx he hs hf
theorem q27(i:Nat)(hN:X.N.Nodup)(hi:X.N[i]?=some x:=by rfl)(hx:Loc X.env.scope x:=by walk_at "3")(hf:X.fn x=true\/X.env.scope.names.lookup x=some .local:=by walk_at "2"):PG X (.Name x pos) (gName i):=y1m hN hi hx hf
theorem x5h{o:Expr}{to:TE}{apos:Pos}(ho:PE X o to)(ha:PA X (e::es) t)(hbase:attributeBase o "append" X.env (eval o X.env)=eval o X.env:=by rfl)
  (hfew:((backTo pos (starEach (e::es) X.env)).all (fun x=>!x.1)&&(backToKw pos (keywordEach [] X.env)).all (fun x=>x.1.isSome)&&decide ((e::es).length+([]:List Keyword).length+(if([]:List Keyword).isEmpty then 0 else 1)<30))=true:=by rfl)
  (hline:(apos.endLine==pos.line)=true:=by rfl)(hs:starEach (e::es) X.env=(false,eval e X.env)::starEach es X.env:=by rfl)(hplain:(backTo pos (starEach es X.env)).any (·.1)=false:=by rfl):
  PE X (.Call (.Attribute o "append" apos) (e::es) [] pos) (tBM X.K "list" rAppend to t):=y8z PySem.F.plainAttrs_list PySem.F.slot_list_append PySem.F.type_list_append q80 ho ha hbase hfew hline hs hplain
end
theorem q2t{p:Addr}(h:H p=none)(o:HO):Same H (upd H p o):=fun b u q=>by rw[q0b (q0l q h)];exact q
theorem Same.tup{a:Addr}{xs:List V}(e:Same H H')(h:SqT K H a xs):SqT K H' a xs:=by
 rcases h with(h|⟨o,h⟩)|h
 ·exact .inl (.inl (e _ _ h))
 ·exact .inl (.inr ⟨o,e _ _ h⟩)
 ·exact .inr h
noncomputable abbrev fnO(o:Obj)(q:Str)(c:Addr):HO:=.frz o (.tbl #[.bool false,.str q 0,.ref c])
noncomputable abbrev celO(o:Obj):HO:=.frz o (.ext fun _=>True)
noncomputable abbrev Cs:=List (Addr×Obj)
variable{cs:Cs}
noncomputable abbrev lamEnv(qual:Str)(scope:Scope)(f:Addr)(cd:Value)(cl:List (Str×Addr))(s:Shared):Env:=PySem.W.envX qual scope s.heap.objs.size f cd cl
noncomputable def cxLam(P:Program)(w:World)(K:PySem.W.Frag)(mg:Str->Option Value)(base:Heap)(N:List Str)(qual:Str)(scope:Scope)(f:Addr)(cd:Value)(cl:List (Str×Addr))(A:Around)(outer:List Env)(s:Shared)(H:Hp):Cx where
 prog:=P
 w:=w
 K:=K
 mg:=mg
 base:=base
 A:=A.deeper (lamEnv qual scope f cd cl s)
 N:=N
 s₀:=s
 H₀:=H
 env:=lamEnv qual scope f cd cl s
 outer:=outer
 stack:=lamEnv qual scope f cd cl s::outer
 ex:=[]
 calm:=true
 fn:=fun _=>false
 pn:=[]
 xe:=fun _ _=>False
structure LamScope(ps Nf:List Str)(sc:Scope):Prop where
 kind:sc.kind=.function
 co:sc.isCoroutine=false
 gen:sc.isGenerator=false
 nd:ps.Nodup
 nocell:∀y∈sc.names,y.2≠.cell
 par:∀x∈ps,sc.names.lookup x=some .local
 fr:∀y∈Nf,sc.names.lookup y=some .free
structure LamCells(cl:List (Str×Addr))(Nf:List Str)(sc:Scope)(zs:List V)(h:Heap)(cs:Cs):Prop where
 inj:∀x y c,cl.lookup x=some c->cl.lookup y=some c->x=y
 has:∀x,(x,NameKind.free)∈sc.names->∃c,cl.lookup x=some c
 all:∀x c,cl.lookup x=some c->∃o,cs.lookup c=some o
 cel:∀c o,cs.lookup c=some o->h.get? c=some o/\∃v,o.data=.cell v
 val:∀(i:Nat) y z,Nf[i]?=some y->zs[i]?=some z->∃c o u,cl.lookup y=some c/\cs.lookup c=some o/\o.data=.cell (some u)/\RelV z u
def BMain(h:Heap)(mg:Str->Option Value):Prop:=∃bm ob,mg "__builtins__"=some (.ref bm)/\bm≠builtinsNs/\h.get? bm=some ob/\ob.cls=.type "module" /\ ob.dict=some builtinsNs/\ob.data=.plain
structure Maker(X:Cx):Prop where
 ex:∃c P a,X.env.code=.ref c/\PySem.W.codeHdIn X.K c P=true/\(a,markO P (X.env.qual++"<lambda>"))∈X.K
 bm:BMain X.base X.mg
structure CellsOf(clos:List (Str×Addr))(Nf:List Str)(scope:Scope)(js:List Nat)(σ:St)(H:Hp)(cs:Cs):Prop where
 inj:∀x y c,clos.lookup x=some c->clos.lookup y=some c->x=y
 has:∀x,(x,NameKind.free)∈scope.names->∃c,clos.lookup x=some c
 all:∀x c,clos.lookup x=some c->∃o,cs.lookup c=some o
 cel:∀c o,cs.lookup c=some o->H c=none/\∃v,o.data=.cell v
 val:∀(i:Nat) y j z,Nf[i]?=some y->js[i]?=some j->σ[j]?=some (some z)->∃c o u,clos.lookup y=some c/\cs.lookup c=some o/\o.data=.cell (some u)/\RelV z u
set_option maxHeartbeats 1000000
noncomputable def Sh.isN:Sh->Bool
 |.many .int=>true
 |_=>false
noncomputable def Sh.isI:Sh->Bool
 |.int=>true
 |_=>false
end L2
namespace D
open PySem L2
variable{a:Addr}{X:Cx}{G G' G1 H H' H1:Hp}{EE:L2.St->XK}{kvs:List (Kx×V)}{kas:List Addr}{es:List Expr}{ks:List Kx}{vs xs:List V}{r:List V->Hp->VK->Prop}{i k:Nat}{b:Option Nat}{p pos pos':Pos}{K:PySem.W.Frag}{sh:Sh}{σ:St}{st:Stmt}{x:Str}{α:Type}{v:V}
noncomputable abbrev Sv:=Int ⊕ Bool
inductive Dd where
 |k (kvs:List (Key×Sv))
structure Lm where
 qual:Str
 params:Arguments
 body:Expr
 scope:Scope
 nf:List Str
set_option genInjectivity true in
inductive W where
 |non|bl (b:Bool)|int (i:Int)|str (x:Str)|tup (xs:List W)|lst (xs:List W)|exc (c:Value)|dic (kvs:Dd)|dw (fz:Bool) (sh:Sh) (ks:List Kx) (ws:List W)|fn (i:Nat) (l:Lm) (ws:List W)
variable{ws:List W}{w:W}{f:W->W->Option W}
inductive SK where
 |old (w:W)|new (w:W)|acc (ws:List W)|thro (us ws vs:List W)|tn (us:List W) (wss:List (List W))|pt (us ws:List W) (w:W)|fz (w:W)|fzo (w:W)
inductive S where
 |no|fr (w:W)|own (io:Option Nat) (ws:List W)|dic (kvs:Dd)|thr (us ws vs:List W)|nest (wss:List (List W))|dw (sh:Sh) (ks:List Kx) (ws:List W)|x (k:SK)
variable{e e1:List S}{E:Value->List S->Prop}
noncomputable def SK.plain:SK->Option W
 |.old w=>some w
 |.new w=>some w
 |_=>none
noncomputable def SK.look:SK->Option W
 |.old w=>some w
 |.new w=>some w
 |.acc ws=>some (.lst ws)
 |_=>none
noncomputable def sV:Sv->V
 |.inl i=>.int i
 |.inr b=>.bl b
noncomputable def kvV{κ:Type}(kvs:List (κ×Sv)):List (κ×V):=kvs.map fun p=>(p.1,sV p.2)
noncomputable def dO:Dd->HO
 |.k kvs=>.dK (kvV kvs)
noncomputable def isDic:HO->Bool
 |.dK _=>true
 |_=>false
theorem q3r{d:Dd}{u:HO}(h:isDic u=false):dO d≠u:=fun z=>by
 subst z;cases d<;>cases h
def KeysG(G:Hp):List Kx->List Addr->Prop
 |[],[]=>True
 |k::ks,b::bs=>KRep G k (.ref b)/\KeysG G ks bs
 |[],_::_=>False
 |_::_,[]=>False
theorem KeysG.mono(e:Same G G'):∀{ks:List Kx}{bs:List Addr},KeysG G ks bs->KeysG G' ks bs
 |[],[],_=>trivial
 |k::ks,b::bs,h=>⟨KRep.keeps (fun _ _ _ z=>e _ _ z) k h.1,KeysG.mono e h.2⟩
 |[],_::_,h=>h.elim
 |_::_,[],h=>h.elim
noncomputable def kxK:Kx->Key
 |.int i=>.inl i
 |_=>.inl 0
noncomputable def dwO(sh:Sh)(kvs:List (Kx×V))(kas:List Addr):HO:=if sh.isI=true then .dK (kvs.map fun p=>(kxK p.1,p.2))else .dT sh kvs kas
noncomputable def isDT:HO->Bool
 |.dK _=>true
 |.dT _ _ _=>true
 |_=>false
theorem q3a{u:HO}(h:isDT u=false):dwO sh kvs kas≠u:=fun z=>by
 subst z;unfold dwO at h;split at h<;>cases h
theorem q2p(h:sh.isI=false):dwO sh kvs kas=.dT sh kvs kas:=if_neg (by rw[h];exact w0l)
def KeysS(sh:Sh)(G:Hp)(ks:List Kx)(kas:List Addr):Prop:=if sh.isI=true then ∀k∈ks,∃i,k=.int i else KeysG G ks kas
theorem KeysS.mono(e:Same G G'){bs:List Addr}(h:KeysS sh G ks bs):KeysS sh G' ks bs:=by
 unfold KeysS at h |-
 split at h
 ·rename_i hi;rw[if_pos hi];exact h
 ·rename_i hi;rw[if_neg hi];exact h.mono e
theorem KeysS.g{bs:List Addr}(h:KeysS sh G ks bs)(hi:sh.isI=false):KeysG G ks bs:=by
 unfold KeysS at h
 rwa [if_neg (by rw[hi];exact w0l)]at h
theorem KeysS.of{bs:List Addr}(h:KeysG G ks bs)(hi:sh.isI=false):KeysS sh G ks bs:=by
 unfold KeysS
 rwa [if_neg (by rw[hi];exact w0l)]
def DAt(fz:Bool)(G:Hp)(a:Addr)(sh:Sh)(kvs:List (Kx×V))(kas:List Addr):Prop:=if fz=true then ∃o,G a=some (.frz o (dwO sh kvs kas))else G a=some (dwO sh kvs kas)
theorem DAt.ex{fz:Bool}(h:DAt fz G a sh kvs kas):∃o,G a=some o:=by
 unfold DAt at h;split at h
 ·obtain⟨o,h⟩:=h;exact⟨_,h⟩
 ·exact⟨_,h⟩
theorem DAt.mono{fz:Bool}(e:Same G G')(h:DAt fz G a sh kvs kas):DAt fz G' a sh kvs kas:=by
 cases fz with
 |true=>obtain⟨o,h⟩:=h;exact⟨o,e _ _ h⟩
 |false=>exact e _ _ h
structure FnCells(G:Hp)(cl:List (Str×Addr))(l:Lm)(zs:List V)(cs:Cs):Prop where
 inj:∀x y c,cl.lookup x=some c->cl.lookup y=some c->x=y
 has:∀x,(x,NameKind.free)∈l.scope.names->∃c,cl.lookup x=some c
 all:∀x c,cl.lookup x=some c->∃o,cs.lookup c=some o
 cel:∀c o,cs.lookup c=some o->G c=some (celO o)/\∃v,o.data=.cell v
 val:∀(i:Nat) y z,l.nf[i]?=some y->zs[i]?=some z->∃c o u,cl.lookup y=some c/\cs.lookup c=some o/\o.data=.cell (some u)/\RelV z u
 len:zs.length=l.nf.length
theorem FnCells.mono{cl:List (Str×Addr)}{l:Lm}{zs:List V}{cs:Cs}(e:Same G G')(h:FnCells G cl l zs cs):FnCells G' cl l zs cs:=⟨h.inj,h.has,h.all,fun c o q=>⟨e _ _ (h.cel c o q).1,(h.cel c o q).2⟩,h.val,h.len⟩
def FnAtG(G:Hp)(l:Lm)(cl:List (Str×Addr))(f:Addr):Prop:=∃pm c' ctv,G f=some (fnO (PySem.W.kla_obj "<lambda>" l.qual l.params l.body l.scope cl pm c' ctv) l.qual c')
inductive RefTo(v:V)(P Q:Addr->List V->Prop):Prop where
 |mk (a:Addr) (xs:List V) (h:v=.ref a) (p:P a xs) (q:Q a xs):RefTo v P Q
inductive ConsOf(xs:List V)(P:V->Prop)(Q:List V->Prop):Prop where
 |mk (x:V) (r:List V) (h:xs=x::r) (p:P x) (q:Q r):ConsOf xs P Q
mutual
def Rep(K:PySem.W.Frag)(G:Hp):W->V->Prop
 |.non,v=>v=.non
 |.bl b,v=>v=.bl b
 |.int i,v=>v=.int i
 |.str x,v=>v=.str x
 |.tup ws,v=>RefTo v (SqT K G) fun _ xs=>Reps K G ws xs
 |.lst ws,v=>RefTo v (SqL K G) fun _ xs=>Reps K G ws xs
 |.exc c,v=>∃e,v=.ref e/\G e=some (excO e c)
 |.dic kvs,v=>∃e,v=.ref e/\G e=some (dO kvs)
 |.dw fz sh ks ws,v=>∃a kvs kas,v=.ref a/\DAt fz G a sh kvs kas/\kvs.map (·.1)=ks/\KeysS sh G ks kas/\Reps K G ws (kvs.map (·.2))
 |.fn _ l ws,v=>∃f cl zs cs,v=.ref f/\FnAtG G l cl f/\FnCells G cl l zs cs/\Reps K G ws zs
def Reps(K:PySem.W.Frag)(G:Hp):List W->List V->Prop
 |[],xs=>xs=[]
 |w::ws,xs=>ConsOf xs (Rep K G w) (Reps K G ws)
end
mutual
theorem Rep.mono{K:PySem.W.Frag}{G G':Hp}(e:Same G G'):∀(w:W){v:V},Rep K G w v->Rep K G' w v
 |.non,v,h=>h
 |.bl b,v,h=>h
 |.int i,v,h=>h
 |.str x,v,h=>h
 |.tup ws,v,h=>by
  obtain⟨a,xs,rfl,q,r⟩:=h;exact⟨a,xs,rfl,e.tup q,Reps.mono e ws r⟩
 |.lst ws,v,h=>by
  obtain⟨a,xs,rfl,q,r⟩:=h;exact⟨a,xs,rfl,e.seq q,Reps.mono e ws r⟩
 |.exc c,v,h=>by
  obtain⟨a,rfl,q⟩:=h;exact⟨a,rfl,e _ _ q⟩
 |.dic kvs,v,h=>by
  obtain⟨a,rfl,q⟩:=h;exact⟨a,rfl,e _ _ q⟩
 |.dw fz sh ks ws,v,h=>by
  obtain⟨a,kvs,kas,rfl,h1,h2,h3,h4⟩:=h;exact⟨a,kvs,kas,rfl,h1.mono e,h2,h3.mono e,Reps.mono e ws h4⟩
 |.fn i l ws,v,h=>by
  obtain⟨f,cl,zs,cs,rfl,⟨pm,c',ctv,h1⟩,h2,h3⟩:=h;exact⟨f,cl,zs,cs,rfl,⟨pm,c',ctv,e _ _ h1⟩,h2.mono e,Reps.mono e ws h3⟩
theorem Reps.mono{K:PySem.W.Frag}{G G':Hp}(e:Same G G'):∀(ws:List W){xs:List V},Reps K G ws xs->Reps K G' ws xs
 |[],xs,h=>h
 |w::ws,xs,h=>by
  obtain⟨x,r,rfl,h1,h2⟩:=h;exact⟨x,r,rfl,Rep.mono e w h1,Reps.mono e ws h2⟩
end
theorem Reps.length:∀{ws:List W}{xs:List V},Reps K G ws xs->xs.length=ws.length
 |[],xs,h=>by cases h;rfl
 |w::ws,xs,h=>by
  obtain⟨x,r,rfl,_,h2⟩:=h;simp[Reps.length h2]
theorem Reps.get:∀{ws:List W}{xs:List V}{i:Nat}{w:W},Reps K G ws xs->ws[i]?=some w->∃x,xs[i]?=some x/\Rep K G w x
 |[],xs,i,w,h,e=>by simp at e
 |w'::ws,xs,0,w,h,e=>by
  obtain⟨x,r,rfl,h1,h2⟩:=h;simp at e;subst e;exact⟨x,rfl,h1⟩
 |w'::ws,xs,i+1,w,h,e=>by
  obtain⟨x,r,rfl,h1,h2⟩:=h;obtain⟨y,e1,e2⟩:=Reps.get (i:=i) h2 (by simpa using e);exact⟨y,by simpa using e1,e2⟩
theorem Reps.getV:∀{ws:List W}{xs:List V}{i:Nat}{x:V},Reps K G ws xs->xs[i]?=some x->∃w,ws[i]?=some w/\Rep K G w x:=fun {ws xs i x} h e=>by
 have hl:=h.length;have hi:i<xs.length:=(w0a.mp e).1;have e2:ws[i]?=some ws[i]:=w0d (by omega);obtain⟨y,e3,r⟩:=h.get e2;rw[e]at e3;cases e3;exact⟨_,e2,r⟩
theorem Reps.append:∀{ws ws':List W}{xs xs':List V},Reps K G ws xs->Reps K G ws' xs'->Reps K G (ws++ws') (xs++xs')
 |[],ws',xs,xs',h,h'=>by cases h;exact h'
 |w::ws,ws',xs,xs',h,h'=>by
  obtain⟨x,r,rfl,h1,h2⟩:=h;exact⟨x,r++xs',rfl,h1,Reps.append h2 h'⟩
theorem Reps.one{x:V}(h:Rep K G w x):Reps K G [w] [x]:=⟨x,[],rfl,h,rfl⟩
structure Zt where
 H:Hp
 G:Hp
 io:List Addr
variable{Z Z':Zt}
def FzAt(Z:Zt)(G H:Hp)(l:Addr)(o:Obj)(ys:List V):Prop:=H l=some (.frz o (.lst ys))/\G l=none/\Z.H l=none
def NestIn(K:PySem.W.Frag)(Z:Zt)(G H:Hp):List Addr->List (List W)->Prop
 |[],[]=>True
 |l::ls,ws::wss=>(∃o ys,FzAt Z G H l o ys/\Reps K G ws ys)/\NestIn K Z G H ls wss
 |[],_::_=>False
 |_::_,[]=>False
inductive NestOk(K:PySem.W.Frag)(Z:Zt)(G H:Hp)(wss:List (List W))(v:Option V):Prop where
 |mk (a:Addr) (ls:List Addr) (h1:v=some (.ref a)) (h2:G a=some (.lst (ls.map V.ref))) (h3:ls.Nodup) (h4:NestIn K Z G H ls wss):NestOk K Z G H wss v
theorem NestIn.move{K:PySem.W.Frag}(sg:Same G G')(hf:∀l o ys,H l=some (.frz o (.lst ys))->G l=none->Z.H l=none->H' l=some (.frz o (.lst ys))/\G' l=none/\Z'.H l=none):∀{ls:List Addr}{wss:List (List W)},NestIn K Z G H ls wss->NestIn K Z' G' H' ls wss
 |[],[],_=>trivial
 |l::ls,ws::wss,⟨⟨o,ys,⟨h1,h2,h3⟩,h4⟩,h⟩=>⟨⟨o,ys,hf l o ys h1 h2 h3,Reps.mono sg ws h4⟩,h.move sg hf⟩
 |[],_::_,h=>h.elim
 |_::_,[],h=>h.elim
theorem NestOk.move{K:PySem.W.Frag}{wss:List (List W)}{v:Option V}(q:NestOk K Z G H wss v)(sg:Same G G')(hf:∀l o ys,H l=some (.frz o (.lst ys))->G l=none->Z.H l=none->H' l=some (.frz o (.lst ys))/\G' l=none/\Z'.H l=none):NestOk K Z' G' H' wss v:=by
 obtain⟨a,ls,h1,h2,h3,h4⟩:=q;exact⟨a,ls,h1,sg _ _ h2,h3,h4.move sg hf⟩
mutual
def RepN(K:PySem.W.Frag)(Z:Zt)(G:Hp):W->V->Prop
 |.non,v=>v=.non
 |.bl b,v=>v=.bl b
 |.int i,v=>v=.int i
 |.str x,v=>v=.str x
 |.tup ws,v=>RefTo v (SqT K G) fun _ xs=>RepNs K Z G ws xs
 |.lst ws,v=>RefTo v (fun a xs=>G a=some (.lst xs)) fun a xs=>Z.H a=none/\RepNs K Z G ws xs
 |.exc _,_=>False
 |.dic _,_=>False
 |.dw fz sh ks ws,v=>∃a kvs kas,v=.ref a/\DAt fz G a sh kvs kas/\Z.H a=none/\kvs.map (·.1)=ks/\KeysS sh G ks kas/\RepNs K Z G ws (kvs.map (·.2))
 |.fn _ _ _,_=>False
def RepNs(K:PySem.W.Frag)(Z:Zt)(G:Hp):List W->List V->Prop
 |[],xs=>xs=[]
 |w::ws,xs=>ConsOf xs (RepN K Z G w) (RepNs K Z G ws)
end
mutual
theorem RepN.rep{K:PySem.W.Frag}{Z:Zt}{G:Hp}:∀(w:W){v:V},RepN K Z G w v->Rep K G w v
 |.non,_,h=>h
 |.bl _,_,h=>h
 |.int _,_,h=>h
 |.str _,_,h=>h
 |.tup ws,_,⟨a,xs,e,q,r⟩=>⟨a,xs,e,q,RepNs.reps ws r⟩
 |.lst ws,_,⟨a,xs,e,q,_,r⟩=>⟨a,xs,e,.inl (.inl q),RepNs.reps ws r⟩
 |.exc _,_,h=>h.elim
 |.dic _,_,h=>h.elim
 |.dw _ _ _ ws,_,⟨a,kvs,kas,e,q,_,h1,h2,r⟩=>⟨a,kvs,kas,e,q,h1,h2,RepNs.reps ws r⟩
 |.fn _ _ _,_,h=>h.elim
theorem RepNs.reps{K:PySem.W.Frag}{Z:Zt}{G:Hp}:∀(ws:List W){vs:List V},RepNs K Z G ws vs->Reps K G ws vs
 |[],_,h=>h
 |w::ws,_,⟨x,r,e,p,q⟩=>⟨x,r,e,RepN.rep w p,RepNs.reps ws q⟩
end
mutual
theorem RepN.move{K:PySem.W.Frag}{Z Z':Zt}{G G':Hp}(sg:Same G G')(hz:∀a o,G a=some o->Z.H a=none->Z'.H a=none):∀(w:W){v:V},RepN K Z G w v->RepN K Z' G' w v
 |.non,_,h=>h
 |.bl _,_,h=>h
 |.int _,_,h=>h
 |.str _,_,h=>h
 |.tup ws,_,⟨a,xs,e,q,r⟩=>⟨a,xs,e,sg.tup q,RepNs.move sg hz ws r⟩
 |.lst ws,_,⟨a,xs,e,q,n,r⟩=>⟨a,xs,e,sg _ _ q,hz _ _ q n,RepNs.move sg hz ws r⟩
 |.exc _,_,h=>h.elim
 |.dic _,_,h=>h.elim
 |.dw _ _ _ ws,_,⟨a,kvs,kas,e,q,n,h1,h2,r⟩=>⟨a,kvs,kas,e,q.mono sg,(let ⟨_,z⟩:=q.ex;hz _ _ z n),h1,h2.mono sg,RepNs.move sg hz ws r⟩
 |.fn _ _ _,_,h=>h.elim
theorem RepNs.move{K:PySem.W.Frag}{Z Z':Zt}{G G':Hp}(sg:Same G G')(hz:∀a o,G a=some o->Z.H a=none->Z'.H a=none):∀(ws:List W){vs:List V},RepNs K Z G ws vs->RepNs K Z' G' ws vs
 |[],_,h=>h
 |w::ws,_,⟨x,r,e,p,q⟩=>⟨x,r,e,RepN.move sg hz w p,RepNs.move sg hz ws q⟩
end
def RepsX(K:PySem.W.Frag)(Z:Zt)(G:Hp)(sh:Sh)(ws:List W)(vs:List V):Prop:=if sh.isN=true then RepNs K Z G ws vs else Reps K G ws vs
theorem RepsX.reps(h:RepsX K Z G sh ws vs):Reps K G ws vs:=by
 unfold RepsX at h;split at h
 ·exact RepNs.reps ws h
 ·exact h
theorem RepsX.of(hs:sh.isN=false)(h:Reps K G ws vs):RepsX K Z G sh ws vs:=by
 unfold RepsX;rw[if_neg (by rw[hs];exact w0l)];exact h
theorem RepsX.nil:RepsX K Z G sh [] []:=by
 unfold RepsX;split<;>rfl
theorem RepsX.move{K:PySem.W.Frag}(h:RepsX K Z G sh ws vs)(sg:Same G G')(hz:∀a o,G a=some o->Z.H a=none->Z'.H a=none):RepsX K Z' G' sh ws vs:=by
 unfold RepsX at h |-
 split at h
 ·rename_i q;rw[if_pos q];exact RepNs.move sg hz ws h
 ·rename_i q;rw[if_neg q];exact Reps.mono sg ws h
inductive DwOk(K:PySem.W.Frag)(Z:Zt)(G H:Hp)(sh:Sh)(ks:List Kx)(ws:List W)(v:Option V):Prop where
 |mk (a:Addr) (kvs:List (Kx×V)) (kas:List Addr) (h1:v=some (.ref a)) (h2:H a=some (dwO sh kvs kas)) (h3:G a=none) (h4:Z.H a=none) (h5:kvs.map (·.1)=ks) (h6:KeysS sh G ks kas) (h7:RepsX K Z G sh ws (kvs.map (·.2))):DwOk K Z G H sh ks ws v
theorem DwOk.move{K:PySem.W.Frag}{v:Option V}(q:DwOk K Z G H sh ks ws v)(sg:Same G G')(hf:∀a kvs kas,H a=some (dwO sh kvs kas)->G a=none->Z.H a=none->H' a=some (dwO sh kvs kas)/\G' a=none/\Z'.H a=none)(hz:∀a o,G a=some o->Z.H a=none->Z'.H a=none:=by intro _ _ _ z;exact z):DwOk K Z' G' H' sh ks ws v:=by
 obtain⟨a,kvs,kas,h1,h2,h3,h4,h5,h6,h7⟩:=q;obtain⟨k1,k2,k3⟩:=hf a kvs kas h2 h3 h4;exact⟨a,kvs,kas,h1,k1,k2,k3,h5,h6.mono sg,h7.move sg hz⟩
inductive AccOk(K:PySem.W.Frag)(Z:Zt)(G H:Hp)(ws:List W)(v:Option V):Prop where
 |mk (a:Addr) (o:Obj) (xs:List V) (h1:v=some (.ref a)) (h2:FzAt Z G H a o xs) (h3:RepNs K Z G ws xs):AccOk K Z G H ws v
inductive ThroOk(K:PySem.W.Frag)(Z:Zt)(G H:Hp)(us ws vs:List W)(v:Option V):Prop where
 |mk (t l:Addr) (o:Obj) (xs ys zs:List V) (h1:v=some (.ref t)) (h2:Z.G t=some (.tup (xs++.ref l::zs))) (h3:G t=some (.tup (xs++.ref l::zs))) (h4:FzAt Z G H l o ys) (h5:Reps K Z.G us xs/\Reps K Z.G ws ys/\Reps K Z.G vs zs) (h6:Reps K G us xs/\Reps K G ws ys/\Reps K G vs zs):ThroOk K Z G H us ws vs v
inductive TnOk(K:PySem.W.Frag)(Z:Zt)(G H:Hp)(us:List W)(wss:List (List W))(v:Option V):Prop where
 |mk (t l:Addr) (o:Obj) (ls:List Addr) (xs:List V) (h1:v=some (.ref t)) (h2:G t=some (.tup (xs++[.ref l]))) (h3:FzAt Z G H l o (ls.map V.ref)) (h4:ls.Nodup/\l∉ls) (h5:Reps K G us xs) (h6:NestIn K Z G H ls wss):TnOk K Z G H us wss v
inductive PtOk(K:PySem.W.Frag)(Z:Zt)(G H:Hp)(us ws:List W)(w:W)(v:Option V):Prop where
 |mk (p t l:Addr) (o:Obj) (xs ys:List V) (x:V) (h1:v=some (.ref p)) (h2:G p=some (.tup [.ref t,x])) (h3:G t=some (.tup (xs++[.ref l]))) (h4:FzAt Z G H l o ys) (h5:Reps K G us xs) (h6:Reps K G ws ys) (h7:Rep K G w x):PtOk K Z G H us ws w v
inductive ConsF(xs:List V)(as:List Addr)(P:V->List Addr->Prop)(Q:List V->List Addr->Prop):Prop where
 |mk (x:V) (r:List V) (b c:List Addr) (h:xs=x::r) (h':as=b++c) (p:P x b) (q:Q r c):ConsF xs as P Q
inductive LstF(as:List Addr)(a:Addr)(Q:List Addr->Prop):Prop where
 |mk (bs:List Addr) (h:as=a::bs) (q:Q bs):LstF as a Q
mutual
def RepF(K:PySem.W.Frag)(Z:Zt)(G H:Hp):W->V->List Addr->Prop
 |.non,v,as=>v=.non/\as=[]
 |.bl b,v,as=>v=.bl b/\as=[]
 |.int i,v,as=>v=.int i/\as=[]
 |.str x,v,as=>v=.str x/\as=[]
 |.tup ws,v,as=>RefTo v (SqT K G) fun _ xs=>RepFs K Z G H ws xs as
 |.lst ws,v,as=>RefTo v (fun a xs=>∃o,FzAt Z G H a o xs) fun a xs=>LstF as a (RepFs K Z G H ws xs)
 |.exc _,_,_=>False
 |.dic _,_,_=>False
 |.dw _ _ _ _,_,_=>False
 |.fn _ _ _,_,_=>False
def RepFs(K:PySem.W.Frag)(Z:Zt)(G H:Hp):List W->List V->List Addr->Prop
 |[],xs,as=>xs=[]/\as=[]
 |w::ws,xs,as=>ConsF xs as (RepF K Z G H w) (RepFs K Z G H ws)
end
mutual
theorem RepF.move{K:PySem.W.Frag}{Z Z':Zt}{G G' H H':Hp}(sg:Same G G'):∀(w:W){v:V}{as:List Addr},(∀l o ys,l∈as->FzAt Z G H l o ys->FzAt Z' G' H' l o ys)->RepF K Z G H w v as->RepF K Z' G' H' w v as
 |.non,_,_,_,h=>h
 |.bl _,_,_,_,h=>h
 |.int _,_,_,_,h=>h
 |.str _,_,_,_,h=>h
 |.tup ws,_,_,hf,⟨a,xs,e,q,r⟩=>⟨a,xs,e,sg.tup q,RepFs.move sg ws hf r⟩
 |.lst ws,_,_,hf,⟨a,xs,e,⟨o,q⟩,⟨bs,e2,r⟩⟩=>by
  subst e2;exact⟨a,xs,e,⟨o,hf _ _ _ (w0s ..) q⟩,bs,rfl,RepFs.move sg ws (fun l o ys z=>hf l o ys (w0m _ z)) r⟩
 |.exc _,_,_,_,h=>h.elim
 |.dic _,_,_,_,h=>h.elim
 |.dw _ _ _ _,_,_,_,h=>h.elim
 |.fn _ _ _,_,_,_,h=>h.elim
theorem RepFs.move{K:PySem.W.Frag}{Z Z':Zt}{G G' H H':Hp}(sg:Same G G'):∀(ws:List W){vs:List V}{as:List Addr},(∀l o ys,l∈as->FzAt Z G H l o ys->FzAt Z' G' H' l o ys)->RepFs K Z G H ws vs as->RepFs K Z' G' H' ws vs as
 |[],_,_,_,h=>h
 |w::ws,_,_,hf,⟨x,r,b,c,e,e2,p,q⟩=>by
  subst e2;exact⟨x,r,b,c,e,rfl,RepF.move sg w (fun l o ys z=>hf l o ys (w1h _ z)) p,RepFs.move sg ws (fun l o ys z=>hf l o ys (w0o _ z)) q⟩
end
mutual
theorem RepF.rep{K:PySem.W.Frag}{Z:Zt}{G G' H:Hp}(sg:Same G G')(hf:∀l o ys,FzAt Z G H l o ys->G' l=some (.frz o (.lst ys))):∀(w:W){v:V}{as:List Addr},RepF K Z G H w v as->Rep K G' w v
 |.non,_,_,h=>h.1
 |.bl _,_,_,h=>h.1
 |.int _,_,_,h=>h.1
 |.str _,_,_,h=>h.1
 |.tup ws,_,_,⟨a,xs,e,q,r⟩=>⟨a,xs,e,sg.tup q,RepFs.reps sg hf ws r⟩
 |.lst ws,_,_,⟨a,xs,e,⟨o,q⟩,⟨bs,_,r⟩⟩=>⟨a,xs,e,.inl (.inr ⟨o,hf _ _ _ q⟩),RepFs.reps sg hf ws r⟩
 |.exc _,_,_,h=>h.elim
 |.dic _,_,_,h=>h.elim
 |.dw _ _ _ _,_,_,h=>h.elim
 |.fn _ _ _,_,_,h=>h.elim
theorem RepFs.reps{K:PySem.W.Frag}{Z:Zt}{G G' H:Hp}(sg:Same G G')(hf:∀l o ys,FzAt Z G H l o ys->G' l=some (.frz o (.lst ys))):∀(ws:List W){vs:List V}{as:List Addr},RepFs K Z G H ws vs as->Reps K G' ws vs
 |[],_,_,h=>h.1
 |w::ws,_,_,⟨x,r,b,c,e,_,p,q⟩=>⟨x,r,e,RepF.rep sg hf w p,RepFs.reps sg hf ws q⟩
end
mutual
theorem RepF.fzs{K:PySem.W.Frag}{Z:Zt}{G H:Hp}:∀(w:W){v:V}{as:List Addr},RepF K Z G H w v as->∀{l:Addr},l∈as->∃o ys,FzAt Z G H l o ys
 |.non,_,_,h,_,m=>by rw[h.2]at m;cases m
 |.bl _,_,_,h,_,m=>by rw[h.2]at m;cases m
 |.int _,_,_,h,_,m=>by rw[h.2]at m;cases m
 |.str _,_,_,h,_,m=>by rw[h.2]at m;cases m
 |.tup ws,_,_,⟨a,xs,e,q,r⟩,_,m=>RepFs.fzs ws r m
 |.lst ws,_,_,⟨a,xs,e,⟨o,q⟩,⟨bs,e2,r⟩⟩,l,m=>by
  subst e2;rcases w0j.mp m with rfl|m
  ·exact⟨o,xs,q⟩
  ·exact RepFs.fzs ws r m
 |.exc _,_,_,h,_,_=>h.elim
 |.dic _,_,_,h,_,_=>h.elim
 |.dw _ _ _ _,_,_,h,_,_=>h.elim
 |.fn _ _ _,_,_,h,_,_=>h.elim
theorem RepFs.fzs{K:PySem.W.Frag}{Z:Zt}{G H:Hp}:∀(ws:List W){vs:List V}{as:List Addr},RepFs K Z G H ws vs as->∀{l:Addr},l∈as->∃o ys,FzAt Z G H l o ys
 |[],_,_,h,_,m=>by rw[h.2]at m;cases m
 |w::ws,_,_,⟨x,r,b,c,e,e2,p,q⟩,l,m=>by
  subst e2;rcases w1q.mp m with m|m
  ·exact RepF.fzs w p m
  ·exact RepFs.fzs ws q m
end
inductive FzOk(K:PySem.W.Frag)(Z:Zt)(G H:Hp)(w:W)(v:Option V):Prop where
 |mk (u:V) (as:List Addr) (h1:v=some u) (h2:as.Nodup) (h3:RepF K Z G H w u as):FzOk K Z G H w v
inductive FzoOk(K:PySem.W.Frag)(Z:Zt)(G H:Hp)(w:W)(v:Option V):Prop where
 |mk (u:V) (as:List Addr) (h1:v=some u) (h2:as.Nodup) (h3:RepF K Z Z.G H w u as) (h4:RepF K Z G H w u as):FzoOk K Z G H w v
def XOk(K:PySem.W.Frag)(Z:Zt)(G H:Hp):SK->Option V->Prop
 |.old w,v=>∃u,v=some u/\Rep K Z.G w u/\Rep K G w u
 |.new w,v=>∃u,v=some u/\RepN K Z G w u
 |.acc ws,v=>AccOk K Z G H ws v
 |.thro us ws vs,v=>ThroOk K Z G H us ws vs v
 |.tn us wss,v=>TnOk K Z G H us wss v
 |.pt us ws w,v=>PtOk K Z G H us ws w v
 |.fz w,v=>FzOk K Z G H w v
 |.fzo w,v=>FzoOk K Z G H w v
theorem XOk.move{K:PySem.W.Frag}{k:SK}{v:Option V}(q:XOk K Z G H k v)(sg:Same G G')(hf:∀l o ys,H l=some (.frz o (.lst ys))->G l=none->Z.H l=none->H' l=some (.frz o (.lst ys))/\G' l=none/\Z.H l=none):XOk K Z G' H' k v:=by
 cases k with
 |old w=>obtain⟨u,h1,h2,h3⟩:=q;exact⟨u,h1,h2,Rep.mono sg w h3⟩
 |new w=>obtain⟨u,h1,h2⟩:=q;exact⟨u,h1,RepN.move sg (fun _ _ _ z=>z) w h2⟩
 |acc ws=>obtain⟨a,o,xs,h1,⟨h2,h3,h4⟩,h5⟩:=q;exact⟨a,o,xs,h1,hf _ _ _ h2 h3 h4,RepNs.move sg (fun _ _ _ z=>z) ws h5⟩
 |tn us wss=>obtain⟨t,l,o,ls,xs,h1,h2,⟨h3,h4,h5⟩,h6,h7,h8⟩:=q;exact⟨t,l,o,ls,xs,h1,sg _ _ h2,hf _ _ _ h3 h4 h5,h6,Reps.mono sg us h7,h8.move sg hf⟩
 |pt us ws w=>obtain⟨p,t,l,o,xs,ys,x,h1,h2,h3,⟨h4,h5,h6⟩,h7,h8,h9⟩:=q;exact⟨p,t,l,o,xs,ys,x,h1,sg _ _ h2,sg _ _ h3,hf _ _ _ h4 h5 h6,Reps.mono sg us h7,Reps.mono sg ws h8,Rep.mono sg w h9⟩
 |fz w=>obtain⟨u,as,h1,h2,h3⟩:=q;exact⟨u,as,h1,h2,RepF.move sg w (fun l o ys _ ⟨k1,k2,k3⟩=>hf l o ys k1 k2 k3) h3⟩
 |fzo w=>obtain⟨u,as,h1,h2,h3,h4⟩:=q;exact⟨u,as,h1,h2,RepF.move (.refl _) w (fun l o ys hm k=>⟨(hf l o ys k.1 (let ⟨_,_,z⟩:=RepF.fzs w h4 hm;z.2.1) k.2.2).1,k.2.1,k.2.2⟩) h3,RepF.move sg w (fun l o ys _ ⟨k1,k2,k3⟩=>hf l o ys k1 k2 k3) h4⟩
 |thro us ws vs=>obtain⟨t,l,o,xs,ys,zs,h1,h2,h3,⟨h4,h5,h6⟩,h7,h8,h9,h10⟩:=q;exact⟨t,l,o,xs,ys,zs,h1,h2,sg _ _ h3,hf _ _ _ h4 h5 h6,h7,Reps.mono sg us h8,Reps.mono sg ws h9,Reps.mono sg vs h10⟩
def IoOk(Z:Zt):Option Nat->Addr->Prop
 |none,a=>Z.H a=none
 |some j,a=>Z.io[j]?=some a
theorem IoOk.io(h:IoOk Z b a):a∈Z.io\/Z.H a=none:=by
 cases b with
 |none=>exact .inr h
 |some j=>exact .inl (w0y h)
inductive OwnOk(K:PySem.W.Frag)(Z:Zt)(G H:Hp)(b:Option Nat)(ws:List W)(v:Option V):Prop where
 |mk (a:Addr) (xs:List V) (h1:v=some (.ref a)) (h2:H a=some (.lst xs)) (h3:G a=none) (h4:IoOk Z b a) (h5:Reps K G ws xs):OwnOk K Z G H b ws v
inductive DicOk(Z:Zt)(G H:Hp)(kvs:Dd)(v:Option V):Prop where
 |mk (a:Addr) (h1:v=some (.ref a)) (h2:H a=some (dO kvs)) (h3:G a=none) (h4:Z.H a=none):DicOk Z G H kvs v
inductive ThrOk(K:PySem.W.Frag)(Z:Zt)(G H:Hp)(us ws vs:List W)(v:Option V):Prop where
 |mk (t l:Addr) (o:Obj) (xs ys zs:List V) (h1:v=some (.ref t)) (h2:G t=some (.tup (xs++.ref l::zs))) (h3:H l=some (.frz o (.lst ys))) (h4:G l=none) (h5:Z.H l=none) (h6:Reps K G us xs/\Reps K G ws ys/\Reps K G vs zs):ThrOk K Z G H us ws vs v
def SlotOk(K:PySem.W.Frag)(Z:Zt)(G H:Hp):S->Option V->Prop
 |.no,_=>True
 |.fr w,v=>∃u,v=some u/\Rep K G w u
 |.own b ws,v=>OwnOk K Z G H b ws v
 |.dic kvs,v=>DicOk Z G H kvs v
 |.thr us ws vs,v=>ThrOk K Z G H us ws vs v
 |.nest wss,v=>NestOk K Z G H wss v
 |.dw sh ks ws,v=>DwOk K Z G H sh ks ws v
 |.x k,v=>XOk K Z G H k v
structure Rel(K:PySem.W.Frag)(Z:Zt)(G:Hp)(σ:St)(H:Hp)(e:List S):Prop where
 sub:Same G H
 slot:∀(i:Nat)(s:S),e[i]?=some s->SlotOk K Z G H s (σ[i]?.getD none)
 len:e.length=σ.length
 dis:∀(i j:Nat)(b b':Option Nat)(ws ws':List W)(a:Addr),e[i]?=some (.own b ws)->e[j]?=some (.own b' ws')->σ[i]?=some (some (.ref a))->σ[j]?=some (some (.ref a))->i=j
 ent:∀a o,Z.H a=some o->a∉Z.io->H a=some o
 ion:∀a∈Z.io,H a≠none
 gen:∀a,Z.H a≠none->G a=Z.G a
inductive AtG(K:PySem.W.Frag)(Z:Zt)(σ:St)(H:Hp)(P:Hp->List S->Prop):Prop where
 |mk (G:Hp) (e:List S) (r:Rel K Z G σ H e) (h:P G e):AtG K Z σ H P
structure Grow(G H G' H':Hp):Prop where
 hh:Same H H'
 gg:Same G G'
 sub:Same G' H'
 new:∀a,H a≠none->G' a=G a
theorem Grow.refl(s:Same G H):Grow G H G H:=⟨.refl _,.refl _,s,fun _ _=>rfl⟩
theorem x5i(e:Same H H')(h:H a≠none):H' a≠none:=by
 cases q:H a with
 |none=>exact absurd q h
 |some o=>rw[e a o q];simp
theorem Grow.laid(s:Same G H){D:Addr}(h:H D=none)(o:HO):Grow G H (upd G D o) (upd H D o) where
 hh:=q2t h o
 gg:=q2t (s.free h) o
 sub:=fun b u e=>by
  by_cases hb:b=D
  ·subst hb;rw[q0g]at e |-;exact e
  ·rw[q0b hb]at e |-;exact s b u e
 new:=fun a ha=>by rw[q0b (fun z=>ha (by rw[z];exact h))]
theorem Grow.hid(s:Same G H){D:Addr}(h:H D=none)(o:HO):Grow G H G (upd H D o) where
 hh:=q2t h o
 gg:=.refl _
 sub:=fun b u e=>by
  have:=s b u e;rw[q0b (q0l this h)];exact this
 new:=fun a ha=>rfl
theorem Rel.grow(r:Rel K Z G σ H e)(g:Grow G H G' H'):Rel K Z G' σ H' e where
 sub:=g.sub
 slot:=fun i s h=>by
  have q:=r.slot i s h;cases s with
  |no=>trivial
  |fr w=>
   obtain⟨u,h1,h2⟩:=q;exact⟨u,h1,Rep.mono g.gg w h2⟩
  |own b ws=>
   obtain⟨a,xs,h1,h2,h3,h4,h5⟩:=q;exact⟨a,xs,h1,g.hh _ _ h2,by rw[g.new a (by rw[h2];simp)];exact h3,h4,Reps.mono g.gg ws h5⟩
  |dic kvs=>
   obtain⟨a,h1,h2,h3,h4⟩:=q;exact⟨a,h1,g.hh _ _ h2,by rw[g.new a (by rw[h2];simp)];exact h3,h4⟩
  |thr us ws vs=>
   obtain⟨t,l,o,xs,ys,zs,h1,h2,h3,h4,h5,h6,h7,h8⟩:=q;exact⟨t,l,o,xs,ys,zs,h1,g.gg _ _ h2,g.hh _ _ h3,by rw[g.new l (by rw[h3];simp)];exact h4,h5,Reps.mono g.gg us h6,Reps.mono g.gg ws h7,Reps.mono g.gg vs h8⟩
  |nest wss=>exact NestOk.move q g.gg fun l o ys h1 h2 h3=>⟨g.hh _ _ h1,by rw[g.new l (by rw[h1];simp)];exact h2,h3⟩
  |x k=>exact XOk.move q g.gg fun l o ys h1 h2 h3=>⟨g.hh _ _ h1,by rw[g.new l (by rw[h1];simp)];exact h2,h3⟩
  |dw sh ks ws=>exact DwOk.move q g.gg fun l o ys h1 h2 h3=>⟨g.hh _ _ h1,by rw[g.new l (by rw[h1];simp)];exact h2,h3⟩
 len:=r.len
 dis:=r.dis
 ent:=fun a o h n=>g.hh _ _ (r.ent a o h n)
 ion:=fun a h=>x5i g.hh (r.ion a h)
 gen:=fun a h=>by
  have:H a≠none:=by
   cases q:Z.H a with
   |none=>exact absurd q h
   |some o=>
    by_cases hi:a∈Z.io
    ·exact r.ion a hi
    ·rw[r.ent a o q hi];simp
  rw[g.new a this];exact r.gen a h
theorem Rel.own(r:Rel K Z G σ H e)(h:e[i]?=some (.own b ws)):∃a xs,σ[i]?=some (some (.ref a))/\H a=some (.lst xs)/\G a=none/\(IoOk Z b a)/\Reps K G ws xs:=by
 obtain⟨a,xs,h1,h2,h3,h4,h5⟩:=r.slot i _ h;refine⟨a,xs,?_,h2,h3,h4,h5⟩;cases q:σ[i]? with
 |none=>rw[q]at h1;cases h1
 |some z=>rw[q]at h1;rw[show z=some (V.ref a)from h1]
theorem Rel.fr(r:Rel K Z G σ H e)(h:e[i]?=some (.fr w)):∃v,σ[i]?=some (some v)/\Rep K G w v:=by
 obtain⟨v,h1,h2⟩:=r.slot i _ h;refine⟨v,?_,h2⟩;cases q:σ[i]? with
 |none=>rw[q]at h1;cases h1
 |some z=>rw[q]at h1;rw[show z=some v from h1]
theorem Rel.at(r:Rel K Z G σ H e){s:S}(h:e[i]?=some s)(hs:SlotOk K Z G H s (σ[i]?.getD none)->σ[i]?.getD none=some v):σ[i]?=some (some v):=by
 have h1:=hs (r.slot i _ h);cases q:σ[i]? with
 |none=>rw[q]at h1;cases h1
 |some z=>rw[q]at h1;rw[show z=some v from h1]
theorem Rel.plain(r:Rel K Z G σ H e){k:SK}(h:e[i]?=some (.x k))(hk:k.plain=some w):∃v,σ[i]?=some (some v)/\Rep K G w v:=by
 have q:=r.slot i _ h;cases k with
 |old w'=>cases hk;obtain⟨v,h1,_,h2⟩:=q;exact⟨v,r.at h fun _=>h1,h2⟩
 |new w'=>cases hk;obtain⟨v,h1,h2⟩:=q;exact⟨v,r.at h fun _=>h1,RepN.rep _ h2⟩
 |_=>cases hk
theorem Rel.mut(r:Rel K Z G σ H e){ws':List W}{xs':List V}(h:e[i]?=some (.own b ws))(ha:σ[i]?=some (some (.ref a)))(q:Reps K G ws' xs'):Rel K Z G σ (upd H a (.lst xs')) (e.set i (.own b ws')):=by
 obtain⟨a',xs,h1,h2,h3,h4,h5⟩:=r.own h;rw[ha]at h1;cases h1;have hi:i<e.length:=(w0a.mp h).1;refine⟨fun c o z=>?_,fun j s z=>?_,by simpa using r.len,fun j k b1 b2 w1 w2 c z1 z2 z3 z4=>?_,fun c o z n=>?_,fun c z=>?_,r.gen⟩
 ·rw[q0b (q0l z h3)];exact r.sub c o z
 ·by_cases hj:j=i
  ·subst hj;rw[w0g hi]at z;cases z;exact⟨a,xs',by rw[ha];rfl,q0g,h3,h4,q⟩
  ·rw[w0e (fun z=>hj z.symm)]at z
   have y:=r.slot j s z;cases s with
   |no=>trivial
   |fr w=>exact y
   |own b2 w2=>
    obtain⟨c,ys,y1,y2,y3,y4,y5⟩:=y;refine⟨c,ys,y1,?_,y3,y4,y5⟩;rw[q0b];exact y2;rintro rfl;obtain⟨c',_,z1,_⟩:=r.own z;rw[z1]at y1;cases y1;exact hj (r.dis j i _ _ _ _ _ z h z1 ha)
   |dic kvs=>
    obtain⟨c,y1,y2,y3,y4⟩:=y;refine⟨c,y1,?_,y3,y4⟩;rw[q0b (q0q y2 h2 (q3r rfl))];exact y2
   |thr us w2 vs=>
    obtain⟨t,l,o,xs2,ys,zs,y1,y2,y3,y4,y5,y6⟩:=y;refine⟨t,l,o,xs2,ys,zs,y1,y2,?_,y4,y5,y6⟩;rw[q0b (q0q y3 h2 (fun z=>nomatch z))];exact y3
   |nest wss=>exact NestOk.move y (.refl _) fun l o ys k1 k2 k3=>⟨by rw[q0b (q0q k1 h2 (fun z=>nomatch z))];exact k1,k2,k3⟩
   |x k=>exact XOk.move y (.refl _) fun l o ys k1 k2 k3=>⟨by rw[q0b (q0q k1 h2 (fun z=>nomatch z))];exact k1,k2,k3⟩
   |dw sh ks ws=>exact DwOk.move y (.refl _) fun l o ys k1 k2 k3=>⟨by rw[q0b (q0q k1 h2 (q3a rfl))];exact k1,k2,k3⟩
 ·have old:∀(k:Nat)(bb:Option Nat)(ww:List W),(e.set i (S.own b ws'))[k]?=some (.own bb ww)->∃b' w',e[k]?=some (.own b' w'):=fun k bb ww z=>by
   by_cases hk:k=i
   ·subst hk;exact⟨_,_,h⟩
   ·rw[w0e (fun z=>hk z.symm)]at z;exact⟨_,_,z⟩
  obtain⟨_,_,q1⟩:=old _ _ _ z1;obtain⟨_,_,q2⟩:=old _ _ _ z2;exact r.dis _ _ _ _ _ _ _ q1 q2 z3 z4
 ·by_cases hc:c=a
  ·subst hc;exfalso;rcases h4.io with h4|h4
   ·exact n h4
   ·rw[h4]at z;cases z
  ·rw[q0b hc];exact r.ent c o z n
 ·by_cases hc:c=a
  ·subst hc;rw[q0g];simp
  ·rw[q0b hc];exact r.ion c z
theorem Rel.freeze(r:Rel K Z G σ H e)(h:e[i]?=some (.own none ws)):∃v G',σ[i]?=some (some v)/\Same G G'/\Rep K G' (.lst ws) v/\Rel K Z G' σ H (e.set i (.fr (.lst ws))):=by
 obtain⟨a,xs,h1,h2,h3,h4,h5⟩:=r.own h;have h4:Z.H a=none:=h4;have sg:Same G (upd G a (.lst xs)):=q2t h3 _;have hi:i<e.length:=(w0a.mp h).1;have rp:Rep K (upd G a (.lst xs)) (.lst ws) (.ref a):=⟨a,xs,rfl,SqL.of q0g,Reps.mono sg ws h5⟩;refine⟨.ref a,upd G a (.lst xs),h1,sg,rp,⟨fun c o z=>?_,fun j s z=>?_,by simpa using r.len,fun j k b1 b2 w1 w2 c z1 z2 z3 z4=>?_,r.ent,r.ion,fun c z=>?_⟩⟩
 ·by_cases hc:c=a
  ·subst hc;rw[q0g]at z;cases z;exact h2
  ·rw[q0b hc]at z;exact r.sub c o z
 ·by_cases hj:j=i
  ·subst hj;rw[w0g hi]at z;cases z;exact⟨.ref a,by rw[h1];rfl,rp⟩
  ·rw[w0e (fun z=>hj z.symm)]at z
   have y:=r.slot j s z;cases s with
   |no=>trivial
   |fr w=>
    obtain⟨u,y1,y2⟩:=y;exact⟨u,y1,Rep.mono sg w y2⟩
   |own b2 w2=>
    obtain⟨c,ys,y1,y2,y3,y4,y5⟩:=y;refine⟨c,ys,y1,y2,?_,y4,Reps.mono sg w2 y5⟩;rw[q0b];exact y3;rintro rfl;obtain⟨c',_,z1,_⟩:=r.own z;rw[z1]at y1;cases y1;exact hj (r.dis j i _ _ _ _ _ z h z1 h1)
   |dic kvs=>
    obtain⟨c,y1,y2,y3,y4⟩:=y;refine⟨c,y1,y2,?_,y4⟩;rw[q0b (q0q y2 h2 (q3r rfl))];exact y3
   |thr us w2 vs=>
    obtain⟨t,l,o,xs2,ys,zs,y1,y2,y3,y4,y5,y6,y7,y8⟩:=y;refine⟨t,l,o,xs2,ys,zs,y1,sg _ _ y2,y3,?_,y5,Reps.mono sg us y6,Reps.mono sg w2 y7,Reps.mono sg vs y8⟩;rw[q0b (q0q y3 h2 (fun z=>nomatch z))];exact y4
   |nest wss=>exact NestOk.move y sg fun l o ys k1 k2 k3=>⟨k1,by rw[q0b (q0q k1 h2 (fun z=>nomatch z))];exact k2,k3⟩
   |x k=>exact XOk.move y sg fun l o ys k1 k2 k3=>⟨k1,by rw[q0b (q0q k1 h2 (fun z=>nomatch z))];exact k2,k3⟩
   |dw sh ks ws=>exact DwOk.move y sg fun l o ys k1 k2 k3=>⟨k1,by rw[q0b (q0q k1 h2 (q3a rfl))];exact k2,k3⟩
 ·have old:∀(k:Nat)(bb:Option Nat)(ww:List W),(e.set i (S.fr (W.lst ws)))[k]?=some (.own bb ww)->e[k]?=some (.own bb ww):=fun k bb ww z=>by
   by_cases hk:k=i
   ·subst hk;rw[w0g hi]at z;cases z
   ·rw[w0e (fun z=>hk z.symm)]at z;exact z
  exact r.dis _ _ _ _ _ _ _ (old _ _ _ z1) (old _ _ _ z2) z3 z4
 ·by_cases hc:c=a
  ·subst hc;exact absurd h4 z
  ·rw[q0b hc];exact r.gen c z
def Free(σ:St)(e:List S)(a:Addr):Prop:=∀(j:Nat)(b:Option Nat)(ws:List W),e[j]?=some (.own b ws)->σ[j]?≠some (some (.ref a))
theorem Rel.set(r:Rel K Z G σ H e)(q:Rep K G w v):Rel K Z G (σ.set i (some v)) H (e.set i (.fr w)):=by
 refine⟨r.sub,fun j s z=>?_,by simpa using r.len,fun j k b1 b2 w1 w2 c z1 z2 z3 z4=>?_,r.ent,r.ion,r.gen⟩
 ·by_cases hj:j=i
  ·subst hj
   have hi:j<e.length:=by
    have:=(w0a.mp z).1;simpa using this
   rw[w0g hi]at z;cases z;rw[w0g (by rw[<- r.len];exact hi)];exact⟨v,rfl,q⟩
  ·rw[w0e (fun z=>hj z.symm)]at z |-
   exact r.slot j s z
 ·have old:∀(k:Nat)(bb:Option Nat)(ww:List W),(e.set i (S.fr w))[k]?=some (.own bb ww)->k≠i/\e[k]?=some (.own bb ww):=fun k bb ww z=>by
   by_cases hk:k=i
   ·subst hk
    have hi:k<e.length:=by
     have:=(w0a.mp z).1;simpa using this
    rw[w0g hi]at z;cases z
   ·rw[w0e (fun z=>hk z.symm)]at z;exact⟨hk,z⟩
  obtain⟨n1,q1⟩:=old _ _ _ z1;obtain⟨n2,q2⟩:=old _ _ _ z2;rw[w0e (fun z=>n1 z.symm)]at z3
  rw[w0e (fun z=>n2 z.symm)]at z4
  exact r.dis _ _ _ _ _ _ _ q1 q2 z3 z4
theorem Rel.setOwn(r:Rel K Z G σ H e)(h2:H a=some (.lst xs))(h3:G a=none)(h4:Z.H a=none)(hf:Free σ e a)(q:Reps K G ws xs):Rel K Z G (σ.set i (some (.ref a))) H (e.set i (.own none ws)):=by
 refine⟨r.sub,fun j s z=>?_,by simpa using r.len,fun j k b1 b2 w1 w2 c z1 z2 z3 z4=>?_,r.ent,r.ion,r.gen⟩
 ·by_cases hj:j=i
  ·subst hj
   have hi:j<e.length:=by
    have:=(w0a.mp z).1;simpa using this
   rw[w0g hi]at z;cases z;rw[w0g (by rw[<- r.len];exact hi)];exact⟨a,xs,rfl,h2,h3,h4,q⟩
  ·rw[w0e (fun z=>hj z.symm)]at z |-
   exact r.slot j s z
 ·have both:∀(k:Nat)(bb:Option Nat)(ww:List W),(e.set i (S.own none ws))[k]?=some (.own bb ww)->(σ.set i (some (.ref a)))[k]?=some (some (.ref c))->(k=i/\c=a)\/(k≠i/\e[k]?=some (.own bb ww)/\σ[k]?=some (some (.ref c))/\c≠a):=fun k bb ww z y=>by
   by_cases hk:k=i
   ·subst hk
    have hi:k<e.length:=by
     have:=(w0a.mp z).1;simpa using this
    rw[w0g (by rw[<- r.len];exact hi)]at y;cases y;exact .inl ⟨rfl,rfl⟩
   ·rw[w0e (fun z=>hk z.symm)]at z y
    exact .inr ⟨hk,z,y,fun e=>hf k bb ww z (by rw[y,e])⟩
  rcases both _ _ _ z1 z3 with⟨e1,c1⟩|⟨n1,q1,p1,c1⟩<;>rcases both _ _ _ z2 z4 with⟨e2,c2⟩|⟨n2,q2,p2,c2⟩
  ·rw[e1,e2]
  ·exact absurd c1 c2
  ·exact absurd c2 c1
  ·exact r.dis _ _ _ _ _ _ _ q1 q2 p1 p2
theorem Rel.forget(r:Rel K Z G σ H e){e':List S}(hl:e'.length=e.length)(h:∀(i:Nat)(s:S),e'[i]?=some s->s=.no\/e[i]?=some s):Rel K Z G σ H e':=by
 refine⟨r.sub,fun j s z=>?_,by rw[hl];exact r.len,fun j k b1 b2 w1 w2 c z1 z2 z3 z4=>?_,r.ent,r.ion,r.gen⟩
 ·rcases h j s z with rfl|q
  ·trivial
  ·exact r.slot j s q
 ·rcases h _ _ z1 with q1|q1
  ·cases q1
  ·rcases h _ _ z2 with q2|q2
   ·cases q2
   ·exact r.dis _ _ _ _ _ _ _ q1 q2 z3 z4
inductive R(α:Type) where
 |ok (a:α) (e:List S)|ex (c:Value) (e:List S)|no
noncomputable abbrev Den(α:Type):=List S->R α
variable{dA:Den (List W)}
noncomputable def R.bind{β:Type}:R α->(α->List S->R β)->R β
 |.ok a e,k=>k a e
 |.ex c e,_=>.ex c e
 |.no,_=>.no
def R.holds(r:R α)(P:α->List S->Prop)(E:Value->List S->Prop):Prop:=match r with
 |.ok a e=>P a e
 |.ex c e=>E c e
 |.no=>False
theorem R.holds_bind{β:Type}{r:R α}{k:α->List S->R β}{P:β->List S->Prop}:(r.bind k).holds P E↔r.holds (fun a e=>(k a e).holds P E) E:=by
 cases r<;>rfl
theorem R.holds.imp{r:R α}{P P':α->List S->Prop}{E':Value->List S->Prop}(h:r.holds P E)(p:∀a e,P a e->P' a e)(x:∀c e,E c e->E' c e):r.holds P' E':=by
 cases r with
 |ok a e=>exact p a e h
 |ex c e=>exact x c e h
 |no=>exact h
noncomputable def ofOpt(o:Option α)(e:List S):R α:=match o with
 |some a=>.ok a e
 |none=>.no
theorem ofOpt_holds{o:Option α}{P:α->List S->Prop}:(ofOpt o e).holds P E↔∃a,o=some a/\P a e:=by
 cases o with
 |none=>exact⟨fun h=>h.elim,fun⟨_,h,_⟩=>nomatch h⟩
 |some a=>exact⟨fun h=>⟨a,rfl,h⟩,fun⟨_,h,q⟩=>by cases h;exact q⟩
inductive SR where
 |nx (e:List S)|rt (s:S) (e:List S)|bk (e:List S)|ct (e:List S)|ex (c:Value) (e:List S)|no
section
variable(K:PySem.W.Frag)(Z:Zt)(EE:L2.St->XK)
abbrev XH(σ:St)(G:Hp):Value->List S->Prop:=fun c e'=>∀G' H',Rel K Z G' σ H' e'->Same G G'->EE σ c none H'
def liftE(d:Den W):TE:=fun σ H Q=>AtG K Z σ H fun G e=>(d e).holds (fun w e'=>∀G' v H',Rel K Z G' σ H' e'->Same G G'->Rep K G' w v->Q v H') (XH K Z EE σ G)
def liftA(d:Den (List W)):TA:=fun σ H Q=>AtG K Z σ H fun G e=>(d e).holds (fun ws e'=>∀G' vs H',Rel K Z G' σ H' e'->Same G G'->Reps K G' ws vs->Q vs H') (XH K Z EE σ G)
def liftT(d:Den Bool):TT:=fun σ H Q=>AtG K Z σ H fun G e=>(d e).holds (fun b e'=>∀G' H',Rel K Z G' σ H' e'->Same G G'->Q b H') (XH K Z EE σ G)
def liftF(d:Den (List W)):TE:=fun σ H Q=>AtG K Z σ H fun G e=>(d e).holds (fun ws e'=>∀G' a xs H',Rel K Z G' σ H' e'->Same G G'->H' a=some (.lst xs)->G' a=none->Z.H a=none->Free σ e' a->Reps K G' ws xs->Q (.ref a) H') (XH K Z EE σ G)
def PostS(D:Ends)(G:Hp):SR->Prop
 |.nx e'=>∀G' σ' H',Rel K Z G' σ' H' e'->Same G G'->D.nx σ' H'
 |.bk e'=>∀G' σ' H',Rel K Z G' σ' H' e'->Same G G'->D.bk σ' H'
 |.ct e'=>∀G' σ' H',Rel K Z G' σ' H' e'->Same G G'->D.ct σ' H'
 |.rt s e'=>∀G' σ' v H',Rel K Z G' σ' H' e'->Same G G'->SlotOk K Z G' H' s (some v)->D.rt v H'
 |.ex c e'=>∀G' σ' H',Rel K Z G' σ' H' e'->Same G G'->EE σ' c none H'
 |.no=>False
def liftS(d:List S->SR):TS:=fun D σ H=>AtG K Z σ H fun G e=>PostS K Z EE D G (d e)
end
section
variable(Z:Zt)(X:Cx)(EE:L2.St->XK)
def DE(e:Expr)(d:Den W):Prop:=PE X e (liftE X.K Z EE d)
def DF(e:Expr)(d:Den (List W)):Prop:=PE X e (liftF X.K Z EE d)
def DT(e:Expr)(d:Den Bool):Prop:=PT X e (liftT X.K Z EE d)
def DW(e:Expr)(d:Den Bool):Prop:=PW X e (liftT X.K Z EE d)
def DA(es:List Expr)(d:Den (List W)):Prop:=PA X es (liftA X.K Z EE d)
def DS(st:Stmt)(d:List S->SR):Prop:=PS X st (liftS X.K Z EE d)
def DSs(sts:List Stmt)(d:List S->SR):Prop:=PSs X sts (liftS X.K Z EE d)
end
theorem PE.mono{e:Expr}{t t':TE}(h:PE X e t)(i:∀σ H Q,t' σ H Q->t σ H Q):PE X e t':=fun pins s σ H Q I q=>h pins s σ H Q I (i σ H Q q)
theorem PT.mono{e:Expr}{t t':TT}(h:PT X e t)(i:∀σ H Q,t' σ H Q->t σ H Q):PT X e t':=fun pins s σ H Q I q=>h pins s σ H Q I (i σ H Q q)
theorem PW.mono{e:Expr}{t t':TT}(h:PW X e t)(i:∀σ H Q,t' σ H Q->t σ H Q):PW X e t':=fun wh pins s σ H Q I q=>h wh pins s σ H Q I (i σ H Q q)
theorem PA.mono{t t':TA}(h:PA X es t)(i:∀σ H Q,t' σ H Q->t σ H Q):PA X es t':=fun p pins s σ H Q I q=>h p pins s σ H Q I (i σ H Q q)
theorem PS.mono{t t':TS}(h:PS X st t)(i:∀D σ H,t' D σ H->t D σ H):PS X st t':=fun pins s σ H D I q=>h pins s σ H D I (i D σ H q)
theorem PSs.mono{st:List Stmt}{t t':TS}(h:PSs X st t)(i:∀D σ H,t' D σ H->t D σ H):PSs X st t':=fun pins s σ H D I q=>h pins s σ H D I (i D σ H q)
section
variable(K:PySem.W.Frag)
def Op2(r:R2)(f:W->W->Option W):Prop:=∀(G H:Hp)(x y:V)(wx wy w:W)(Q:VK),Same G H->Rep K G wx x->Rep K G wy y->f wx wy=some w->(∀G' v H',Grow G H G' H'->Rep K G' w v->Q v H')->r x y H Q
def Op1(r:V->Hp->VK->Prop)(f:W->Option W):Prop:=∀(G H:Hp)(x:V)(wx w:W)(Q:VK),Same G H->Rep K G wx x->f wx=some w->(∀G' v H',Grow G H G' H'->Rep K G' w v->Q v H')->r x H Q
def OpN(r:List V->Hp->VK->Prop)(f:List W->Option W):Prop:=∀(G H:Hp)(xs:List V)(ws:List W)(w:W)(Q:VK),Same G H->Reps K G ws xs->f ws=some w->(∀G' v H',Grow G H G' H'->Rep K G' w v->Q v H')->r xs H Q
end
noncomputable def dC(w:W):Den W:=fun e=>.ok w e
noncomputable def dVar(i:Nat):Den W:=fun e=>match e[i]? with
 |some (.fr w)=>.ok w e
 |some (.own none ws)=>.ok (.lst ws) (e.set i (.fr (.lst ws)))
 |some (.x k)=>match k.plain with
  |some w=>.ok w e
  |none=>.no
 |_=>.no
noncomputable def dOp(f:W->W->Option W)(da db:Den W):Den W:=fun e=>(da e).bind fun x e1=>(db e1).bind fun y e2=>ofOpt (f x y) e2
noncomputable def dUn(f:W->Option W)(da:Den W):Den W:=fun e=>(da e).bind fun x e1=>ofOpt (f x) e1
noncomputable def dTest(da:Den W):Den Bool:=fun e=>(da e).bind fun x e1=>match x with
 |.bl k=>.ok k e1
 |_=>.no
noncomputable def truW:W->Option Bool
 |.non=>some false
 |.bl b=>some b
 |.int i=>some (i != 0)
 |.str x=>if x.length<=16777216 then some ((x.length:Int) != 0)else none
 |.tup xs=>some (!xs.isEmpty)
 |.lst xs=>some (!xs.isEmpty)
 |.exc _=>none
 |.dic _=>none
 |.dw _ _ _ _=>none
 |.fn _ _ _=>none
noncomputable def dTru(da:Den W):Den Bool:=fun e=>(da e).bind fun x e1=>ofOpt (truW x) e1
noncomputable def dAnd(a b:Den Bool):Den Bool:=fun e=>(a e).bind fun x e1=>if x=true then b e1 else .ok false e1
noncomputable def dOr(a b:Den Bool):Den Bool:=fun e=>(a e).bind fun x e1=>if x=true then .ok true e1 else b e1
noncomputable def dNot(a:Den Bool):Den Bool:=fun e=>(a e).bind fun x e1=>.ok (!x) e1
noncomputable def dAndV(a b:Den W):Den W:=fun e=>(a e).bind fun x e1=>match x with
 |.bl true=>b e1
 |.bl false=>.ok (.bl false) e1
 |_=>.no
noncomputable def dNil:Den (List W):=fun e=>.ok [] e
noncomputable def dCons(a:Den W)(r:Den (List W)):Den (List W):=fun e=>(a e).bind fun x e1=>(r e1).bind fun xs e2=>.ok (x::xs) e2
noncomputable def dTup(a:Den (List W)):Den W:=fun e=>(a e).bind fun xs e1=>if xs.length<=16777216 then .ok (.tup xs) e1 else .no
noncomputable def dLst(a:Den (List W)):Den (List W):=fun e=>(a e).bind fun xs e1=>if xs.length<=16777216 then .ok xs e1 else .no
noncomputable def dFz(a:Den (List W)):Den W:=fun e=>(a e).bind fun xs e1=>.ok (.lst xs) e1
noncomputable def dFn(f:List W->Option W)(a:Den (List W)):Den W:=fun e=>(a e).bind fun xs e1=>ofOpt (f xs) e1
section
variable{a b c e:Expr}{da db:Den W}{dc ta tb:Den Bool}
theorem XH.trans(s:Same G G1){c:Value}{e:List S}(h:XH K Z EE σ G c e):XH K Z EE σ G1 c e:=fun G' H' r q=>h G' H' r (s.trans q)
theorem q0c{i:Int}{j pos}:DE Z X EE (.Constant (.int i) j pos) (dC (.int i)):=PE.mono q92 fun σ H Q ⟨G,e,r,h⟩=>h G (.int i) H r (.refl _) rfl
theorem q2q{i:Bool}{j pos}:DE Z X EE (.Constant (.bool i) j pos) (dC (.bl i)):=PE.mono y8t fun σ H Q ⟨G,e,r,h⟩=>h G (.bl i) H r (.refl _) rfl
theorem q7m{i:Str}{j pos}:DE Z X EE (.Constant (.str i) j pos) (dC (.str i)):=PE.mono y5j fun σ H Q ⟨G,e,r,h⟩=>h G (.str i) H r (.refl _) rfl
theorem x8f:∀σ H Q,liftE K Z EE (dVar i) σ H Q->tVar i σ H Q:=by
 rintro σ H Q ⟨G,e,r,h⟩;unfold dVar at h;split at h
 ·rename_i w hw;obtain⟨v,h1,h2⟩:=r.fr hw;exact⟨v,h1,h G v H r (.refl _) h2⟩
 ·rename_i ws hw;obtain⟨v,G',h1,h2,h3,h4⟩:=r.freeze hw;exact⟨v,h1,h G' v H h4 h2 h3⟩
 ·rename_i k hw;cases q:k.plain with
  |some w=>
   rw[q]at h;obtain⟨v,h1,h2⟩:=r.plain hw q;exact⟨v,h1,h G v H r (.refl _) h2⟩
  |none=>rw[q]at h;exact h.elim
 ·exact h.elim
theorem dv(i:Nat)(hN:X.N[i]?=some x:=by rfl)(hv:Vis X.env.scope x:=by walk_at "1")(hd:(x==("__debug__":Str))=false:=by decide)
  (hcd:(x==("__classdict__":Str))=false:=by decide):DE Z X EE (.Name x pos) (dVar i):=PE.mono (pv i hN hv hd hcd) x8f
theorem q3k{r:R2}(hf:Op2 K r f):∀σ H Q,liftE K Z EE (dOp f da db) σ H Q->tOp r (liftE K Z EE da) (liftE K Z EE db) σ H Q:=by
 rintro σ H Q ⟨G,e,rel,h⟩;simp only[dOp,R.holds_bind,ofOpt_holds]at h;refine⟨G,e,rel,h.imp (fun x e1 h G1 v1 H1 r1 s1 p1=>?_) fun _ _ h=>h⟩
 refine⟨G1,e1,r1,h.imp (fun y e2 h G2 v2 H2 r2 s2 p2=>?_) fun _ _ h=>XH.trans s1 h⟩
 obtain⟨w,hw,h⟩:=h;exact hf G2 H2 v1 v2 x y w Q r2.sub (Rep.mono s2 x p1) p2 hw fun G' v H' g p=>h G' v H' (r2.grow g) ((s1.trans s2).trans g.gg) p
theorem q6k{op:Operator}{r:R2}(ho:OpR X (binaryOp op) r)(hf:Op2 X.K r f)(ha:DE Z X EE a da)(hb:DE Z X EE b db):DE Z X EE (.BinOp a op b pos) (dOp f da db):=PE.mono (y8w ho ha hb) (q3k hf)
theorem q57{op:CmpOp}{r:R2}(ho:OpR X (compareOp op) r)(hf:Op2 X.K r f)(ha:DE Z X EE a da)(hb:DE Z X EE b db)(hm:behindInMarks op b=false):DE Z X EE (.Compare a [op] [b] pos) (dOp f da db):=PE.mono (y1p ho ha hb hm) (q3k hf)
theorem q4m{Q:Bool->Hp->Prop}(h:liftT K Z EE (dTest da) σ H Q):liftE K Z EE da σ H (fun x H'=>∃k,x=.bl k/\Q k H'):=by
 obtain⟨G,e,rel,h⟩:=h;simp only[dTest,R.holds_bind]at h;refine⟨G,e,rel,h.imp (fun x e1 h G1 v1 H1 r1 s1 p1=>?_) fun _ _ h=>h⟩
 cases x with
 |bl k=>
  cases(show v1=V.bl k from p1);exact⟨k,rfl,h G1 H1 r1 s1⟩
 |_=>exact h.elim
theorem q7n{op:CmpOp}{r:R2}(ho:OpR X (compareOp op) r)(hf:Op2 X.K r f)(ha:DE Z X EE a da)(hb:DE Z X EE b db)(hm:behindInMarks op b=false):DT Z X EE (.Compare a [op] [b] pos) (dTest (dOp f da db)):=
 PT.mono (y1q ho ha hb hm) fun σ H Q h=>q3k hf σ H _ (q4m h)
theorem y1y{r:V->Hp->VK->Prop}{f:W->Option W}(hf:Op1 K r f):∀σ H Q,liftE K Z EE (dUn f da) σ H Q->tUn r (liftE K Z EE da) σ H Q:=by
 rintro σ H Q ⟨G,e,rel,h⟩;simp only[dUn,R.holds_bind,ofOpt_holds]at h;refine⟨G,e,rel,h.imp (fun x e1 h G1 v1 H1 r1 s1 p1=>?_) fun _ _ h=>h⟩
 obtain⟨w,hw,h⟩:=h;exact hf G1 H1 v1 x w Q r1.sub p1 hw fun G' v H' g p=>h G' v H' (r1.grow g) (s1.trans g.gg) p
theorem y80{op:UnaryOp}{r:V->Hp->VK->Prop}{f:W->Option W}(ho:UnR X (unaryOp op) r)(hf:Op1 X.K r f)(ha:DE Z X EE a da):DE Z X EE (.UnaryOp op a pos) (dUn f da):=PE.mono (y8x ho ha) (y1y hf)
theorem y50(s:Same G H){k:Bool}(h:Rep K G w v)(e:truW w=some k):TruV K v H k:=by
 cases w with
 |non=>cases(show v=.non from h);cases e;rfl
 |bl b=>cases(show v=.bl b from h);cases e;rfl
 |int i=>cases(show v=.int i from h);cases e;rfl
 |str x=>
  cases(show v=.str x from h);simp only[truW]at e;split at e
  ·cases e;exact⟨by rw[sizeLine_eq];assumption,rfl⟩
  ·cases e
 |tup ws=>
  obtain⟨p,xs,rfl,q,r⟩:=h;cases e;refine .inr (.inl ⟨xs,s.tup q,?_⟩);have:=r.length;cases ws<;>cases xs<;>simp_all
 |lst ws=>
  obtain⟨p,xs,rfl,q,r⟩:=h;cases e;refine .inl ⟨xs,s.seq q,?_⟩;have:=r.length;cases ws<;>cases xs<;>simp_all
 |exc _=>cases e
 |dic _=>cases e
 |dw _ _ _ _=>cases e
 |fn _ _ _=>cases e
theorem q3b(ha:DE Z X EE a da)(he:∀whole,isTrue a X.env whole=(do let v <- whole;standAt a.pos;holding [v] (truthy v)):=by intro _;rfl):DT Z X EE a (dTru da):=by
 refine PT.mono (x76 ha he) ?_;rintro σ H Q ⟨G,e,rel,h⟩;simp only[dTru,R.holds_bind,ofOpt_holds]at h;refine⟨G,e,rel,h.imp (fun x e1 h G1 v1 H1 r1 s1 p1=>?_) fun _ _ h=>h⟩
 obtain⟨k,hk,h⟩:=h;exact⟨k,y50 r1.sub p1 hk,h G1 H1 r1 s1⟩
theorem x8g:∀σ H Q,liftT K Z EE (dAnd ta tb) σ H Q->tAnd (liftT K Z EE ta) (liftT K Z EE tb) σ H Q:=by
 rintro σ H Q ⟨G,e,rel,h⟩;simp only[dAnd,R.holds_bind]at h;refine⟨G,e,rel,h.imp (fun x e1 h G1 H1 r1 s1=>?_) fun _ _ h=>h⟩
 cases x with
 |true=>exact⟨G1,e1,r1,R.holds.imp (show(tb e1).holds _ _ from h) (fun y e2 h G2 H2 r2 s2=>h G2 H2 r2 (s1.trans s2)) fun _ _ h=>XH.trans s1 h⟩
 |false=>exact(show ∀G' H',_->_->Q false H' from h) G1 H1 r1 s1
theorem y1z:∀σ H Q,liftT K Z EE (dOr ta tb) σ H Q->tOr (liftT K Z EE ta) (liftT K Z EE tb) σ H Q:=by
 rintro σ H Q ⟨G,e,rel,h⟩;simp only[dOr,R.holds_bind]at h;refine⟨G,e,rel,h.imp (fun x e1 h G1 H1 r1 s1=>?_) fun _ _ h=>h⟩
 cases x with
 |false=>exact⟨G1,e1,r1,R.holds.imp (show(tb e1).holds _ _ from h) (fun y e2 h G2 H2 r2 s2=>h G2 H2 r2 (s1.trans s2)) fun _ _ h=>XH.trans s1 h⟩
 |true=>exact(show ∀G' H',_->_->Q true H' from h) G1 H1 r1 s1
theorem y16(ha:DT Z X EE a ta):DW Z X EE (.BoolOp .And [a] pos) ta:=y1k ha
theorem q4y(ha:DT Z X EE a ta):DW Z X EE (.BoolOp .Or [a] pos) ta:=y5k ha
theorem y51{rest:List Expr}(ha:DT Z X EE a ta)(hb:DW Z X EE (.BoolOp .And (b::rest) pos) tb):DW Z X EE (.BoolOp .And (a::b::rest) pos) (dAnd ta tb):=PW.mono (y5l ha hb) x8g
theorem q5g{rest:List Expr}(ha:DT Z X EE a ta)(hb:DW Z X EE (.BoolOp .Or (b::rest) pos) tb):DW Z X EE (.BoolOp .Or (a::b::rest) pos) (dOr ta tb):=PW.mono (y8u ha hb) y1z
theorem dt_w(h:DW Z X EE a ta):DT Z X EE a ta:=PW.pt h
theorem q3c(ha:DT Z X EE a ta):DT Z X EE (.UnaryOp .Not a pos) (dNot ta):=by
 refine PT.mono (y5m ha) ?_;rintro σ H Q ⟨G,e,rel,h⟩;simp only[dNot,R.holds_bind]at h;exact⟨G,e,rel,h.imp (fun x e1 h G1 H1 r1 s1=>h G1 H1 r1 s1) fun _ _ h=>h⟩
theorem y52{op}(h:DE Z X EE a da):DE Z X EE (.BoolOp op [a] pos) da:=y5n h
theorem y53{rest:List Expr}(ha:DE Z X EE a da)(hb:DE Z X EE (.BoolOp .And (b::rest) pos) db):DE Z X EE (.BoolOp .And (a::b::rest) pos) (dAndV da db):=by
 refine PE.mono (y5o ha hb) ?_;rintro σ H Q ⟨G,e,rel,h⟩;simp only[dAndV,R.holds_bind]at h;refine⟨G,e,rel,h.imp (fun x e1 h G1 v1 H1 r1 s1 p1=>?_) fun _ _ h=>h⟩
 cases x with
 |bl k=>
  cases(show v1=V.bl k from p1);cases k with
  |true=>exact⟨true,rfl,⟨G1,e1,r1,R.holds.imp (show(db e1).holds _ _ from h) (fun y e2 h G2 v2 H2 r2 s2 p2=>h G2 v2 H2 r2 (s1.trans s2) p2) fun _ _ h=>XH.trans s1 h⟩⟩
  |false=>exact⟨false,rfl,(show ∀G' v H',_->_->v=V.bl false->Q v H' from h) G1 _ H1 r1 s1 rfl⟩
 |_=>exact h.elim
theorem q0d:DA Z X EE [] dNil:=PA.mono q38 fun σ H Q ⟨G,e,r,h⟩=>h G [] H r (.refl _) rfl
theorem q0a(ha:DE Z X EE e da)(hr:DA Z X EE es dA)(hs:starEach (e::es) X.env=(false,eval e X.env)::starEach es X.env:=by rfl):DA Z X EE (e::es) (dCons da dA):=by
 refine PA.mono (q17 ha hr hs) ?_;rintro σ H Q ⟨G,e,rel,h⟩;simp only[dCons,R.holds_bind]at h;refine⟨G,e,rel,h.imp (fun x e1 h G1 v1 H1 r1 s1 p1=>?_) fun _ _ h=>h⟩
 refine⟨G1,e1,r1,h.imp (fun xs e2 h G2 vs H2 r2 s2 p2=>?_) fun _ _ h=>XH.trans s1 h⟩
 exact h G2 (v1::vs) H2 r2 (s1.trans s2) ⟨v1,vs,rfl,Rep.mono s2 x p1,p2⟩
theorem q3v{x1}(h:DA Z X EE es dA):DE Z X EE (.Tuple es x1 pos) (dTup dA):=by
 refine PE.mono (x47 h) ?_;rintro σ H Q ⟨G,e,rel,h⟩;simp only[dTup,R.holds_bind]at h;refine⟨G,e,rel,h.imp (fun ws e1 h G1 vs H1 r1 s1 p1=>?_) fun _ _ h=>h⟩
 split at h
 ·rename_i hl;refine⟨by rw[p1.length,sizeLine_eq];exact hl,fun p hp=>?_⟩
  have g:=Grow.laid r1.sub hp (.tup vs);exact(show ∀G' v H',_->_->Rep X.K G' (.tup ws) v->Q v H' from h) _ (.ref p) _ (r1.grow g) (s1.trans g.gg) ⟨p,vs,rfl,SqT.of q0g,Reps.mono g.gg ws p1⟩
 ·exact h.elim
theorem q5h{e:List S}(r:Rel K Z G σ H e){p:Addr}(hp:H p=none):Free σ e p:=fun j b ws h q=>by
 obtain⟨a,xs,h1,h2,_⟩:=r.own h;rw[q]at h1;cases h1;rw[hp]at h2;cases h2
theorem q23{e:List S}(r:Rel K Z G σ H e){p:Addr}(hp:H p=none):Z.H p=none:=by
 cases q:Z.H p with
 |none=>rfl
 |some o=>
  by_cases hi:p∈Z.io
  ·exact absurd hp (r.ion p hi)
  ·rw[r.ent p o q hi]at hp;cases hp
theorem q5i{e:List S}{Q:VK}{G0:Hp}(r:Rel K Z G σ H e)(s:Same G0 G)(p1:Reps K G ws vs)
  (h:∀G' a xs H',Rel K Z G' σ H' e->Same G0 G'->H' a=some (.lst xs)->G' a=none->Z.H a=none->Free σ e a->Reps K G' ws xs->Q (.ref a) H'):∀p,H p=none->Q (.ref p) (upd H p (.lst vs)):=fun p hp=>by
 have g:=Grow.hid r.sub hp (.lst vs);exact h G p vs _ (r.grow g) s q0g (r.sub.free hp) (q23 r hp) (q5h r hp) p1
theorem q1y(h:DA Z X EE es dA):DF Z X EE (.List es pos) (dLst dA):=by
 refine PE.mono (y5w h) ?_;rintro σ H Q ⟨G,e,rel,h⟩;simp only[dLst,R.holds_bind]at h;refine⟨G,e,rel,h.imp (fun ws e1 h G1 vs H1 r1 s1 p1=>?_) fun _ _ h=>h⟩
 split at h
 ·rename_i hl;exact⟨by rw[p1.length,sizeLine_eq];exact hl,q5i r1 s1 p1 h⟩
 ·exact h.elim
theorem Rel.seen{e:List S}(r:Rel K Z G σ H e){a:Addr}(h:H a=some (.lst xs))(hg:G a=none)(hz:Z.H a=none)(hf:Free σ e a):Same G (upd G a (.lst xs))/\Rel K Z (upd G a (.lst xs)) σ H e:=by
 have sg:Same G (upd G a (.lst xs)):=q2t hg _;refine⟨sg,⟨fun c o z=>?_,fun j s z=>?_,r.len,r.dis,r.ent,r.ion,fun c z=>?_⟩⟩
 ·by_cases hc:c=a
  ·subst hc;rw[q0g]at z;cases z;exact h
  ·rw[q0b hc]at z;exact r.sub c o z
 ·have y:=r.slot j s z;cases s with
  |no=>trivial
  |fr w=>
   obtain⟨u,y1,y2⟩:=y;exact⟨u,y1,Rep.mono sg w y2⟩
  |own b2 w2=>
   obtain⟨c,ys,y1,y2,y3,y4,y5⟩:=y;refine⟨c,ys,y1,y2,?_,y4,Reps.mono sg w2 y5⟩;rw[q0b];exact y3;rintro rfl;obtain⟨c',_,z1,_⟩:=r.own z;rw[z1]at y1;cases y1;exact hf j b2 w2 z z1
  |dic kvs=>
   obtain⟨c,y1,y2,y3,y4⟩:=y;refine⟨c,y1,y2,?_,y4⟩;rw[q0b (q0q y2 h (q3r rfl))];exact y3
  |thr us w2 vs=>
   obtain⟨t,l,o,xs2,ys,zs,y1,y2,y3,y4,y5,y6,y7,y8⟩:=y;refine⟨t,l,o,xs2,ys,zs,y1,sg _ _ y2,y3,?_,y5,Reps.mono sg us y6,Reps.mono sg w2 y7,Reps.mono sg vs y8⟩;rw[q0b (q0q y3 h (fun z=>nomatch z))];exact y4
  |nest wss=>exact NestOk.move y sg fun l o ys k1 k2 k3=>⟨k1,by rw[q0b (q0q k1 h (fun z=>nomatch z))];exact k2,k3⟩
  |x k=>exact XOk.move y sg fun l o ys k1 k2 k3=>⟨k1,by rw[q0b (q0q k1 h (fun z=>nomatch z))];exact k2,k3⟩
  |dw sh ks ws=>exact DwOk.move y sg fun l o ys k1 k2 k3=>⟨k1,by rw[q0b (q0q k1 h (q3a rfl))];exact k2,k3⟩
 ·by_cases hc:c=a
  ·subst hc;exact absurd hz z
  ·rw[q0b hc];exact r.gen c z
theorem q2e(h:DF Z X EE e dA):DE Z X EE e (dFz dA):=by
 refine PE.mono h ?_;rintro σ H Q ⟨G,e,rel,h⟩;simp only[dFz,R.holds_bind]at h;refine⟨G,e,rel,h.imp (fun ws e1 h G1 a xs H1 r1 s1 q1 q2 q3 q4 p1=>?_) fun _ _ h=>h⟩
 obtain⟨sg,rg⟩:=r1.seen q1 q2 q3 q4;exact(show ∀G' v H',_->_->Rep X.K G' (.lst ws) v->Q v H' from h) _ (.ref a) _ rg (s1.trans sg) ⟨a,xs,rfl,SqL.of q0g,Reps.mono sg ws p1⟩
theorem x2d{f:List W->Option W}(hf:OpN K r f):∀σ H Q,liftE K Z EE (dFn f dA) σ H Q->tCB r (liftA K Z EE dA) σ H Q:=by
 rintro σ H Q ⟨G,e,rel,h⟩;simp only[dFn,R.holds_bind,ofOpt_holds]at h;refine⟨G,e,rel,h.imp (fun ws e1 h G1 vs H1 r1 s1 p1=>?_) fun _ _ h=>h⟩
 obtain⟨w,hw,h⟩:=h;exact hf G1 H1 vs ws w Q r1.sub p1 hw fun G' v H' g p=>h G' v H' (r1.grow g) (s1.trans g.gg) p
theorem q3w{id:String}{f:List W->Option W}(hc:CallR X (.builtin id) r)(hf:OpN X.K r f)(hv:bootBuiltins x=some (.builtin id))(hm:X.mg x=none)(ha:DA Z X EE (e::es) dA)(hg:Gl X x:=by rfl)(hn:x≠"__name__":=by decide)(hdb:(x==("__debug__":Str))=false:=by decide)
  (he:starEach (e::es) X.env=(false,eval e X.env)::starEach es X.env:=by rfl)(hpl:(backTo pos (starEach es X.env)).any (·.1)=false:=by rfl):DE Z X EE (.Call (.Name x p) (e::es) [] pos) (dFn f dA):=
 PE.mono (q64 hc hg hm hv ha hn hdb he hpl) (x2d hf)
theorem x5j{T:String}{f:List W->Option W}(hc:CallR X (.type T) r)(hf:OpN X.K r f)(hv:bootBuiltins x=some (.type T))(hm:X.mg x=none)(ha:DA Z X EE (e::es) dA)(hg:Gl X x:=by rfl)(hn:x≠"__name__":=by decide)(hdb:(x==("__debug__":Str))=false:=by decide)
  (he:starEach (e::es) X.env=(false,eval e X.env)::starEach es X.env:=by rfl)(hpl:(backTo pos (starEach es X.env)).any (·.1)=false:=by rfl):DE Z X EE (.Call (.Name x p) (e::es) [] pos) (dFn f dA):=
 PE.mono (q4l hc hg hm hv ha hn hdb he hpl) (x2d hf)
end
noncomputable def dNx:List S->SR:=fun e=>.nx e
noncomputable def dSeq(a b:List S->SR):List S->SR:=fun e=>match a e with
 |.nx e'=>b e'
 |r=>r
noncomputable def R.stm(r:R α)(k:α->List S->SR):SR:=match r with
 |.ok a e=>k a e
 |.ex c e=>.ex c e
 |.no=>.no
noncomputable def dDrop(d:Den W):List S->SR:=fun e=>(d e).stm fun _ e'=>.nx e'
noncomputable def dRet(d:Den W):List S->SR:=fun e=>(d e).stm fun w e'=>.rt (.fr w) e'
noncomputable def dRetO(i:Nat):List S->SR:=fun e=>match e[i]? with
 |some (.own none ws)=>.rt (.own none ws) e
 |some (.fr w)=>.rt (.fr w) e
 |_=>.no
noncomputable def dIfS(c:Den Bool)(a b:List S->SR):List S->SR:=fun e=>(c e).stm fun x e1=>if x=true then a e1 else b e1
noncomputable def dSet(i:Nat)(d:Den W):List S->SR:=fun e=>(d e).stm fun w e'=>.nx (e'.set i (.fr w))
noncomputable def dSetO(i:Nat)(d:Den (List W)):List S->SR:=fun e=>(d e).stm fun ws e'=>.nx (e'.set i (.own none ws))
noncomputable def forD(i:Nat)(b:List S->SR):List W->List S->SR
 |[],e=>.nx e
 |w::ws,e=>match b (e.set i (.fr w))with
  |.nx e'=>forD i b ws e'
  |.ct e'=>forD i b ws e'
  |.bk e'=>.nx e'
  |.rt s e'=>.rt s e'
  |.ex c e'=>.ex c e'
  |.no=>.no
noncomputable def whileD(c:Den Bool)(b:List S->SR):Nat->List S->SR
 |0,_=>.no
 |n+1,e=>(c e).stm fun x e1=>if x=true then(match b e1 with
  |.nx e'=>whileD c b n e'
  |.ct e'=>whileD c b n e'
  |.bk e'=>.nx e'
  |.rt s e'=>.rt s e'
  |.ex c e'=>.ex c e'
  |.no=>.no)else .nx e1
noncomputable def seqW:W->Option (List W)
 |.tup ws=>some ws
 |.lst ws=>some ws
 |_=>none
noncomputable def dFor(i:Nat)(d:Den W)(b:List S->SR):List S->SR:=fun e=>(d e).stm fun w e1=>match seqW w with
 |some ws=>forD i b ws e1
 |none=>.no
noncomputable def rangeW(lo hi:Int):List W:=(List.range (hi-lo).toNat).map fun k=>.int (lo+(k:Nat))
noncomputable def okI(j:Int):Bool:=Nat.ble j.natAbs 4611686018427387903
theorem q4a{j:Int}(h:okI j=true):-(2^62)<=j/\j<2^62:=by
 have z:j.natAbs<=4611686018427387903:=Nat.le_of_ble_eq_true h;have e:(2:Int)^62=4611686018427387904:=by decide
 rw[e];omega
theorem q18{j:Int}(h1:-1000000000<=j)(h2:j<=1000000000):okI j=true:=Nat.ble_eq_true_of_le (by omega)
noncomputable def rng1:List W->Option (List W)
 |[.int j]=>if okI j=true then some (rangeW 0 j)else none
 |_=>none
noncomputable def rng2:List W->Option (List W)
 |[.int i,.int j]=>if okI i=true/\okI j=true then some (rangeW i j)else none
 |_=>none
noncomputable def dForR(i:Nat)(g:List W->Option (List W))(d:Den (List W))(b:List S->SR):List S->SR:=fun e=>(d e).stm fun w e1=>match g w with
 |some ws=>forD i b ws e1
 |none=>.no
section
variable{a c e tg:Expr}{rest body:List Stmt}{d:Den W}{dc:Den Bool}{s1 s2:List S->SR}
theorem PostS.trans{D:Ends}(s:Same G G1):∀{r:SR},PostS K Z EE D G r->PostS K Z EE D G1 r
 |.nx e',h=>fun G' σ' H' r q=>h G' σ' H' r (s.trans q)
 |.bk e',h=>fun G' σ' H' r q=>h G' σ' H' r (s.trans q)
 |.ct e',h=>fun G' σ' H' r q=>h G' σ' H' r (s.trans q)
 |.rt w e',h=>fun G' σ' v H' r q=>h G' σ' v H' r (s.trans q)
 |.ex c e',h=>fun G' σ' H' r q=>h G' σ' H' r (s.trans q)
 |.no,h=>h
theorem q0r{D:Ends}{r:R α}{k:α->List S->SR}(h:PostS K Z EE D G (r.stm k)):r.holds (fun a e'=>PostS K Z EE D G (k a e')) (XH K Z EE σ G):=by
 cases r with
 |ok a e=>exact h
 |ex c e=>exact fun G' H' r q=>h G' σ H' r q
 |no=>exact h
theorem q0u:DSs Z X EE [] dNx:=PSs.mono y1l fun D σ H ⟨G,e,r,h⟩=>h G σ H r (.refl _)
theorem x8h:∀D σ H,liftS K Z EE (dSeq s1 s2) D σ H->tSeq (liftS K Z EE s1) (liftS K Z EE s2) D σ H:=by
 rintro D σ H ⟨G,e,rel,h⟩;refine⟨G,e,rel,?_⟩;unfold dSeq at h;cases q:s1 e with
 |nx e'=>rw[q]at h;exact fun G' σ' H' r s=>⟨G',e',r,PostS.trans s h⟩
 |bk e'=>rw[q]at h;exact h
 |ct e'=>rw[q]at h;exact h
 |rt w e'=>rw[q]at h;exact h
 |ex c e'=>rw[q]at h;exact h
 |no=>rw[q]at h;exact h
theorem q0e(h1:DS Z X EE st s1)(h2:DSs Z X EE rest s2):DSs Z X EE (st::rest) (dSeq s1 s2):=PSs.mono (q63 h1 h2) x8h
theorem q0f(h1:DS Z X EE st s1):DSs Z X EE [st] s1:=q8b h1
theorem x2e(he:DE Z X EE e d)(hs:swapsWith e none pos.line X.env=pure false:=by rfl):DS Z X EE (.Expr e pos) (dDrop d):=by
 refine PS.mono (q4x he hs) ?_;rintro D σ H ⟨G,e,rel,h⟩;exact⟨G,e,rel,(q0r h).imp (fun w e1 h G1 v1 H1 r1 s1 p1=>h G1 σ H1 r1 s1) fun _ _ h=>h⟩
theorem q0w(he:DE Z X EE e d):DS Z X EE (.Return (some e) pos) (dRet d):=by
 refine PS.mono (q52 he) ?_;rintro D σ H ⟨G,e,rel,h⟩;exact⟨G,e,rel,(q0r h).imp (fun w e1 h G1 v1 H1 r1 s1 p1=>h G1 σ v1 H1 r1 s1 ⟨v1,rfl,p1⟩) fun _ _ h=>h⟩
theorem x2f(i:Nat)(hN:X.N[i]?=some x:=by rfl)(hv:Vis X.env.scope x:=by walk_at "1")(hd:(x==("__debug__":Str))=false:=by decide)
  (hcd:(x==("__classdict__":Str))=false:=by decide):DS Z X EE (.Return (some (.Name x p)) pos) (dRetO i):=by
 refine PS.mono (q52 (pv i hN hv hd hcd)) ?_;rintro D σ H ⟨G,e,rel,h⟩;unfold dRetO at h;split at h
 ·rename_i ws hw;obtain⟨a,xs,h1,h2,h3,h4,h5⟩:=rel.own hw;exact⟨.ref a,h1,h G σ _ H rel (.refl _) ⟨a,xs,rfl,h2,h3,h4,h5⟩⟩
 ·rename_i w hw;obtain⟨v,h1,h2⟩:=rel.fr hw;exact⟨v,h1,h G σ _ H rel (.refl _) ⟨v,rfl,h2⟩⟩
 ·exact h.elim
theorem x8i:∀D σ H,liftS K Z EE (dIfS dc s1 s2) D σ H->tIfS (liftT K Z EE dc) (liftS K Z EE s1) (liftS K Z EE s2) D σ H:=by
 rintro D σ H ⟨G,e,rel,h⟩;refine⟨G,e,rel,(q0r h).imp (fun x e1 h G1 H1 r1 q1=>?_) fun _ _ h=>h⟩
 cases x with
 |true=>exact⟨G1,e1,r1,PostS.trans q1 h⟩
 |false=>exact⟨G1,e1,r1,PostS.trans q1 h⟩
theorem q1e{p q:List Stmt}(hc:DT Z X EE c dc)(ha:DSs Z X EE p s1)(hb:DSs Z X EE q s2):DS Z X EE (.If c p q pos) (dIfS dc s1 s2):=PS.mono (y8v hc ha hb) x8i
theorem q0j(i:Nat)(hN:X.N.Nodup)(he:DE Z X EE e d)(hi:X.N[i]?=some x:=by rfl)(hx:Loc X.env.scope x:=by walk_at "3")(hs:swapsWith e (some (.Name x pos')) pos.line X.env=pure false:=by rfl)(hf:X.fn x=true\/X.env.scope.names.lookup x=some .local:=by walk_at "2"):
  DS Z X EE (.Assign [.Name x pos'] e pos) (dSet i d):=by
 refine PS.mono (q7l i hN he hi hx hs hf) ?_;rintro D σ H ⟨G,e,rel,h⟩;exact⟨G,e,rel,(q0r h).imp (fun w e1 h G1 v1 H1 r1 q1 p1=>h G1 _ H1 (r1.set p1) q1) fun _ _ h=>h⟩
theorem q4z(i:Nat)(hN:X.N.Nodup)(he:DF Z X EE e dA)(hi:X.N[i]?=some x:=by rfl)(hx:Loc X.env.scope x:=by walk_at "3")(hs:swapsWith e (some (.Name x pos')) pos.line X.env=pure false:=by rfl)(hf:X.fn x=true\/X.env.scope.names.lookup x=some .local:=by walk_at "2"):
  DS Z X EE (.Assign [.Name x pos'] e pos) (dSetO i dA):=by
 refine PS.mono (q7l i hN he hi hx hs hf) ?_;rintro D σ H ⟨G,e,rel,h⟩;exact⟨G,e,rel,(q0r h).imp (fun w e1 h G1 a xs H1 r1 s1 q1 q2 q3 q4 p1=>h G1 _ H1 (r1.setOwn q1 q2 q3 q4 p1) s1) fun _ _ h=>h⟩
theorem q5j(n:Nat)(hp:PassesOwn (model X.prog X.w) X.A X.env X.xe)(hc:DT Z X EE c dc)(hb:DSs Z X EE body s1):DS Z X EE (.While c body [] pos) (whileD dc s1 n):=by
 refine PS.mono (x74 hp hc hb) ?_;rintro D σ H ⟨G,e,rel,h⟩;refine⟨fun m σ' H'=>∃G' e',Rel X.K Z G' σ' H' e'/\Same G G'/\PostS X.K Z EE D G (whileD dc s1 m e'),⟨n,G,e,rel,.refl _,h⟩,?_⟩
 rintro m σ1 H1 ⟨G1,e1,r1,q1,h⟩;cases m with
 |zero=>exact h.elim
 |succ m=>
  refine⟨G1,e1,r1,(q0r (σ:=σ1) h).imp (fun x e2 h G2 H2 r2 q2=>?_) fun _ _ h=>XH.trans q1 h⟩
  cases x with
  |false=>exact h G2 σ1 H2 r2 (q1.trans q2)
  |true=>
   refine⟨fun σ' H'=>∃G' e',Rel X.K Z G' σ' H' e'/\Same G G'/\PostS X.K Z EE D G (whileD dc s1 m e'),fun σ' H' q=>⟨m,Nat.lt_succ_self _,q⟩,⟨G2,e2,r2,?_⟩⟩
   have sg:=q1.trans q2;have h:PostS X.K Z EE D G (match s1 e2 with|.nx e'=>whileD dc s1 m e'|.ct e'=>whileD dc s1 m e'|.bk e'=>.nx e'|.rt s e'=>.rt s e'|.ex c e'=>.ex c e'|.no=>.no):=h;cases q:s1 e2 with
   |nx e'=>rw[q]at h;exact fun G' σ' H' r s=>⟨G',e',r,sg.trans s,h⟩
   |ct e'=>rw[q]at h;exact fun G' σ' H' r s=>⟨G',e',r,sg.trans s,h⟩
   |bk e'=>rw[q]at h;exact fun G' σ' H' r s=>h G' σ' H' r (sg.trans s)
   |rt w e'=>rw[q]at h;exact fun G' σ' v H' r s=>h G' σ' v H' r (sg.trans s)
   |ex c e'=>rw[q]at h;exact fun G' σ' H' r s=>h G' σ' H' r (sg.trans s)
   |no=>rw[q]at h;exact h
theorem x8j{D:Ends}{x:V}{N:St->Hp->Prop}(r1:Rel K Z G1 σ H e1)(q1:Same G G1)(p:Rep K G1 w x)(h:PostS K Z EE D G (forD i s1 (w::ws) e1))
  (hN:∀G' σ' H' e',Rel K Z G' σ' H' e'->Same G G'->PostS K Z EE D G (forD i s1 ws e')->N σ' H'):gName i x σ H fun σ2 H2=>liftS K Z EE s1 {D with nx:=N,ct:=N,bk:=D.nx} σ2 H2:=by
 refine⟨G1,e1.set i (.fr w),r1.set p,?_⟩;unfold forD at h;cases q:s1 (e1.set i (.fr w))with
 |nx e'=>rw[q]at h;exact fun G' σ' H' r s=>hN G' σ' H' e' r (q1.trans s) h
 |ct e'=>rw[q]at h;exact fun G' σ' H' r s=>hN G' σ' H' e' r (q1.trans s) h
 |bk e'=>rw[q]at h;exact fun G' σ' H' r s=>h G' σ' H' r (q1.trans s)
 |rt w e'=>rw[q]at h;exact fun G' σ' v H' r s=>h G' σ' v H' r (q1.trans s)
 |ex c e'=>rw[q]at h;exact fun G' σ' H' r s=>h G' σ' H' r (q1.trans s)
 |no=>rw[q]at h;exact h
def iSeq(K:PySem.W.Frag)(tl:TE):TI:=fun σ H R=>tl σ H fun x H1=>∃a,x=.ref a/\(((∃xs,SqL K H1 a xs)/\R (Itl K a) H1)\/((∃xs,SqT K H1 a xs)/\R (Itt K a) H1))
theorem q7o{l:Expr}{tl:TE}(hl:PE X l tl):PI X tg l (iSeq X.K tl):=by
 intro pins s σ H R I h;refine thn (hl pins s σ H _ I h) fun v s1 ⟨x,H1,I1,r1,q1⟩=>?_
 obtain⟨a,e,q⟩:=q1;subst e;cases r1;rcases q with⟨⟨xs,hq⟩,q⟩|⟨⟨xs,hq⟩,q⟩
 ·obtain⟨its,rv,p,hz⟩:=I1.list hq;refine wpAny_pyIter_list p.isList ?_;refine⟨s1.heap.objs.size,[s1.heap.objs.size],_,_,H1,rfl,I1.kept (t':=s1.toks) fun b o e=>Heap.get?_push_of_some _ e,x4z a _,⟨_,Heap.get?_push_size _ rfl,rfl,rfl⟩,fun b hb=>?_,q⟩
  have e:b=s1.heap.objs.size:=by simpa using hb
  subst e;exact I1.fpOk (w0i _) (I1.hok.fresh (w0i _))
 ·obtain⟨its,rv,p,hz⟩:=I1.tuple hq;refine wpAny_pyIter_tuple (show s1.heap.IsTuple a its.toArray from p) ?_;refine⟨s1.heap.objs.size,[s1.heap.objs.size],_,_,H1,rfl,I1.kept (t':=s1.toks) fun b o e=>Heap.get?_push_of_some _ e,x3i a _,⟨_,Heap.get?_push_size _ rfl,rfl,rfl⟩,fun b hb=>?_,q⟩
  have e:b=s1.heap.objs.size:=by simpa using hb
  subst e;exact I1.fpOk (w0i _) (I1.hok.fresh (w0i _))
theorem q83{ws:List α}{w:α}(h:ws[k]?=some w):ws.drop k=w::ws.drop (k+1):=by
 obtain⟨hk,rfl⟩:=w0a.mp h;exact w2d hk
theorem x2g{i:Nat}{D:Ends}(r1:Rel K Z G1 σ H1 e1)(rp:Reps K G1 ws xs)(h:PostS K Z EE D G1 (forD i s1 ws e1))(SQ:Hp->Prop)(hSQ:∀G' H',Same G1 G'->Same G' H'->SQ H'):
  ∃Pv:Nat->St->Hp->Prop,Pv 0 σ H1/\(∀j σ H,j<=xs.length->Pv j σ H->SQ H)/\(∀(j:Nat) x σ H,xs[j]?=some x->Pv j σ H->gName i x σ H fun σ2 H2=>liftS K Z EE s1 {D with nx:=Pv (j+1),ct:=Pv (j+1),bk:=D.nx} σ2 H2)/\∀σ H,Pv xs.length σ H->D.nx σ H:=by
 refine⟨fun j σ' H'=>∃G' e',Rel K Z G' σ' H' e'/\Same G1 G'/\PostS K Z EE D G1 (forD i s1 (ws.drop j) e'),⟨G1,e1,r1,.refl _,h⟩,?_,?_,?_⟩
 ·rintro j σ' H' _ ⟨G',e',r',s',_⟩;exact hSQ G' H' s' r'.sub
 ·rintro j x σ' H' hx ⟨G',e',r',s',h⟩;obtain⟨w,hw,pw⟩:=rp.getV hx;rw[q83 hw]at h;exact x8j r' s' (Rep.mono s' w pw) h fun G'' σ'' H'' e'' r'' s'' h''=>⟨G'',e'',r'',s'',h''⟩
 ·rintro σ' H' ⟨G',e',r',s',h⟩;rw[rp.length,w2o]at h;exact h G' σ' H' r' s'
theorem x5k(i:Nat)(hN:X.N.Nodup)(hp:PassesOwn (model X.prog X.w) X.A X.env X.xe)(hc:X.calm=true)(hl:DE Z X EE e d)(hb:DSs Z X EE body s1)
  (hi:X.N[i]?=some x:=by rfl)(hx:Loc X.env.scope x:=by walk_at "3")(hf:X.fn x=true\/X.env.scope.names.lookup x=some .local:=by walk_at "2")(hs:∀x,foldedSetIterable e X.env x=pure x:=by intro _;rfl):
  DS Z X EE (.For (.Name x pos') e body [] pos) (dFor i d s1):=by
 refine PS.mono (q53 hp hc (q7o hl) (q27 i hN hi hx hf) hb hs) ?_;rintro D σ H ⟨G,e,rel,h⟩;refine⟨G,e,rel,(q0r h).imp (fun w e1 h G1 v1 H1 r1 q1 p1=>?_) fun _ _ h=>h⟩
 have key:=fun ws xs (rp:Reps X.K G1 ws xs) (h:PostS X.K Z EE D G (forD i s1 ws e1))=>x2g (i:=i) (D:=D) r1 rp (PostS.trans q1 h)
 cases w with
 |tup ws=>
  obtain⟨a,xs,rfl,hq,rp⟩:=p1;refine⟨a,rfl,.inr ⟨⟨xs,r1.sub.tup hq⟩,?_⟩⟩;obtain⟨Pv,h0,h1,h2,h3⟩:=key ws xs rp h (fun H'=>SqT X.K H' a xs) (fun G' H' s s'=>Same.tup s' (Same.tup s hq))
  exact y1n Pv h0 h1 h2 h3
 |lst ws=>
  obtain⟨a,xs,rfl,hq,rp⟩:=p1;refine⟨a,rfl,.inl ⟨⟨xs,r1.sub.seq hq⟩,?_⟩⟩;obtain⟨Pv,h0,h1,h2,h3⟩:=key ws xs rp h (fun H'=>SqL X.K H' a xs) (fun G' H' s s'=>Same.seq s' (Same.seq s hq))
  exact q95 Pv h0 h1 h2 h3
 |_=>exact h.elim
theorem x3p{lo hi:Int}:Reps K G (rangeW lo hi) ((List.range (hi-lo).toNat).map fun k=>V.int (lo+(k:Nat))):=by
 unfold rangeW;generalize List.range (hi-lo).toNat=l
 induction l with
 |nil=>rfl
 |cons k l ih=>exact⟨_,_,rfl,rfl,ih⟩
theorem x2h{i:Nat}{D:Ends}{lo hi:Int}(r1:Rel K Z G1 σ H1 e1)(h:PostS K Z EE D G1 (forD i s1 (rangeW lo hi) e1)):
  ∃W:Nat->Nat->St->Hp->Prop,(∃m,W 0 m σ H1)/\∀j m σ H,W j m σ H ->
   ((Itr lo (hi-lo).toNat).stop j H/\D.nx σ H)\/((Itr lo (hi-lo).toNat).go j H/\∃N:St->Hp->Prop,(∀σ' H',N σ' H'->∃m',m'<m/\W (j+1) m' σ' H')/\∀x H',(Itr lo (hi-lo).toNat).yld j H x H'->gName i x σ H' fun σ2 H2=>liftS K Z EE s1 {D with nx:=N,ct:=N,bk:=D.nx} σ2 H2):=by
 obtain⟨Pv,h0,h1,h2,h3⟩:=x2g (i:=i) (D:=D) r1 (x3p (lo:=lo) (hi:=hi)) h (fun _=>True) (fun _ _ _ _=>trivial)
 refine x43 Pv h0 (fun j σ' H' hj p=>h2 j _ σ' H' ?_ p) (fun σ' H' p=>h3 σ' H' (by simpa using p))
 simp[hj]
theorem q3l(i:Nat){p1 p2:Pos}(hN:X.N.Nodup)(hp:PassesOwn (model X.prog X.w) X.A X.env X.xe)(hc:X.calm=true)(hm:X.mg "range"=none)(ha:DA Z X EE [a] dA)(hb:DSs Z X EE body s1)
  (hi:X.N[i]?=some x:=by rfl)(hx:Loc X.env.scope x:=by walk_at "3")(hf:X.fn x=true\/X.env.scope.names.lookup x=some .local:=by walk_at "2")(hg:Gl X "range":=by rfl)(hs1:starEach [a] X.env=[(false,eval a X.env)]:=by rfl)(hs:∀x,foldedSetIterable (.Call (.Name "range" p1) [a] [] p2) X.env x=pure x:=by intro _;rfl):
  DS Z X EE (.For (.Name x p) (.Call (.Name "range" p1) [a] [] p2) body [] pos) (dForR i rng1 dA s1):=by
 refine PS.mono (q53 hp hc (x40 hg hm ha hs1) (q27 i hN hi hx hf) hb hs) ?_;rintro D σ H ⟨G,e,rel,h⟩;refine⟨G,e,rel,(q0r h).imp (fun ws e1 h G1 vs H1 r1 q1 p1=>?_) fun _ _ h=>h⟩
 unfold rng1 at h;split at h
 ·rename_i hh;split at hh
  ·rename_i j;split at hh
   ·rename_i hj;cases hh;obtain⟨y,r,rfl,e1,e2⟩:=p1;cases(show y=V.int j from e1);cases(show r=[]from e2);refine⟨j,rfl,(q4a hj).1,(q4a hj).2,?_⟩;have z:=x2h (i:=i) (D:=D) r1 (PostS.trans q1 h)
    rwa [Int.sub_zero]at z
   ·cases hh
  ·cases hh
 ·exact h.elim
theorem x2i(i:Nat){p1 p2:Pos}(hN:X.N.Nodup)(hp:PassesOwn (model X.prog X.w) X.A X.env X.xe)(hc:X.calm=true)(hm:X.mg "range"=none)(ha:DA Z X EE [a,c] dA)(hb:DSs Z X EE body s1)
  (hi:X.N[i]?=some x:=by rfl)(hx:Loc X.env.scope x:=by walk_at "3")(hf:X.fn x=true\/X.env.scope.names.lookup x=some .local:=by walk_at "2")(hg:Gl X "range":=by rfl)(hs1:starEach [a,c] X.env=[(false,eval a X.env),(false,eval c X.env)]:=by rfl)(hs2:starEach [c] X.env=[(false,eval c X.env)]:=by rfl)(hs:∀x,foldedSetIterable (.Call (.Name "range" p1) [a,c] [] p2) X.env x=pure x:=by intro _;rfl):
  DS Z X EE (.For (.Name x p) (.Call (.Name "range" p1) [a,c] [] p2) body [] pos) (dForR i rng2 dA s1):=by
 refine PS.mono (q53 hp hc (x41 hg hm ha hs1 hs2) (q27 i hN hi hx hf) hb hs) ?_;rintro D σ H ⟨G,e,rel,h⟩;refine⟨G,e,rel,(q0r h).imp (fun ws e1 h G1 vs H1 r1 q1 p1=>?_) fun _ _ h=>h⟩
 unfold rng2 at h;split at h
 ·rename_i hh;split at hh
  ·rename_i j k;split at hh
   ·rename_i hj;cases hh;obtain⟨y,r,rfl,e1,y2,r2,rfl,e2,e3⟩:=p1;cases(show y=V.int j from e1);cases(show y2=V.int k from e2);cases(show r2=[]from e3);exact⟨j,k,rfl,⟨(q4a hj.1).1,(q4a hj.1).2,(q4a hj.2).1,(q4a hj.2).2⟩,x2h (i:=i) (D:=D) r1 (PostS.trans q1 h)⟩
   ·cases hh
  ·cases hh
 ·exact h.elim
end
open PyProof.Rows (envOfC)
inductive FR where
 |ok (s:S)|ex (c:Value)|no
noncomputable def spF(K:PySem.W.Frag)(F:List W->FR):Sp:=fun vs H Q E=>∃G ws,Same G H/\Reps K G ws vs/\match F ws with
 |.ok s=>∀G' H' v,Grow G H G' H'->SlotOk K ⟨H,G,[]⟩ G' H' s (some v)->Q v H'
 |.ex c=>∀H',Same H H'->E c none H'
 |.no=>False
noncomputable def SR.fn:SR->FR
 |.nx _=>.ok (.fr .non)
 |.rt s _=>.ok s
 |.ex c _=>.ex c
 |_=>.no
noncomputable def init(n:Nat)(ws:List W):List S:=ws.map .fr++List.replicate (n-ws.length) .no
theorem q66{N:List Str}(s:Same G H)(r:Reps K G ws vs):Rel K ⟨H,G,[]⟩ G (L2.start N vs) H (init N.length ws):=by
 have hl:=r.length
 have hfr:∀(i:Nat)(s:S),(init N.length ws)[i]?=some s->(s=.no)\/∃w,s=.fr w/\ws[i]?=some w:=fun i s h=>by
  unfold init at h;rw[List.getElem?_append]at h;split at h
  ·rw[w0f]at h;obtain⟨w,h1,rfl⟩:=w0b.mp h;exact .inr ⟨w,rfl,h1⟩
  ·rw[w2i]at h;split at h
   ·cases h;exact .inl rfl
   ·cases h
 refine⟨s,fun i t h=>?_,?_,fun i j b b' w1 w2 a h1 h2 _ _=>?_,fun a o h _=>h,(fun a h=>nomatch h),fun a _=>rfl⟩
 ·rcases hfr i t h with rfl|⟨w,rfl,h1⟩
  ·trivial
  ·obtain⟨v,h2,h3⟩:=r.get h1;refine⟨v,?_,h3⟩;have hi:i<vs.length:=(w0a.mp h2).1;unfold L2.start;rw[w2c (by simpa using hi),w0f,h2];rfl
 ·unfold init L2.start;simp[hl]
 ·rcases hfr i _ h1 with z|⟨w,z,_⟩<;>cases z
theorem Rel.toGrow(r:Rel K ⟨H,G,[]⟩ G' σ H' e)(s:Same G G'):Grow G H G' H':=
 ⟨fun a o h=>r.ent a o h (by simp),s,r.sub,fun a h=>r.gen a h⟩
section
variable{P:Program}{w:World}{mg:Str->Option Value}{base:Heap}
theorem q7p{F:List W->FR}{Q:VK}{E:XK}(h:spF K F vs H Q E):∃G ws,F ws≠.no/\Reps K G ws vs:=by
 obtain⟨G,ws,_,r,h⟩:=h;refine⟨G,ws,fun z=>?_,r⟩
 rw[z]at h;exact h
theorem q8e{F:List W->FR}{Q:VK}{E:XK}{r:SR}(he:r.fn=F ws)(h:match F ws with
  |.ok s=>∀G' H' v,Grow G H G' H'->SlotOk K ⟨H,G,[]⟩ G' H' s (some v)->Q v H'
  |.ex c=>∀H',Same H H'->E c none H'
  |.no=>False):PostS K ⟨H,G,[]⟩ (fun _=>E) {nx:=fun _ H'=>Q .non H',rt:=Q} G r:=by
 rw[<- he]at h;cases r with
 |nx e=>exact fun G' σ' H' r s=>h G' H' .non (r.toGrow s) ⟨.non,rfl,rfl⟩
 |rt s e=>exact fun G' σ' v H' r q p=>h G' H' v (r.toGrow q) p
 |ex c e=>exact fun G' σ' H' r s=>h H' (r.toGrow s).hh
 |bk e=>exact h.elim
 |ct e=>exact h.elim
 |no=>exact h.elim
theorem con{N ps:List Str}{F:List W->FR}(A:At K mg x st ps)(sc:FnScope N ps (defScope st))(len:∀ws,F ws≠.no->ws.length=ps.length)
  (hb:∀ws,F ws≠.no->∀(f:Addr)(cdv:Value)(A:Around)(outer:List Env)(s:Shared)(H:Hp)(E:XK)(Z:Zt),Room k (A.deeper (envOfC x (defScope st) s.heap.objs.size f cdv)) ->
   ∃d,DSs Z (cxOf (CX1 P w) P w K mg base N x (defScope st) f cdv A outer s H E) (fun _=>E) (defBody st) d/\(d (init N.length ws)).fn=F ws):Cal P w K mg base (k+1) x ps (spF K F):=by
 refine A.cal sc (fun vs H Q E h=>?_) (fun f cdv A outer s H vs Q E hr h=>?_)
 ·obtain⟨G,ws,hn,r⟩:=q7p h;rw[r.length];exact len ws hn
 ·have hn0:=h;obtain⟨G,ws,sg,rp,h⟩:=h;have hn:F ws≠.no:=fun z=>by rw[z]at h;exact h
  obtain⟨d,hd,he⟩:=hb ws hn f cdv A outer s H E ⟨H,G,[]⟩ hr;exact⟨_,hd,G,init N.length ws,q66 sg rp,q8e he h⟩
end
noncomputable def dCall(F:List W->FR)(dA:Den (List W)):Den W:=fun e=>(dA e).bind fun ws e1=>match F ws with
 |.ok (.fr w)=>.ok w e1
 |.ok (.own none ws')=>.ok (.lst ws') e1
 |.ok (.dic kvs)=>.ok (.dic kvs) e1
 |.ok (.thr us ws vs)=>.ok (.tup (us++.lst ws::vs)) e1
 |.ok (.x (.new w))=>.ok w e1
 |.ok (.x (.tn us wss))=>.ok (.tup (us++[.lst (wss.map .lst)])) e1
 |.ex c=>.ex c e1
 |_=>.no
section
variable{e:Expr}{ps:List Str}{F:List W->FR}
theorem q99{s:S}(r1:Rel K Z G1 σ H1 e1)(g:Grow G1 H1 G' H')(q:SlotOk K ⟨H1,G1,[]⟩ G' H' s (some v))(hs:s=.fr w\/∃ws,s=.own none ws/\w=.lst ws):
  ∃G'',Rel K Z G'' σ H' e1/\Same G1 G''/\Rep K G'' w v:=by
 rcases hs with rfl|⟨ws,rfl,rfl⟩
 ·obtain⟨u,h1,h2⟩:=q;cases h1;exact⟨G',r1.grow g,g.gg,h2⟩
 ·obtain⟨a,xs,h1,h2,h3,h4,h5⟩:=q;cases h1;have hn:H1 a=none:=h4;obtain⟨sg,rg⟩:=(r1.grow g).seen h2 h3 (q23 r1 hn) (q5h r1 hn);exact⟨_,rg,g.gg.trans sg,⟨a,xs,rfl,SqL.of q0g,Reps.mono sg ws h5⟩⟩
theorem x5l{kvs:Dd}(r1:Rel K Z G1 σ H1 e1)(g:Grow G1 H1 G' H')(q:SlotOk K ⟨H1,G1,[]⟩ G' H' (.dic kvs) (some v)):
  ∃G'',Rel K Z G'' σ H' e1/\Same G1 G''/\Rep K G'' (.dic kvs) v:=by
 obtain⟨a,h1,h2,h3,h4⟩:=q;cases h1;have hn:H1 a=none:=h4;have r:=r1.grow g;have sg:Same G' (upd G' a (dO kvs)):=q2t h3 _;refine⟨upd G' a (dO kvs),⟨fun c o z=>?_,fun j s z=>?_,r.len,r.dis,r.ent,r.ion,fun c z=>?_⟩,g.gg.trans sg,⟨a,rfl,q0g⟩⟩
 ·by_cases hc:c=a
  ·subst hc;rw[q0g]at z;cases z;exact h2
  ·rw[q0b hc]at z;exact r.sub c o z
 ·have y:=r.slot j s z;have y1:=r1.slot j s z;cases s with
  |no=>trivial
  |fr w=>
   obtain⟨u,y1,y2⟩:=y;exact⟨u,y1,Rep.mono sg w y2⟩
  |own b2 w2=>
   obtain⟨c,ys,x1,x2,x3,x4,x5⟩:=y;refine⟨c,ys,x1,x2,?_,x4,Reps.mono sg w2 x5⟩;rw[q0b (q0q x2 h2 (fun z=>q3r rfl z.symm))];exact x3
  |dic kv=>
   obtain⟨c,x1,x2,x3,x4⟩:=y;obtain⟨c',w1,w2,_⟩:=y1;rw[x1]at w1;cases w1;refine⟨c,x1,x2,?_,x4⟩;rw[q0b (q0l w2 hn)];exact x3
  |thr us w2 vs=>
   obtain⟨t,l,o,xs2,ys,zs,x1,x2,x3,x4,x5,x6,x7,x8⟩:=y;refine⟨t,l,o,xs2,ys,zs,x1,sg _ _ x2,x3,?_,x5,Reps.mono sg us x6,Reps.mono sg w2 x7,Reps.mono sg vs x8⟩;rw[q0b (q0q x3 h2 (fun z=>q3r rfl z.symm))];exact x4
  |nest wss=>exact NestOk.move y sg fun l o ys k1 k2 k3=>⟨k1,by rw[q0b (q0q k1 h2 (fun z=>q3r rfl z.symm))];exact k2,k3⟩
  |x k=>exact XOk.move y sg fun l o ys k1 k2 k3=>⟨k1,by rw[q0b (q0q k1 h2 (fun z=>q3r rfl z.symm))];exact k2,k3⟩
  |dw sh ks ws=>
   obtain⟨c,kv,ka,x1,x2,x3,x4,x5,x6,x7⟩:=y;obtain⟨c',kv',ka',w1,w2,_⟩:=y1;rw[x1]at w1;cases w1;refine⟨c,kv,ka,x1,x2,?_,x4,x5,x6.mono sg,x7.move sg fun _ _ _ z=>z⟩
   rw[q0b (q0l w2 hn)];exact x3
 ·by_cases hc:c=a
  ·subst hc;exact absurd (q23 r1 hn) z
  ·rw[q0b hc];exact r.gen c z
theorem x5m{us vs:List W}(r1:Rel K Z G1 σ H1 e1)(g:Grow G1 H1 G' H')(q:SlotOk K ⟨H1,G1,[]⟩ G' H' (.thr us ws vs) (some v)):
  ∃G'',Rel K Z G'' σ H' e1/\Same G1 G''/\Rep K G'' (.tup (us++.lst ws::vs)) v:=by
 obtain⟨t,l,o,xs,ys,zs,h1,h2,h3,h4,h5,h6,h7,h8⟩:=q;cases h1;have hn:H1 l=none:=h5;have r:=r1.grow g;have sg:Same G' (upd G' l (.frz o (.lst ys))):=q2t h4 _;refine⟨upd G' l (.frz o (.lst ys)),⟨fun c u z=>?_,fun j s z=>?_,r.len,r.dis,r.ent,r.ion,fun c z=>?_⟩,g.gg.trans sg,⟨t,_,rfl,SqT.of (sg _ _ h2),(Reps.mono sg us h6).append ⟨.ref l,zs,rfl,⟨l,ys,rfl,.inl (.inr ⟨o,q0g⟩),Reps.mono sg ws h7⟩,Reps.mono sg vs h8⟩⟩⟩
 ·by_cases hc:c=l
  ·subst hc;rw[q0g]at z;cases z;exact h3
  ·rw[q0b hc]at z;exact r.sub c u z
 ·have y:=r.slot j s z;have y1:=r1.slot j s z;cases s with
  |no=>trivial
  |fr w=>
   obtain⟨u,y1,y2⟩:=y;exact⟨u,y1,Rep.mono sg w y2⟩
  |own b2 w2=>
   obtain⟨c,ys,x1,x2,x3,x4,x5⟩:=y;refine⟨c,ys,x1,x2,?_,x4,Reps.mono sg w2 x5⟩;rw[q0b (q0q x2 h3 (fun z=>nomatch z))];exact x3
  |dic kv=>
   obtain⟨c,x1,x2,x3,x4⟩:=y;refine⟨c,x1,x2,?_,x4⟩;rw[q0b (q0q x2 h3 (q3r rfl))];exact x3
  |thr us w2 vs=>
   obtain⟨t1,l1,o1,xs1,ys1,zs1,w1,w2',w3,w4,w5,w6,w7,w8⟩:=y1;have sg2:=g.gg.trans sg;refine⟨t1,l1,o1,xs1,ys1,zs1,w1,sg2 _ _ w2',g.hh _ _ w3,?_,w5,Reps.mono sg2 us w6,Reps.mono sg2 w2 w7,Reps.mono sg2 vs w8⟩;rw[q0b (q0l w3 hn),g.new l1 (by rw[w3];simp)];exact w4
  |nest wss=>exact NestOk.move y1 (g.gg.trans sg) fun l1 o ys k1 k2 k3=>⟨g.hh _ _ k1,by rw[q0b (q0l k1 hn),g.new l1 (by rw[k1];simp)];exact k2,k3⟩
  |x k=>exact XOk.move y1 (g.gg.trans sg) fun l1 o ys k1 k2 k3=>⟨g.hh _ _ k1,by rw[q0b (q0l k1 hn),g.new l1 (by rw[k1];simp)];exact k2,k3⟩
  |dw sh ks ws=>exact DwOk.move y1 (g.gg.trans sg) fun l1 o ys k1 k2 k3=>⟨g.hh _ _ k1,by rw[q0b (q0l k1 hn),g.new l1 (by rw[k1];simp)];exact k2,k3⟩
 ·by_cases hc:c=l
  ·subst hc;exact absurd (q23 r1 hn) z
  ·rw[q0b hc];exact r.gen c z
theorem NestIn.mem0:∀{ls:List Addr}{wss:List (List W)},NestIn K Z G H ls wss->∀l∈ls,∃o ys,FzAt Z G H l o ys
 |[],_,_,_,hl=>nomatch hl
 |l::ls,ws::wss,⟨⟨o,ys,h1,_⟩,h⟩,c,hc=>by
  rcases w0j.mp hc with rfl|hc
  ·exact⟨o,ys,h1⟩
  ·exact h.mem0 c hc
 |_::_,[],h,_,_=>h.elim
theorem NestIn.reps0(sg:Same G G'):∀{ls:List Addr}{wss:List (List W)},(∀l∈ls,G' l=H l)->NestIn K Z G H ls wss->Reps K G' (wss.map W.lst) (ls.map V.ref)
 |[],[],_,_=>rfl
 |l::ls,ws::wss,hf,⟨⟨o,ys,h1,h4⟩,h⟩=>⟨.ref l,ls.map V.ref,rfl,⟨l,ys,rfl,.inl (.inr ⟨o,by rw[hf l (by simp)];exact h1.1⟩),Reps.mono sg ws h4⟩,h.reps0 sg fun c hc=>hf c (by simp[hc])⟩
 |[],_::_,_,h=>h.elim
 |_::_,[],_,h=>h.elim
theorem Rel.addNew(r1:Rel K Z G1 σ H1 e1)(g:Grow G1 H1 G' H')(As:List Addr) [DecidablePred (·∈As)](hA:∀c∈As,(∃o ys,H' c=some (.frz o (.lst ys)))/\G' c=none/\H1 c=none):
  Same G' (fun c=>if c∈As then H' c else G' c)/\Rel K Z (fun c=>if c∈As then H' c else G' c) σ H' e1:=by
 have sg:Same G' (fun c=>if c∈As then H' c else G' c):=fun c o z=>by
  show(if c∈As then H' c else G' c)=some o;rw[if_neg (fun m=>by rw[(hA c m).2.1]at z;cases z)];exact z
 refine⟨sg,r1.grow ⟨g.hh,g.gg.trans sg,fun c o z=>?_,fun c hc=>?_⟩⟩
 ·have z:(if c∈As then H' c else G' c)=some o:=z;split at z
  ·exact z
  ·exact g.sub c o z
 ·show(if c∈As then H' c else G' c)=G1 c;rw[if_neg (fun m=>hc (hA c m).2.2)];exact g.new c hc
theorem x8k{us:List W}{wss:List (List W)}(r1:Rel K Z G1 σ H1 e1)(g:Grow G1 H1 G' H')(q:SlotOk K ⟨H1,G1,[]⟩ G' H' (.x (.tn us wss)) (some v)):
  ∃G'',Rel K Z G'' σ H' e1/\Same G1 G''/\Rep K G'' (.tup (us++[.lst (wss.map .lst)])) v:=by
 classical
 obtain⟨t,l,o,ls,xs,h1,h2,⟨h3,h4,h5⟩,⟨h6,h7⟩,h8,h9⟩:=q;cases h1
 obtain⟨sg,r2⟩:=r1.addNew g (l::ls) fun c hc=>by
  rcases w0j.mp hc with rfl|hc
  ·exact⟨⟨o,_,h3⟩,h4,h5⟩
  ·obtain⟨o',ys,k1,k2,k3⟩:=h9.mem0 c hc;exact⟨⟨o',ys,k1⟩,k2,k3⟩
 refine⟨_,r2,g.gg.trans sg,t,_,rfl,SqT.of (sg _ _ h2),(Reps.mono sg us h8).append ⟨.ref l,[],rfl,⟨l,_,rfl,.inl (.inr ⟨o,?_⟩),h9.reps0 sg fun c hc=>if_pos (w0m _ hc)⟩,rfl⟩⟩
 show(if l∈l::ls then H' l else G' l)=_;rw[if_pos (w0s ..)];exact h3
theorem y01{c:Value}(r1:Rel K Z G1 σ H1 e1)(s1:Same G G1)(h:XH K Z EE σ G c e1):∀H',Same H1 H'->EE σ c none H':=fun H' sh=>
 h G1 H' (r1.grow ⟨sh,.refl _,r1.sub.trans sh,fun _ _=>rfl⟩) s1
theorem q03(C:Cal X.prog X.w X.K X.mg X.base k x ps (spF X.K F))(hr:Room k X.A)(hx:PassX (CX1 X.prog X.w) X EE)(ha:DA Z X EE (e::es) dA)(hg:Gl X x:=by rfl)
  (hdb:(x==("__debug__":Str))=false:=by decide)(he:starEach (e::es) X.env=(false,eval e X.env)::starEach es X.env:=by rfl)(hpl:(backTo pos (starEach es X.env)).any (·.1)=false:=by rfl):
  DE Z X EE (.Call (.Name x p) (e::es) [] pos) (dCall F dA):=by
 refine PE.mono (q98 C hr hx ha hg hdb he hpl) ?_;rintro σ H Q ⟨G,e,rel,h⟩;simp only[dCall,R.holds_bind]at h;refine⟨G,e,rel,h.imp (fun ws e1 h G1 vs H1 r1 s1 p1=>?_) fun _ _ h=>h⟩
 refine⟨G1,ws,r1.sub,by rw[w1r];exact p1,?_⟩;cases q:F ws with
 |ok s=>
  rw[q]at h;intro G' H' v g sl;cases s with
  |no=>exact h.elim
  |fr w=>
   obtain⟨G'',r2,s2,p2⟩:=q99 r1 g sl (.inl rfl);exact(show ∀G' v H',_->_->Rep X.K G' w v->Q v H' from h) G'' v H' r2 (s1.trans s2) p2
  |own b ws'=>
   cases b with
   |some _=>exact h.elim
   |none=>
    obtain⟨G'',r2,s2,p2⟩:=q99 r1 g sl (.inr ⟨ws',rfl,rfl⟩);exact(show ∀G' v H',_->_->Rep X.K G' (.lst ws') v->Q v H' from h) G'' v H' r2 (s1.trans s2) p2
  |dic kvs=>
   obtain⟨G'',r2,s2,p2⟩:=x5l r1 g sl;exact(show ∀G' v H',_->_->Rep X.K G' (.dic kvs) v->Q v H' from h) G'' v H' r2 (s1.trans s2) p2
  |thr us ws' vs'=>
   obtain⟨G'',r2,s2,p2⟩:=x5m r1 g sl;exact(show ∀G' v H',_->_->Rep X.K G' (.tup (us++.lst ws'::vs')) v->Q v H' from h) G'' v H' r2 (s1.trans s2) p2
  |nest _=>exact h.elim
  |x k=>
   cases k with
   |new w=>
    obtain⟨u,h1,h2⟩:=sl;cases h1;exact(show ∀G' v H',_->_->Rep X.K G' w v->Q v H' from h) G' _ H' (r1.grow g) (s1.trans g.gg) (RepN.rep _ h2)
   |tn us wss=>
    obtain⟨G'',r2,s2,p2⟩:=x8k r1 g sl;exact(show ∀G' v H',_->_->Rep X.K G' (.tup (us++[.lst (wss.map .lst)])) v->Q v H' from h) G'' v H' r2 (s1.trans s2) p2
   |_=>exact h.elim
  |dw _ _ _=>exact h.elim
 |ex c=>
  rw[q]at h;exact y01 r1 s1 h
 |no=>rw[q]at h;exact h.elim
noncomputable def dRaise(C:Addr)(d:Den (List W)):List S->SR:=fun e=>(d e).stm fun ws e1=>if ws.length<=16777216 then .ex (.ref C) e1 else .no
theorem q5k{C Ac:Addr}{np cpos:Pos}(hx:RaisX X EE)(hC:excIn X.K C Ac=true)(hm:X.mg x=some (.ref C))(hc:X.calm=true)(ha:DA Z X EE (e::es) dA)(hg:Gl X x:=by rfl)
  (hdb:(x==("__debug__":Str))=false:=by decide)(he:starEach (e::es) X.env=(false,eval e X.env)::starEach es X.env:=by rfl)(hpl:(backTo cpos (starEach es X.env)).any (·.1)=false:=by rfl):
  DS Z X EE (.Raise (some (.Call (.Name x np) (e::es) [] cpos)) none pos) (dRaise C dA):=by
 refine PS.mono (x8b hx hc hg hm hC ha hdb he hpl) ?_;rintro D σ H ⟨G,e,rel,h⟩;refine⟨G,e,rel,(q0r h).imp (fun ws e1 h G1 vs H1 r1 s1 p1=>?_) fun _ _ h=>h⟩
 split at h
 ·rename_i hl;exact⟨by rw[p1.length,sizeLine_eq];exact hl,h G1 σ H1 r1 s1⟩
 ·exact h.elim
end
end D
namespace L2
open PySem PySem.Spec PyProof.Rows
def rCatS(K:PySem.W.Frag):R2:=fun x y H Q=>∃l b xs zs,x=.ref l/\y=.ref b/\SqL K H l xs/\SqL K H b zs/\xs.length+zs.length<=sizeLine/\∀p,H p=none->Q (.ref p) (upd H p (.lst (xs++zs)))
theorem y17{X:Cx}:OpR X (binaryOp .Add) (rCatS X.K):=by
 intro pins s σ H x y v u Q I rx ry h;obtain⟨l,b,xs,zs,rfl,rfl,h1,h2,hz,q⟩:=h;cases rx;cases ry;obtain⟨its,r1,p1,_⟩:=I.list h1;obtain⟨its2,r2,p2,_⟩:=I.list h2;obtain⟨⟨cls,dd,data,sl⟩,ho,hc,n,hd⟩:=id p1.isList;obtain⟨⟨cls2,dd2,data2,sl2⟩,ho2,hc2,n2,hd2⟩:=id p2.isList;simp only at hc hd hc2 hd2;subst hc hd hc2 hd2;have l1:=r1.length;have l2:=r2.length;refine concat_meets ⟨_,ho,rfl⟩ ⟨_,ho2,rfl⟩ noFill_list_add seq_list_add PySem.F.slot_list_add PySem.F.entry_list_add (PySem.F.args_list_add_2 _ _) (list_addW l b its.toArray its2.toArray n n2 dd dd2 sl sl2 (by simp only[w0h];omega)) ⟨ho,ho2,?_⟩;have ea:its.toArray++its2.toArray=(its++its2).toArray:=by simp
 rw[ea];exact⟨.ref _,_,I.lnew (t':=s.toks) (r1.append r2) (by rw[w1b];omega),rfl,q _ I.fresh⟩
end L2
namespace D
open PySem L2
variable{a:Addr}{A:Around}{vs ys:Array Value}{b:Bool}{X:Cx}{dA p:Den (List W)}{c cc:Den Bool}{d da db:Den W}{h h':Heap}{G G1 H:Hp}{J:It}{EE:L2.St->XK}{pins:List (Addr×Obj)}{ps:List (W×W)}{elts es:List Expr}{js:List Nat}{e pe:List S}{q s1:List S->SR}{xs:List V}{out us ws:List W}{i j k kt n:Nat}{pos:Pos}{P:Program}{K:PySem.W.Frag}{s:Shared}{σ:St}{x y:Str}{α:Type}{v v':V}{cv u u':Value}{w w':W}{f:W->W->Option W}{Z:Zt}
noncomputable def addW:W->W->Option W
 |.int i,.int j=>some (.int (i+j))
 |.str x,.str y=>if x.length+y.length<=16777216 then some (.str (x++y))else none
 |.tup xs,.tup ys=>if xs≠[]/\xs.length+ys.length<=16777216 then some (.tup (xs++ys))else none
 |.lst xs,.lst ys=>if xs.length+ys.length<=16777216 then some (.lst (xs++ys))else none
 |_,_=>none
noncomputable def subW:W->W->Option W
 |.int i,.int j=>some (.int (i-j))
 |_,_=>none
noncomputable def mulW:W->W->Option W
 |.int i,.int j=>if(-(2^64)<i/\i<2^64)\/(-(2^64)<j/\j<2^64)then some (.int (i*j))else none
 |_,_=>none
noncomputable def fdivW:W->W->Option W
 |.int i,.int j=>if 0<j/\j<1073741824 then some (.int (i / j))else none
 |_,_=>none
noncomputable def modW:W->W->Option W
 |.int i,.int j=>if 0<j then some (.int (i%j))else none
 |_,_=>none
noncomputable def ltW:W->W->Option W
 |.int i,.int j=>some (.bl (decide (i<j)))
 |_,_=>none
noncomputable def leW:W->W->Option W
 |.int i,.int j=>some (.bl (decide (i<=j)))
 |_,_=>none
noncomputable def gtW:W->W->Option W
 |.int i,.int j=>some (.bl (decide (j<i)))
 |_,_=>none
noncomputable def negW:W->Option W
 |.int i=>some (.int (-i))
 |_=>none
theorem y54:Op2 K (fun x y H Q=>rI0 (fun i j=>.int (i+j)) x y H Q\/((∃i j,x=.str i/\y=.str j/\i.length+j.length<=sizeLine/\Q (.str (i++j)) H)\/(rCatT K x y H Q\/rCatS K x y H Q))) addW:=by
 intro G H x y wx wy w Q s px py hf h;unfold addW at hf;split at hf
 ·cases hf;cases px;cases py;exact .inl ⟨_,_,rfl,rfl,h G _ H (.refl s) rfl⟩
 ·split at hf
  ·rename_i hl;cases hf;cases px;cases py;exact .inr (.inl ⟨_,_,rfl,rfl,by rw[sizeLine_eq];exact hl,h G _ H (.refl s) rfl⟩)
  ·cases hf
 ·rename_i us ws;split at hf
  ·rename_i hl;cases hf;obtain⟨a,xs,rfl,ha,ra⟩:=px;obtain⟨b,ys,rfl,hb,rb⟩:=py;have l1:=ra.length;have l2:=rb.length;refine .inr (.inr (.inl ⟨a,b,xs,ys,rfl,rfl,s.tup ha,s.tup hb,fun z=>hl.1 ?_,by rw[l1,l2,sizeLine_eq];exact hl.2,fun z=>?_,fun z p hp=>?_⟩))
   ·subst z;cases us with
    |nil=>rfl
    |cons _ _=>simp at l1
   ·subst z
    have:ws=[]:=by cases ws with
     |nil=>rfl
     |cons _ _=>simp at l2
    subst this;exact h G _ H (.refl s) ⟨a,xs,rfl,ha,by simpa using ra⟩
   ·have g:=Grow.laid s hp (.tup (xs++ys));exact h _ _ _ g ⟨p,_,rfl,SqT.of q0g,Reps.append (Reps.mono g.gg _ ra) (Reps.mono g.gg _ rb)⟩
  ·cases hf
 ·split at hf
  ·rename_i hl;cases hf;obtain⟨a,xs,rfl,ha,ra⟩:=px;obtain⟨b,ys,rfl,hb,rb⟩:=py;have l1:=ra.length;have l2:=rb.length;refine .inr (.inr (.inr ⟨a,b,xs,ys,rfl,rfl,s.seq ha,s.seq hb,by rw[l1,l2,sizeLine_eq];exact hl,fun p hp=>?_⟩))
   have g:=Grow.laid s hp (.lst (xs++ys));exact h _ _ _ g ⟨p,_,rfl,SqL.of q0g,Reps.append (Reps.mono g.gg _ ra) (Reps.mono g.gg _ rb)⟩
  ·cases hf
 ·cases hf
theorem y55:Op2 K (rI0 fun i j=>.int (i-j)) subW:=by
 intro G H x y wx wy w Q s px py hf h;unfold subW at hf;split at hf
 ·cases hf;cases px;cases py;exact⟨_,_,rfl,rfl,h G _ H (.refl s) rfl⟩
 ·cases hf
theorem y56:Op2 K (rI CMul fun i j=>.int (i*j)) mulW:=by
 intro G H x y wx wy w Q s px py hf h;unfold mulW at hf;split at hf
 ·split at hf
  ·rename_i hc;cases hf;cases px;cases py;exact⟨_,_,rfl,rfl,hc,h G _ H (.refl s) rfl⟩
  ·cases hf
 ·cases hf
theorem y18:Op2 K (rI CDiv fun i j=>.int (i / j)) fdivW:=by
 intro G H x y wx wy w Q s px py hf h;unfold fdivW at hf;split at hf
 ·split at hf
  ·rename_i hc;cases hf;cases px;cases py;exact⟨_,_,rfl,rfl,hc,h G _ H (.refl s) rfl⟩
  ·cases hf
 ·cases hf
theorem y57:Op2 K (rI (fun _ j=>0<j) fun i j=>.int (i%j)) modW:=by
 intro G H x y wx wy w Q s px py hf h;unfold modW at hf;split at hf
 ·split at hf
  ·rename_i hc;cases hf;cases px;cases py;exact⟨_,_,rfl,rfl,hc,h G _ H (.refl s) rfl⟩
  ·cases hf
 ·cases hf
theorem x3q:Op2 K (rI0 fun i j=>.bl (decide (i<j))) ltW:=by
 intro G H x y wx wy w Q s px py hf h;unfold ltW at hf;split at hf
 ·cases hf;cases px;cases py;exact⟨_,_,rfl,rfl,h G _ H (.refl s) rfl⟩
 ·cases hf
theorem y02:Op2 K (rI0 fun i j=>.bl (decide (i<=j))) leW:=by
 intro G H x y wx wy w Q s px py hf h;unfold leW at hf;split at hf
 ·cases hf;cases px;cases py;exact⟨_,_,rfl,rfl,h G _ H (.refl s) rfl⟩
 ·cases hf
theorem y03:Op2 K (rI0 fun i j=>.bl (decide (j<i))) gtW:=by
 intro G H x y wx wy w Q s px py hf h;unfold gtW at hf;split at hf
 ·cases hf;cases px;cases py;exact⟨_,_,rfl,rfl,h G _ H (.refl s) rfl⟩
 ·cases hf
theorem y58:Op1 K (rU fun i=>.int (-i)) negW:=by
 intro G H x wx w Q s px hf h;unfold negW at hf;split at hf
 ·cases hf;cases px;exact⟨_,rfl,h G _ H (.refl s) rfl⟩
 ·cases hf
mutual
noncomputable def eqW:W->W->Option Bool
 |.non,.non=>some true
 |.non,.bl _=>some false|.non,.int _=>some false|.non,.str _=>some false|.non,.tup _=>some false|.non,.lst _=>some false
 |.bl a,.bl b=>some (a==b)
 |.bl a,.int b=>some ((if a then 1 else 0)==b)
 |.bl _,.non=>some false|.bl _,.str _=>some false|.bl _,.tup _=>some false|.bl _,.lst _=>some false
 |.int a,.int b=>some (a==b)
 |.int a,.bl b=>some (a==(if b then 1 else 0))
 |.int _,.non=>some false|.int _,.str _=>some false|.int _,.tup _=>some false|.int _,.lst _=>some false
 |.str a,.str b=>some (a==b)
 |.str _,.non=>some false|.str _,.bl _=>some false|.str _,.int _=>some false|.str _,.tup _=>some false|.str _,.lst _=>some false
 |.tup _,.non=>some false|.tup _,.bl _=>some false|.tup _,.int _=>some false|.tup _,.str _=>some false|.tup _,.lst _=>some false
 |.lst _,.non=>some false|.lst _,.bl _=>some false|.lst _,.int _=>some false|.lst _,.str _=>some false|.lst _,.tup _=>some false
 |.tup xs,.tup ys=>eqWs xs ys
 |.lst xs,.lst ys=>eqWs xs ys
 |.exc _,_=>none
 |_,.exc _=>none
 |.dic _,_=>none
 |_,.dic _=>none
 |.dw _ _ _ _,_=>none
 |.fn _ _ _,_=>none
 |_,.dw _ _ _ _=>none
 |_,.fn _ _ _=>none
noncomputable def eqWs:List W->List W->Option Bool
 |[],[]=>some true
 |[],_::_=>some false
 |_::_,[]=>some false
 |x::xs,y::ys=>match eqW x y,eqWs xs ys with
  |some a,some b=>some (a&&b)
  |_,_=>none
end
noncomputable def ixW:W->W->Option W
 |.tup ws,.int i=>atI ws i
 |.lst ws,.int i=>atI ws i
 |.str z,.int i=>if z.length<=16777216 then(atI z.cps.toList i).map fun c=>.str ⟨#[c]⟩else none
 |_,_=>none
theorem Reps.atI{i:Int}(r:Reps K G ws xs)(h:L2.atI ws i=some w):∃x,L2.atI xs i=some x/\Rep K G w x:=by
 unfold L2.atI at h |-
 rw[r.length];cases q:ixN ws.length i with
 |none=>rw[q]at h;cases h
 |some j=>
  rw[q]at h;exact r.get h
theorem y04:Op2 K (rIx K) ixW:=by
 intro G H x y wx wy w Q s px py hf h;unfold ixW at hf;split at hf
 ·obtain⟨a,xs,rfl,ha,ra⟩:=px;cases py;obtain⟨v,hv,rv⟩:=ra.atI hf;exact .inr (.inl ⟨a,xs,_,v,rfl,rfl,s.tup ha,hv,h G v H (.refl s) rv⟩)
 ·obtain⟨a,xs,rfl,ha,ra⟩:=px;cases py;obtain⟨v,hv,rv⟩:=ra.atI hf;exact .inl ⟨a,xs,_,v,rfl,rfl,s.seq ha,hv,h G v H (.refl s) rv⟩
 ·cases px;cases py;split at hf
  ·rename_i hl;obtain⟨c,hc,rfl⟩:=w0b.mp hf;exact .inr (.inr ⟨_,_,c,rfl,rfl,by rw[sizeLine_eq];exact hl,hc,h G _ H (.refl s) rfl⟩)
  ·cases hf
 ·cases hf
noncomputable def S.look:S->Option W
 |.fr w=>some w
 |.own _ ws=>some (.lst ws)
 |.no=>none
 |.dic _=>none
 |.thr _ _ _=>none
 |.nest _=>none
 |.x k=>k.look
 |.dw _ _ _=>none
noncomputable def dIxV(i:Nat)(d:Den W):Den W:=fun e=>match e[i]?.bind S.look with
 |none=>.no
 |some _=>(d e).bind fun k e1=>match e1[i]?.bind S.look with
  |none=>.no
  |some w=>ofOpt (ixW w k) e1
noncomputable def lenW:W->Option W
 |.str z=>if z.length<=16777216 then some (.int z.length)else none
 |.tup ws=>some (.int ws.length)
 |.lst ws=>some (.int ws.length)
 |_=>none
noncomputable def len1:List W->Option W
 |[w]=>lenW w
 |_=>none
theorem y59:OpN K (fun xs H Q=>∃x n,xs=[x]/\LenV K x H n/\Q (.int n) H) len1:=by
 intro G H xs ws w Q s pr hf h;unfold len1 at hf;split at hf
 ·obtain⟨x,r,rfl,px,pr⟩:=pr;cases(show r=[]from pr);unfold lenW at hf;split at hf
  ·split at hf
   ·rename_i hl;cases hf;cases px;exact⟨_,_,rfl,⟨by rw[sizeLine_eq];exact hl,rfl⟩,h G _ H (.refl s) rfl⟩
   ·cases hf
  ·cases hf;obtain⟨a,xs,rfl,ha,ra⟩:=px;exact⟨_,_,rfl,.inr ⟨xs,s.tup ha,rfl⟩,h G _ H (.refl s) (by rw[ra.length];rfl)⟩
  ·cases hf;obtain⟨a,xs,rfl,ha,ra⟩:=px;exact⟨_,_,rfl,.inl ⟨xs,s.seq ha,rfl⟩,h G _ H (.refl s) (by rw[ra.length];rfl)⟩
  ·cases hf
 ·cases hf
noncomputable def scalW:W->Bool
 |.non=>true|.bl _=>true|.int _=>true|.str _=>true|_=>false
section
variable{a b e:Expr}{p:Pos}
theorem q0i(ha:DE Z X EE a d)(hb:DE Z X EE b db)(hs:PlainIx b:=by intro _ _;rfl):DE Z X EE (.Subscript a b pos) (dOp ixW d db):=PE.mono (x3m x49 ha hb hs) (q3k y04)
theorem Rel.look{e:List S}(r:Rel K Z G σ H e)(h:e[i]?.bind S.look=some w):∃v,σ[i]?=some (some v) /\
  (Rep K G w v\/∃ws a xs u,(∀z,e[i]?≠some (.fr z))/\w=.lst ws/\v=.ref a/\H a=some u/\(u=.lst xs\/∃o,u=.frz o (.lst xs))/\G a=none/\Reps K G ws xs):=by
 obtain⟨s,h1,h2⟩:=w1v.mp h;cases s with
 |no=>cases h2
 |dic _=>cases h2
 |thr _ _ _=>cases h2
 |nest _=>cases h2
 |dw _ _ _=>cases h2
 |fr w'=>
  cases h2;obtain⟨v,h3,h4⟩:=r.fr h1;exact⟨v,h3,.inl h4⟩
 |x k=>
  have q:=r.slot i _ h1;cases k with
  |old w'=>cases h2;obtain⟨v,h1',h3⟩:=r.plain h1 rfl;exact⟨v,h1',.inl h3⟩
  |new w'=>cases h2;obtain⟨v,h1',h3⟩:=r.plain h1 rfl;exact⟨v,h1',.inl h3⟩
  |acc ws=>cases h2;obtain⟨a,o,xs,k1,⟨k2,k3,_⟩,k5⟩:=q;exact⟨.ref a,r.at h1 fun _=>k1,.inr ⟨ws,a,xs,_,(fun z y=>by rw[h1]at y;cases y),rfl,rfl,k2,.inr ⟨o,rfl⟩,k3,RepNs.reps _ k5⟩⟩
  |_=>cases h2
 |own b ws=>
  cases h2;obtain⟨a,xs,h3,h4,h5,h6,h7⟩:=r.own h1;exact⟨.ref a,h3,.inr ⟨ws,a,xs,_,(fun z y=>by rw[h1]at y;cases y),rfl,rfl,h4,.inl rfl,h5,h7⟩⟩
theorem x5n(i:Nat)(hb:DE Z X EE b d)(hN:X.N[i]?=some x:=by rfl)(hv:Vis X.env.scope x:=by walk_at "1")(hd:(x==("__debug__":Str))=false:=by decide)
  (hcd:(x==("__classdict__":Str))=false:=by decide)(hs:PlainIx b:=by intro _ _;rfl):DE Z X EE (.Subscript (.Name x p) b pos) (dIxV i d):=by
 refine PE.mono (x3m x49 (pv i hN hv hd hcd) hb hs) ?_;rintro σ H Q ⟨G,e,rel,h⟩;unfold dIxV at h;split at h
 ·exact h.elim
 ·rename_i w0 hw0;obtain⟨v,hv,_⟩:=rel.look hw0;refine⟨v,hv,G,e,rel,(R.holds_bind.mp h).imp (fun k e1 h G1 u H1 r1 s1 p1=>?_) fun _ _ h=>h⟩
  split at h
  ·exact h.elim
  ·rename_i w hw;obtain⟨w',hf,h2⟩:=ofOpt_holds.mp h;obtain⟨v',hv',q⟩:=r1.look hw;rw[hv]at hv';cases hv';rcases q with q|⟨ws,a,xs,u,he,rfl,rfl,q1,qu,q2,q3⟩
   ·exact y04 G1 H1 v u w k w' Q r1.sub q p1 hf fun G' v H' g p=>h2 G' v H' (r1.grow g) (s1.trans g.gg) p
   ·-- an item of one's own list
    unfold ixW at hf;split at hf
    ·rename_i heq;cases heq
    ·rename_i heq;cases heq;cases p1;obtain⟨y,hy,ry⟩:=q3.atI hf;refine .inl ⟨a,xs,_,y,rfl,rfl,?_,hy,h2 G1 y H1 r1 s1 ry⟩;rcases qu with rfl|⟨o,rfl⟩
     ·exact SqL.of q1
     ·exact .inl (.inr ⟨o,q1⟩)
    ·rename_i heq;cases heq
    ·cases hf
noncomputable def dApp(i:Nat)(d:Den (List W)):List S->SR:=fun e=>match e[i]? with
 |some (.own _ _)=>(d e).stm fun ws e1=>match ws,e1[i]? with
  |[w],some (.own b xs)=>if xs.length<16777216 then .nx (e1.set i (.own b (xs++[w])))else .no
  |_,_=>.no
 |_=>.no
theorem q40(i:Nat){apos cpos:Pos}(ha:DA Z X EE (e::es) dA)(hN:X.N[i]?=some x:=by rfl)(hv:Vis X.env.scope x:=by walk_at "1")(hd:(x==("__debug__":Str))=false:=by decide)(hcd:(x==("__classdict__":Str))=false:=by decide)
  (hbase:attributeBase (.Name x p) "append" X.env (eval (.Name x p) X.env)=eval (.Name x p) X.env:=by rfl)
  (hfew:((backTo cpos (starEach (e::es) X.env)).all (fun x=>!x.1)&&(backToKw cpos (keywordEach [] X.env)).all (fun x=>x.1.isSome)&&decide ((e::es).length+([]:List Keyword).length+(if([]:List Keyword).isEmpty then 0 else 1)<30))=true:=by rfl)
  (hline:(apos.endLine==cpos.line)=true:=by rfl)(hs:starEach (e::es) X.env=(false,eval e X.env)::starEach es X.env:=by rfl)(hplain:(backTo cpos (starEach es X.env)).any (·.1)=false:=by rfl)
  (hsw:swapsWith (.Call (.Attribute (.Name x p) "append" apos) (e::es) [] cpos) none pos.line X.env=pure false:=by rfl):
  DS Z X EE (.Expr (.Call (.Attribute (.Name x p) "append" apos) (e::es) [] cpos) pos) (dApp i dA):=by
 refine PS.mono (q4x (x5h (pv i hN hv hd hcd) ha hbase hfew hline hs hplain) hsw) ?_;rintro D σ H ⟨G,e,rel,h⟩;unfold dApp at h;split at h
 ·rename_i b0 ws0 he0;obtain⟨a,xs,h1,h2,h3,h4,h5⟩:=rel.own he0;refine⟨.ref a,h1,.inl ⟨rfl,xs,SqL.of h2⟩,G,e,rel,(q0r h).imp (fun ws e1 h G1 vs H1 r1 s1 p1=>?_) fun _ _ h=>h⟩
  split at h
  ·rename_i w b ys he1;obtain⟨a',zs,g1,g2,g3,g4,g5⟩:=r1.own he1;rw[h1]at g1;cases g1;obtain⟨y,r,rfl,py,pr⟩:=p1;cases(show r=[]from pr);split at h
   ·rename_i hl;refine⟨a,zs,y,rfl,rfl,g2,by rw[g5.length,sizeLine_eq];exact hl,?_⟩;exact h G1 σ _ (r1.mut he1 h1 (g5.append (.one py))) s1
   ·exact h.elim
  ·exact h.elim
 ·exact h.elim
end
noncomputable def compD(c:Den Bool)(d:Den W)(pe:List S):List W->Option (List W)
 |[]=>some []
 |w::ws=>match c (.fr w::pe)with
  |.ok true e1=>match d e1 with
   |.ok y _=>(compD c d pe ws).map (y::·)
   |_=>none
  |.ok false _=>compD c d pe ws
  |_=>none
noncomputable def frz1(e:List S)(j:Nat):List S:=match e[j]? with
 |some (.own none ws)=>e.set j (.fr (.lst ws))
 |_=>e
noncomputable def frzs(js:List Nat)(e:List S):List S:=js.foldl frz1 e
noncomputable def pj1(e:List S)(j:Nat):S:=match e[j]? with
 |some (.fr w)=>.fr w
 |_=>.no
noncomputable def pjS(js:List Nat)(e:List S):List S:=js.map (pj1 e)
noncomputable def compK(js:List Nat)(c:Den Bool)(d:Den W)(ws:List W)(e1:List S):R (List W):=
 if ws.length<=16777216 then(match compD c d (pjS js (frzs js e1)) ws with
  |some out=>.ok out (frzs js e1)
  |none=>.no)else .no
noncomputable def dComp(js:List Nat)(di:Den W)(c:Den Bool)(d:Den W):Den (List W):=fun e=>(di e).bind fun w e1=>match seqW w with
 |some ws=>compK js c d ws e1
 |none=>.no
noncomputable def dYes:Den Bool:=fun e=>.ok true e
section
variable{H1:Hp}{e1:List S}
theorem Rel.frzs(r:Rel K Z G σ H e):∀(js:List Nat),∃G',Same G G'/\Rel K Z G' σ H (frzs js e):=by
 intro js
 induction js generalizing G e with
 |nil=>exact⟨G,.refl _,r⟩
 |cons j js ih=>
  have one:∃G',Same G G'/\Rel K Z G' σ H (frz1 e j):=by
   unfold frz1;split
   ·rename_i ws hw;obtain⟨v,G',_,s,_,r'⟩:=r.freeze hw;exact⟨G',s,r'⟩
   ·exact⟨G,.refl _,r⟩
  obtain⟨G1,s1,r1⟩:=one;obtain⟨G2,s2,r2⟩:=ih r1;exact⟨G2,s1.trans s2,r2⟩
theorem Rel.block(r:Rel K Z G σ H e)(js:List Nat){x:V}(p:Rep K G w x):Rel K ⟨H,G,[]⟩ G (some x::pj js σ) H (.fr w::pjS js e):=by
 have hfr:∀(i:Nat)(s:S),(S.fr w::pjS js e)[i]?=some s->s=.no\/∃u,s=.fr u/\((i=0/\u=w)\/∃k j,i=k+1/\js[k]?=some j/\e[j]?=some (.fr u)):=fun i s h=>by
  cases i with
  |zero=>cases h;exact .inr ⟨w,rfl,.inl ⟨rfl,rfl⟩⟩
  |succ k=>
   rw[w0r]at h;unfold pjS at h;rw[w0f]at h;obtain⟨j,h1,h2⟩:=w0b.mp h;unfold pj1 at h2;split at h2
   ·rename_i u hu;subst h2;exact .inr ⟨u,rfl,.inr ⟨k,j,rfl,h1,hu⟩⟩
   ·subst h2;exact .inl rfl
 refine⟨r.sub,fun i s h=>?_,?_,fun i j b b' w1 w2 a h1 h2 _ _=>?_,fun a o h _=>h,(fun a h=>nomatch h),fun a _=>rfl⟩
 ·rcases hfr i s h with rfl|⟨u,rfl,⟨rfl,rfl⟩|⟨k,j,rfl,h1,h2⟩⟩
  ·trivial
  ·exact⟨x,rfl,p⟩
  ·obtain⟨v,h3,h4⟩:=r.fr h2;refine⟨v,?_,h4⟩;rw[w0r];unfold pj;rw[w0f,h1];simp[h3]
 ·simp[pjS,pj]
 ·rcases hfr i _ h1 with z|⟨u,z,_⟩<;>cases z
theorem Rel.mutFree(r:Rel K Z G σ H e){o:HO}(hg:G a=none)(hz:Z.H a=none)(hi:a∉Z.io)(hf:Free σ e a){ls:List V}(hls:H a=some (.lst ls)):Rel K Z G σ (upd H a o) e:=by
 refine⟨fun c u z=>?_,fun j s z=>?_,r.len,r.dis,fun c u z n=>?_,fun c z=>?_,r.gen⟩
 ·rw[q0b (q0l z hg)];exact r.sub c u z
 ·have y:=r.slot j s z;cases s with
  |no=>trivial
  |fr w=>exact y
  |own b2 w2=>
   obtain⟨c,ys,y1,y2,y3,y4,y5⟩:=y;refine⟨c,ys,y1,?_,y3,y4,y5⟩;rw[q0b];exact y2;rintro rfl;obtain⟨c',_,z1,_⟩:=r.own z;rw[z1]at y1;cases y1;exact hf j b2 w2 z z1
  |dic kvs=>
   obtain⟨c,y1,y2,y3,y4⟩:=y;refine⟨c,y1,?_,y3,y4⟩;rw[q0b (q0q y2 hls (q3r rfl))];exact y2
  |thr us w2 vs=>
   obtain⟨t,l,o,xs2,ys,zs,y1,y2,y3,y4,y5,y6⟩:=y;refine⟨t,l,o,xs2,ys,zs,y1,y2,?_,y4,y5,y6⟩;rw[q0b (q0q y3 hls (fun z=>nomatch z))];exact y3
  |nest wss=>exact NestOk.move y (.refl _) fun l o ys k1 k2 k3=>⟨by rw[q0b (q0q k1 hls (fun z=>nomatch z))];exact k1,k2,k3⟩
  |x k=>exact XOk.move y (.refl _) fun l o ys k1 k2 k3=>⟨by rw[q0b (q0q k1 hls (fun z=>nomatch z))];exact k1,k2,k3⟩
  |dw sh ks ws=>exact DwOk.move y (.refl _) fun l o ys k1 k2 k3=>⟨by rw[q0b (q0q k1 hls (q3a rfl))];exact k1,k2,k3⟩
 ·rw[q0b (q0l z hz)];exact r.ent c u z n
 ·by_cases hc:c=a
  ·subst hc;exact absurd z hi
  ·rw[q0b hc];exact r.ion c z
structure Walk(J:It)(xs:List V)(SQ:Hp->Prop):Prop where
 go:∀i H,SQ H->i<xs.length->J.go i H
 yld:∀i H x H',SQ H->J.yld i H x H'->i<xs.length->H'=H/\xs[i]?=some x
 stop:∀i H,SQ H->xs.length<=i->J.stop i H
theorem x5o:Walk (Itl K a) xs (fun H=>SqL K H a xs):=
 ⟨fun i H q h=>⟨xs,xs[i],q,by simp[h]⟩,fun i H x H' q ⟨e,y⟩ h=>⟨e,y xs q⟩,fun i H q h=>⟨xs,q,h⟩⟩
theorem x5p:Walk (Itt K a) xs (fun H=>SqT K H a xs):=
 ⟨fun i H q h=>⟨xs,xs[i],q,by simp[h]⟩,fun i H x H' q ⟨e,y⟩ h=>⟨e,y xs q⟩,fun i H q h=>⟨xs,q,h⟩⟩
theorem q8f{SQ:Hp->Prop}{Q:VK}{G0:Hp}(W0:Walk J xs SQ)(r1:Rel K Z G1 σ H1 e1)(s1:Same G0 G1)(rp:Reps K G1 ws xs)(hSQ:∀G' H',Same G1 G'->Same G' H'->SQ H')(hl:ws.length<=16777216)
  (hz:∀p,H1 p=none->p∉Z.io)(hc:compD c d (pjS js e1) ws=some out)
  (h:∀G' a xs H',Rel K Z G' σ H' e1->Same G0 G'->H' a=some (.lst xs)->G' a=none->Z.H a=none->Free σ e1 a->Reps K G' out xs->Q (.ref a) H'):
  ∀D,H1 D=none->∃W:Nat->Nat->Hp->Prop,(∃m,W 0 m (upd H1 D (.lst [])))/\∀i m H2,W i m H2 ->
   (J.stop i H2/\Q (.ref D) H2)\/(J.go i H2/\∀x H3,J.yld i H2 x H3->gName 0 x (List.replicate 1 none++pj js σ) H3 fun σ4 H4=>Kp (List.replicate 1 none++pj js σ) σ4/\(fun σ H Q=>∃Z',liftT K Z' (fun _=>E0) c σ H Q) σ4 H4 fun b H5=>
    if b=true then(fun σ H Q=>∃Z',AtG K Z' σ H fun G e=>(d e).holds (fun w e'=>∀G' v H',Rel K Z' G' σ H' e'->Same G G'->Rep K G' w v->Q v H') (XH K Z' (fun _=>E0) σ G)) σ4 H5 fun y H6=>∃ys,H6 D=some (.lst ys)/\ys.length<sizeLine/\∃m',m'<m/\W (i+1) m' (upd H6 D (.lst (ys++[y])))else ∃m',m'<m/\W (i+1) m' H5):=by
 intro D hD;have hlen:=rp.length
 refine⟨fun i m H2=>m=ws.length-i/\i<=ws.length/\∃G2 ys done rest,Rel K Z G2 σ H2 e1/\Same G1 G2/\H2 D=some (.lst ys)/\G2 D=none/\Reps K G2 done ys/\done.length<=i/\compD c d (pjS js e1) (ws.drop i)=some rest/\done++rest=out,
  ⟨ws.length,by omega,w0w _,G1,[],[],out,r1.grow (Grow.hid r1.sub hD _),.refl _,q0g,r1.sub.free hD,rfl,w0i _,hc,rfl⟩,?_⟩
 rintro i m H2 ⟨rfl,hi,G2,ys,done,rest,r2,s2,hd2,hg2,rp2,hdl,hc2,ho⟩;have hfree:Free σ e1 D:=q5h r1 hD;have hzh:Z.H D=none:=q23 r1 hD
 by_cases hlt:i<ws.length
 ·refine .inr ⟨W0.go i H2 (hSQ G2 H2 s2 r2.sub) (by omega),fun x H3 hy=>?_⟩
  obtain⟨rfl,hx⟩:=W0.yld i H2 x H3 (hSQ G2 H2 s2 r2.sub) hy (by omega);obtain⟨w,hw,pw⟩:=rp.getV hx;rw[q83 hw]at hc2;refine⟨Kp.one,⟨H3,G2,[]⟩,G2,.fr w::pjS js e1,r2.block js (Rep.mono s2 w pw),?_⟩;unfold compD at hc2;cases qc:c (.fr w::pjS js e1)with
  |no=>rw[qc]at hc2;cases hc2
  |ex _ _=>rw[qc]at hc2;cases hc2
  |ok k e2=>
   rw[qc]at hc2;intro G3 H5 r3 s3;have g3:=r3.toGrow s3;cases k with
   |false=>
    exact⟨ws.length-(i+1),by omega,rfl,hlt,G3,ys,done,rest,r2.grow g3,s2.trans s3,g3.hh _ _ hd2,by rw[g3.new D (by rw[hd2];simp)];exact hg2,Reps.mono s3 _ rp2,by omega,hc2,ho⟩
   |true=>
    refine⟨⟨H3,G2,[]⟩,G3,e2,r3,?_⟩;dsimp only at hc2;cases qd:d e2 with
    |no=>rw[qd]at hc2;cases hc2
    |ex _ _=>rw[qd]at hc2;cases hc2
    |ok y e3=>
     rw[qd]at hc2;intro G4 v H6 r4 s4 p4;have g4:=r4.toGrow (s3.trans s4);obtain⟨rest',hr,rfl⟩:=w0b.mp hc2;have hd6:H6 D=some (.lst ys):=g4.hh _ _ hd2;have hg6:G4 D=none:=by rw[g4.new D (by rw[hd2];simp)];exact hg2
     refine⟨ys,hd6,?_,ws.length-(i+1),by omega,rfl,hlt,G4,ys++[v],done++[y],rest',(r2.grow g4).mutFree hg6 hzh (hz D hD) hfree hd6,s2.trans (s3.trans s4),q0g,hg6,(Reps.mono (s3.trans s4) _ rp2).append (.one p4),by simp;omega,hr,by rw[w1z];exact ho⟩;rw[rp2.length,sizeLine_eq];omega
 ·have:i=ws.length:=by omega
  subst this;rw[w2o]at hc2;cases hc2;rw[w1r]at ho;subst ho;exact .inl ⟨W0.stop _ H2 (hSQ G2 H2 s2 r2.sub) (by omega),h G2 D ys H2 r2 (s1.trans s2) hd2 hg2 hzh hfree rp2⟩
end
section
variable{elt iter a b:Expr}{ifs:List Expr}{scope sc:Scope}{pt:Pos}{Nf N:List Str}{di:Den W}
def DTs(Z:Zt)(X:Cx)(EE:L2.St->XK)(ifs:List Expr)(c:Den Bool):Prop:=PTs X ifs (liftT X.K Z EE c)
theorem x2j:DTs Z X EE [] dYes:=fun pins s σ H Q I ⟨G,e,r,h⟩=>y1u pins s σ H Q I (h G H r (.refl _))
theorem y19(h:DT Z X EE a c):DTs Z X EE [a] c:=y1v h
def cT(K:PySem.W.Frag)(c:Den Bool):TT:=fun σ H Q=>∃Z',liftT K Z' (fun _=>E0) c σ H Q
def cE(K:PySem.W.Frag)(d:Den W):TE:=fun σ H Q=>∃Z',AtG K Z' σ H fun G e=>(d e).holds (fun w e'=>∀G' v H',Rel K Z' G' σ H' e'->Same G G'->Rep K G' w v->Q v H') (XH K Z' (fun _=>E0) σ G)
theorem x3r{Y:List Str}(ht:∀Z' cl C s₀ H₀ ex,DTs Z' (X.cp Y scope cl C s₀ H₀ ex) (fun _=>E0) ifs c):∀cl C s₀ H₀ ex,PTs (X.cp Y scope cl C s₀ H₀ ex) ifs (cT X.K c):=fun cl C s₀ H₀ ex pins s σ H Q I ⟨Z',h⟩=>ht Z' cl C s₀ H₀ ex pins s σ H Q I h
theorem x3s{Y:List Str}(he:∀Z' cl C s₀ H₀ ex,DE Z' (X.cp Y scope cl C s₀ H₀ ex) (fun _=>E0) elt d):∀cl C s₀ H₀ ex,PE (X.cp Y scope cl C s₀ H₀ ex) elt (cE X.K d):=fun cl C s₀ H₀ ex pins s σ H Q I ⟨Z',h⟩=>he Z' cl C s₀ H₀ ex pins s σ H Q I h
theorem ionone(r:Rel K Z G σ H e):∀p,H p=none->p∉Z.io:=fun p hp hi=>r.ion p hi hp
theorem x5q:∀σ H Q,liftF K Z EE (dComp js di c d) σ H Q->tComp (iSeq K (liftE K Z EE di)) 1 js (gName 0) (cT K c) (cE K d) σ H Q:=by
 rintro σ H Q ⟨G,e,rel,h⟩;simp only[dComp,R.holds_bind]at h;refine⟨G,e,rel,h.imp (fun w e1 h G1 v1 H1 r1 s1 p1=>?_) fun _ _ h=>h⟩
 split at h
 ·rename_i ws hw;unfold compK at h;split at h
  ·rename_i hl;split at h
   ·rename_i out ho;obtain⟨G2,s2,r2⟩:=r1.frzs js;have p2:=Rep.mono s2 w p1;have io:=ionone r2;cases w with
    |tup us=>
     cases hw;obtain⟨a,xs,rfl,hq,rp⟩:=p2;exact⟨a,rfl,.inr ⟨⟨xs,r2.sub.tup hq⟩,q8f x5p r2 (s1.trans s2) rp (fun G' H' s s'=>Same.tup s' (Same.tup s hq)) hl io ho h⟩⟩
    |lst us=>
     cases hw;obtain⟨a,xs,rfl,hq,rp⟩:=p2;exact⟨a,rfl,.inl ⟨⟨xs,r2.sub.seq hq⟩,q8f x5o r2 (s1.trans s2) rp (fun G' H' s s'=>Same.seq s' (Same.seq s hq)) hl io ho h⟩⟩
    |_=>cases hw
   ·exact h.elim
  ·exact h.elim
 ·exact h.elim
theorem y2a(hc:X.calm=true)(hi:DE Z X EE iter di)(ok:compOk sc scope N Nf js=true)
  (ht:∀Z' cl C s₀ H₀ ex,DTs Z' (X.cp ([x]++Nf) scope cl C s₀ H₀ ex) (fun _=>E0) ifs c)(he:∀Z' cl C s₀ H₀ ex,DE Z' (X.cp ([x]++Nf) scope cl C s₀ H₀ ex) (fun _=>E0) elt d)
  (hg:∀cl C s₀ H₀ ex,PG (X.cp ([x]++Nf) scope cl C s₀ H₀ ex) (.Name x pt) (gName 0))
  (hsc:X.env.scope=sc:=by rfl)(hN:X.N=N:=by rfl)(hs:∀x,foldedSetIterable iter X.env x=pure x:=by intro _;rfl):
  DF Z X EE (.ListComp elt [⟨.Name x pt,iter,ifs,0⟩] scope pos) (dComp js di c d):=by
 exact PE.mono (q65 (Nl:=[x]) (tc:=cT X.K c) (te:=cE X.K d) hc (q7o hi) ok hg (x3r ht) (x3s he) hsc hN hs) x5q
end
mutual
noncomputable def depW:W->Nat
 |.tup ws=>depWs ws+1
 |.lst ws=>depWs ws+1
 |_=>0
noncomputable def depWs:List W->Nat
 |[]=>0
 |w::ws=>max (depW w) (depWs ws)
end
mutual
theorem q8g(I:Inv X pins σ H s)(sg:Same G H):∀(w:W){w':W}{v:V}{k:Bool},Rep X.K G w v->Rep X.K G w' v->eqW w w'=some k->k=true
 |.non,w',v,k,h,h',e=>by
  cases(show v=.non from h);cases w'<;>first|(cases e;done)|(cases h';cases e;rfl)|(exfalso;obtain⟨_,_,z,_⟩:=h';first|done|cases z)|(exfalso;obtain⟨_,z,_⟩:=h';first|done|cases z)
 |.bl b,w',v,k,h,h',e=>by
  cases(show v=.bl b from h);cases w'<;>first|(cases e;done)|(cases h';cases e;exact beq_self_eq_true _)|(exfalso;obtain⟨_,_,z,_⟩:=h';first|done|cases z)|(exfalso;obtain⟨_,z,_⟩:=h';first|done|cases z)
 |.int b,w',v,k,h,h',e=>by
  cases(show v=.int b from h);cases w'<;>first|(cases e;done)|(cases h';cases e;exact beq_self_eq_true _)|(exfalso;obtain⟨_,_,z,_⟩:=h';first|done|cases z)|(exfalso;obtain⟨_,z,_⟩:=h';first|done|cases z)
 |.str b,w',v,k,h,h',e=>by
  cases(show v=.str b from h);cases w'<;>first|(cases e;done)|(cases h';cases e;exact beq_self_eq_true _)|(exfalso;obtain⟨_,_,z,_⟩:=h';first|done|cases z)|(exfalso;obtain⟨_,z,_⟩:=h';first|done|cases z)
 |.tup ws,w',v,k,h,h',e=>by
  obtain⟨a,xs,rfl,q,r⟩:=h;cases w' with
  |tup ws'=>
   obtain⟨a',xs',z,q',r'⟩:=h';cases z;have:=I.tuple_inj (sg.tup q) (sg.tup q');subst this;exact q67 I sg ws r r' (e)
  |lst ws'=>
   obtain⟨a',xs',z,q',r'⟩:=h';cases z;obtain⟨its,_,p1,_⟩:=I.tuple (sg.tup q);obtain⟨its2,_,p2,_⟩:=I.list (sg.seq q');exact absurd rfl (SeqAt.ne_of_list_tuple p2.isList (show s.heap.IsTuple a _ from p1))
  |non=>cases h'
  |bl _=>cases h'
  |int _=>cases h'
  |str _=>cases h'
  |exc _=>cases e
  |dic _=>cases e
  |dw _ _ _ _=>cases e
  |fn _ _ _=>cases e
 |.lst ws,w',v,k,h,h',e=>by
  obtain⟨a,xs,rfl,q,r⟩:=h;cases w' with
  |lst ws'=>
   obtain⟨a',xs',z,q',r'⟩:=h';cases z;have:=I.list_inj (sg.seq q) (sg.seq q');subst this;exact q67 I sg ws r r' (e)
  |tup ws'=>
   obtain⟨a',xs',z,q',r'⟩:=h';cases z;obtain⟨its,_,p1,_⟩:=I.tuple (sg.tup q');obtain⟨its2,_,p2,_⟩:=I.list (sg.seq q);exact absurd rfl (SeqAt.ne_of_list_tuple p2.isList (show s.heap.IsTuple a _ from p1))
  |non=>cases h'
  |bl _=>cases h'
  |int _=>cases h'
  |str _=>cases h'
  |exc _=>cases e
  |dic _=>cases e
  |dw _ _ _ _=>cases e
  |fn _ _ _=>cases e
 |.exc c,w',v,k,h,h',e=>by cases w'<;>cases e
 |.dic c,w',v,k,h,h',e=>by cases w'<;>cases e
 |.dw _ _ _ _,w',v,k,h,h',e=>by cases w'<;>cases e
 |.fn _ _ _,w',v,k,h,h',e=>by cases w'<;>cases e
theorem q67(I:Inv X pins σ H s)(sg:Same G H):∀(ws:List W){ws':List W}{vs:List V}{k:Bool},Reps X.K G ws vs->Reps X.K G ws' vs->eqWs ws ws'=some k->k=true
 |[],ws',vs,k,h,h',e=>by
  cases h;cases ws' with
  |nil=>cases e;rfl
  |cons _ _=>obtain⟨_,_,z,_⟩:=h';cases z
 |w::ws,ws',vs,k,h,h',e=>by
  obtain⟨x,r,rfl,h1,h2⟩:=h;cases ws' with
  |nil=>cases h'
  |cons w' ws'=>
   obtain⟨x',r',z,h1',h2'⟩:=h';cases z;have e:(match eqW w w',eqWs ws ws' with|some a,some b=>some (a&&b)|_,_=>none)=some k:=e;cases q1:eqW w w' with
   |none=>rw[q1]at e;cases e
   |some b1=>
    cases q2:eqWs ws ws' with
    |none=>rw[q1,q2]at e;cases e
    |some b2=>
     rw[q1,q2]at e;rw[q8g I sg w h1 h1' q1,q67 I sg ws h2 h2' q2]at e;cases e;rfl
end
theorem q3m:∀{xs ys:List W}{b:Bool},eqWs xs ys=some b->(∀(j:Nat) x y,xs[j]?=some x->ys[j]?=some y->∃k,eqW x y=some k)/\b=((List.range (min xs.length ys.length)).all (fun j=>((eqW (xs.getD j .non) (ys.getD j .non)).getD false))&&xs.length==ys.length):=by
 intro xs
 induction xs with
 |nil=>
  intro ys b h;refine⟨fun j x y hx=>by simp at hx,?_⟩
  cases ys<;>(cases h;simp)
 |cons x xs ih=>
  intro ys b h;cases ys with
  |nil=>refine⟨fun j x y hx hy=>by simp at hy,?_⟩;cases h;simp
  |cons y ys=>
   have h:(match eqW x y,eqWs xs ys with|some a,some b=>some (a&&b)|_,_=>none)=some b:=h;cases q1:eqW x y with
   |none=>rw[q1]at h;cases h
   |some b1=>
    cases q2:eqWs xs ys with
    |none=>rw[q1,q2]at h;cases h
    |some b2=>
     rw[q1,q2]at h;cases h;obtain⟨h1,h2⟩:=ih q2;refine⟨fun j x' y' hx hy=>?_,?_⟩
     ·cases j with
      |zero=>simp at hx hy;subst hx hy;exact⟨_,q1⟩
      |succ j=>exact h1 j x' y' (by simpa using hx) (by simpa using hy)
     ·rw[h2];simp only[w0p,Nat.succ_min_succ,List.range_succ_eq_map,List.all_cons,List.all_map]
      have e0:(eqW ((x::xs).getD 0 .non) ((y::ys).getD 0 .non)).getD false=b1:=by
       show(eqW x y).getD false=b1;rw[q1];rfl
      rw[e0,Bool.and_assoc];congr 1;congr 1;simp
theorem q58:∀{xs:List W}{j:Nat}{x:W},xs[j]?=some x->depW x<=depWs xs
 |[],_,_,h=>by simp at h
 |y::ys,0,x,h=>by simp at h;subst h;simp only[depWs];omega
 |y::ys,j+1,x,h=>by
  have:=q58 (xs:=ys) (j:=j) (by simpa using h);simp only[depWs];omega
theorem q6l{xs:List α}{x d:α}(h:xs[j]?=some x):xs.getD j d=x:=by
 simp[List.getD,h]
theorem x0a(I:Inv X pins σ H s)(sg:Same G H)(hu:A.units<cLine)(n1:∀ws,w=.tup ws->∀ws',w'≠.tup ws')(n2:∀ws,w=.lst ws->∀ws',w'≠.lst ws')(h:Rep X.K G w v)(h':Rep X.K G w' v')(r:RelV v u)(r':RelV v' u')(e:eqW w w'=some b):SeqAt.RcAt A s u u' b:=by
 have tl:∀{ws:List W}{v:V}{u:Value},Rep X.K G (.lst ws) v->RelV v u->∃l items,u=.ref l/\s.heap.IsList l items:=fun h r=>by
  obtain⟨a,xs,rfl,q,_⟩:=h;cases r;obtain⟨its,_,p,_⟩:=I.list (sg.seq q);exact⟨a,_,rfl,p.isList⟩
 have tt:∀{ws:List W}{v:V}{u:Value},Rep X.K G (.tup ws) v->RelV v u->∃l items,u=.ref l/\s.heap.IsTuple l items:=fun h r=>by
  obtain⟨a,xs,rfl,q,_⟩:=h;cases r;obtain⟨its,_,p,_⟩:=I.tuple (sg.tup q);exact⟨a,_,rfl,p⟩
 have tn:∀{v:V}{u:Value},Rep X.K G .non v->RelV v u->u=.none:=fun h r=>by cases h;exact r
 have tb:∀{k:Bool}{v:V}{u:Value},Rep X.K G (.bl k) v->RelV v u->u=.bool k:=fun h r=>by cases h;exact r
 have ti:∀{k:Int}{v:V}{u:Value},Rep X.K G (.int k) v->RelV v u->∃t,u=.int k t:=fun h r=>by cases h;exact r
 have ts:∀{k:Str}{v:V}{u:Value},Rep X.K G (.str k) v->RelV v u->∃t,u=.str k t:=fun h r=>by cases h;exact r
 cases w with
 |non=>
  obtain rfl:=tn h r;cases w' with
  |non=>obtain rfl:=tn h' r';cases e;exact .none_none
  |bl k=>obtain rfl:=tb h' r';cases e;exact .none_bool k
  |int k=>obtain⟨t,rfl⟩:=ti h' r';cases e;exact .none_int k t
  |str k=>obtain⟨t,rfl⟩:=ts h' r';cases e;exact .none_str k t
  |tup k=>obtain⟨l,it,rfl,p⟩:=tt h' r';cases e;exact .none_tuple p hu
  |lst k=>obtain⟨l,it,rfl,p⟩:=tl h' r';cases e;exact .none_list p hu
  |exc k=>cases e
  |dic k=>cases e
  |dw _ _ _ _=>cases e
  |fn _ _ _=>cases e
 |bl j=>
  obtain rfl:=tb h r;cases w' with
  |non=>obtain rfl:=tn h' r';cases e;exact .bool_none j
  |bl k=>obtain rfl:=tb h' r';cases e;exact .bool_bool j k
  |int k=>obtain⟨t,rfl⟩:=ti h' r';cases e;exact .bool_int j k t
  |str k=>obtain⟨t,rfl⟩:=ts h' r';cases e;exact .bool_str j k t
  |tup k=>obtain⟨l,it,rfl,p⟩:=tt h' r';cases e;exact .bool_tuple j p hu
  |lst k=>obtain⟨l,it,rfl,p⟩:=tl h' r';cases e;exact .bool_list j p hu
  |exc k=>cases e
  |dic k=>cases e
  |dw _ _ _ _=>cases e
  |fn _ _ _=>cases e
 |int j=>
  obtain⟨t1,rfl⟩:=ti h r;cases w' with
  |non=>obtain rfl:=tn h' r';cases e;exact .int_none j t1
  |bl k=>obtain rfl:=tb h' r';cases e;exact .int_bool j t1 k
  |int k=>obtain⟨t,rfl⟩:=ti h' r';cases e;exact .int_int j t1 k t
  |str k=>obtain⟨t,rfl⟩:=ts h' r';cases e;exact .int_str j t1 k t
  |tup k=>obtain⟨l,it,rfl,p⟩:=tt h' r';cases e;exact .int_tuple j t1 p hu
  |lst k=>obtain⟨l,it,rfl,p⟩:=tl h' r';cases e;exact .int_list j t1 p hu
  |exc k=>cases e
  |dic k=>cases e
  |dw _ _ _ _=>cases e
  |fn _ _ _=>cases e
 |str j=>
  obtain⟨t1,rfl⟩:=ts h r;cases w' with
  |non=>obtain rfl:=tn h' r';cases e;exact .str_none j t1
  |bl k=>obtain rfl:=tb h' r';cases e;exact .str_bool j t1 k
  |int k=>obtain⟨t,rfl⟩:=ti h' r';cases e;exact .str_int j t1 k t
  |str k=>obtain⟨t,rfl⟩:=ts h' r';cases e;exact .str_str j t1 k t
  |tup k=>obtain⟨l,it,rfl,p⟩:=tt h' r';cases e;exact .str_tuple j t1 p hu
  |lst k=>obtain⟨l,it,rfl,p⟩:=tl h' r';cases e;exact .str_list j t1 p hu
  |exc k=>cases e
  |dic k=>cases e
  |dw _ _ _ _=>cases e
  |fn _ _ _=>cases e
 |tup j=>
  obtain⟨l1,it1,rfl,p1⟩:=tt h r;cases w' with
  |non=>obtain rfl:=tn h' r';cases e;exact .tuple_none p1 hu
  |bl k=>obtain rfl:=tb h' r';cases e;exact .tuple_bool k p1 hu
  |int k=>obtain⟨t,rfl⟩:=ti h' r';cases e;exact .tuple_int k t p1 hu
  |str k=>obtain⟨t,rfl⟩:=ts h' r';cases e;exact .tuple_str k t p1 hu
  |tup k=>exact absurd rfl (n1 j rfl k)
  |lst k=>obtain⟨l,it,rfl,p⟩:=tl h' r';cases e;exact .tuple_list p1 p hu
  |exc k=>cases e
  |dic k=>cases e
  |dw _ _ _ _=>cases e
  |fn _ _ _=>cases e
 |lst j=>
  obtain⟨l1,it1,rfl,p1⟩:=tl h r;cases w' with
  |non=>obtain rfl:=tn h' r';cases e;exact .list_none p1 hu
  |bl k=>obtain rfl:=tb h' r';cases e;exact .list_bool k p1 hu
  |int k=>obtain⟨t,rfl⟩:=ti h' r';cases e;exact .list_int k t p1 hu
  |str k=>obtain⟨t,rfl⟩:=ts h' r';cases e;exact .list_str k t p1 hu
  |lst k=>exact absurd rfl (n2 j rfl k)
  |tup k=>obtain⟨l,it,rfl,p⟩:=tt h' r';cases e;exact .list_tuple p1 p hu
  |exc k=>cases e
  |dic k=>cases e
  |dw _ _ _ _=>cases e
  |fn _ _ _=>cases e
 |exc j=>cases w'<;>cases e
 |dic j=>cases w'<;>cases e
 |dw _ _ _ _=>cases w'<;>cases e
 |fn _ _ _=>cases w'<;>cases e
theorem x2k(I:Inv X pins σ H s)(sg:Same G H)(hd:depW w<=0)(hu:A.units<cLine)(h:Rep X.K G w v)(h':Rep X.K G w' v')(r:RelV v u)(r':RelV v' u')(e:eqW w w'=some b):SeqAt.RcAt A s u u' b:=
 x0a I sg hu (fun ws z=>by subst z;simp[depW]at hd) (fun ws z=>by subst z;simp[depW]at hd) h h' r r' e
theorem x0b(h:Rep K G w v):∀x,v≠.flt x:=fun x z=>by
 subst z;cases w with
 |tup ws=>obtain⟨_,_,z,_⟩:=h;cases z
 |lst ws=>obtain⟨_,_,z,_⟩:=h;cases z
 |exc c=>obtain⟨_,z,_⟩:=h;cases z
 |dic c=>obtain⟨_,z,_⟩:=h;cases z
 |dw _ _ _ _=>obtain⟨_,_,_,z,_⟩:=h;cases z
 |fn _ _ _=>obtain⟨_,_,_,_,z,_⟩:=h;cases z
 |_=>cases h
theorem x0c(rv:RelV v u)(hf:∀x,v≠.flt x)(h:SeqAt.RcAt A s u u' b)(hs:u=u'->b=true):SeqAt.EqAt A s u u' b:=fun prog w E Q hq=>by
 unfold eqBool;refine wpAny_holding ?_;refine wpAny_ite_split (fun hab=>?_) (fun _=>?_)
 ·have hb:=hs (eq_of_beq hab);subst hb;exact wpAny_bind (wpAny_rule (wpAny_pure hq))
 ·have z:=wpAny_bind (h prog w E (fun a s'=>wpAny (model prog w) A (truthOfDropped a) Q E s') (wpAny_truthy_bool hq))
  cases v with
  |flt x=>exact absurd rfl (hf x)
  |non=>cases rv;exact z
  |bl _=>cases rv;exact z
  |int _=>obtain⟨t,rfl⟩:=rv;exact z
  |str _=>obtain⟨t,rfl⟩:=rv;exact z
  |byt _=>obtain⟨t,rfl⟩:=rv;exact z
  |ref _=>cases rv;exact z
  |ty _=>cases rv;exact z
theorem y05(I:Inv X pins σ H s)(sg:Same G H):∀(n:Nat){w w':W}{v v':V}{u u':Value}{b:Bool}{A:Around},depW w<=n->A.units+n<cLine->Rep X.K G w v->Rep X.K G w' v'->RelV v u->RelV v' u'->eqW w w'=some b->SeqAt.RcAt A s u u' b:=by
 intro n
 induction n with
 |zero=>
  intro w w' v v' u u' b A hd hu h h' r r' e;exact x2k I sg hd (by omega) h h' r r' e
 |succ n ih=>
  intro w w' v v' u u' b A hd hu h h' r r' e
  have items:∀{ws ws':List W}{xs xs':List V}{its its':List Value}{k:Bool},depWs ws<=n->Reps X.K G ws xs->Reps X.K G ws' xs'->Vals xs its->Vals xs' its'->eqWs ws ws'=some k ->
    ∀j (h1:j<its.toArray.size) (h2:j<its'.toArray.size),SeqAt.EqAt A.in1 s its.toArray[j] its'.toArray[j] ((eqW (ws.getD j .non) (ws'.getD j .non)).getD false):=by
   intro ws ws' xs xs' its its' k hd r1 r2 v1 v2 he j h1 h2;have l1:=r1.length;have l2:=r2.length;have m1:=v1.length;have m2:=v2.length;have i1:j<xs.length:=by rw[m1];simpa using h1
   have i2:j<xs'.length:=by rw[m2];simpa using h2
   obtain⟨u1,e1,ru1⟩:=v1.get (w0d i1);obtain⟨u2,e2,ru2⟩:=v2.get (w0d i2);obtain⟨w1,f1,p1⟩:=r1.getV (w0d i1);obtain⟨w2,f2,p2⟩:=r2.getV (w0d i2);obtain⟨b',hb'⟩:=(q3m he).1 j w1 w2 f1 f2;rw[q6l f1,q6l f2,hb']
   have g1:its.toArray[j]=u1:=by
    obtain⟨_,z⟩:=w0a.mp e1
    simpa using z
   have g2:its'.toArray[j]=u2:=by
    obtain⟨_,z⟩:=w0a.mp e2
    simpa using z
   rw[g1,g2];have hdw:depW w1<=n:=w0u (q58 f1) hd
   have hun:A.in1.units+n<cLine:=by
    have:A.in1.units=A.units+1:=rfl;omega
   refine x0c ru1 (x0b p1) (ih hdw hun p1 p2 ru1 ru2 hb') fun z=>?_
   subst z;have:=ru1.inj ru2;rw[this]at p1;exact q8g I sg w1 p1 p2 hb'
  cases w with
  |tup ws=>
   cases w' with
   |tup ws'=>
    obtain⟨a,xs,rfl,q1,r1⟩:=h;obtain⟨a',xs',rfl,q2,r2⟩:=h';cases r;cases r';obtain⟨its,v1,p1,_⟩:=I.tuple (sg.tup q1);obtain⟨its',v2,p2,_⟩:=I.tuple (sg.tup q2);have e:eqWs ws ws'=some b:=e;have z:=SeqAt.RcAt.tuples (show s.heap.IsTuple a _ from p1) (show s.heap.IsTuple a' _ from p2) (show A.units<cLine by omega) (items (by simp only[depW]at hd;omega) r1 r2 v1 v2 e);have l1:=r1.length;have l2:=r2.length;have m1:=v1.length;have m2:=v2.length;have eb:=(q3m e).2;have n1:its.length=ws.length:=by omega
    have n2:its'.length=ws'.length:=by omega
    rw[eb];simp only[w0h,n1,n2]at z;exact z
   |_=>exact x0a I sg (by omega) (by intro ws';simp) (by intro ws';simp) h h' r r' e
  |lst ws=>
   cases w' with
   |lst ws'=>
    obtain⟨a,xs,rfl,q1,r1⟩:=h;obtain⟨a',xs',rfl,q2,r2⟩:=h';cases r;cases r';obtain⟨its,v1,p1,_⟩:=I.list (sg.seq q1);obtain⟨its',v2,p2,_⟩:=I.list (sg.seq q2);have e:eqWs ws ws'=some b:=e;have l1:=r1.length;have l2:=r2.length;have m1:=v1.length;have m2:=v2.length;have eb:=(q3m e).2;have n1:its.length=ws.length:=by omega
    have n2:its'.length=ws'.length:=by omega
    by_cases hl:ws.length=ws'.length
    ·have z:=SeqAt.RcAt.lists p1.isList p2.isList (by simp only[w0h];omega) (show A.units<cLine by omega) (items (by simp only[depW]at hd;omega) r1 r2 v1 v2 e);rw[eb,hl];simp only[w0h,n1,hl,w4b,beq_self_eq_true,w2r]at z |-
     exact z
    ·have z:=SeqAt.RcAt.lists_lengths (A:=A) p1.isList p2.isList (by simp only[w0h,bne_iff_ne];omega) (show A.units<cLine by omega)
     have:b=false:=by
      rw[eb];have:(ws.length==ws'.length)=false:=by simp[hl]
      rw[this,Bool.and_false]
     rw[this];exact z
   |_=>exact x0a I sg (by omega) (by intro ws';simp) (by intro ws';simp) h h' r r' e
  |_=>exact x2k I sg (by simp[depW]) (by omega) h h' r r' e
theorem q68(I:Inv X pins σ H s)(sg:Same G H)(hu:A.units<cLine)(n1:∀ws,w=.tup ws->∀ws',w'≠.tup ws')(n2:∀ws,w=.lst ws->∀ws',w'≠.lst ws')(h:Rep X.K G w v)(h':Rep X.K G w' v')(r:RelV v u)(r':RelV v' u')(e:eqW w w'=some b):SeqAt.RcNeAt A s u u' (!b):=by
 have tl:∀{ws:List W}{v:V}{u:Value},Rep X.K G (.lst ws) v->RelV v u->∃l items,u=.ref l/\s.heap.IsList l items:=fun h r=>by
  obtain⟨a,xs,rfl,q,_⟩:=h;cases r;obtain⟨its,_,p,_⟩:=I.list (sg.seq q);exact⟨a,_,rfl,p.isList⟩
 have tt:∀{ws:List W}{v:V}{u:Value},Rep X.K G (.tup ws) v->RelV v u->∃l items,u=.ref l/\s.heap.IsTuple l items:=fun h r=>by
  obtain⟨a,xs,rfl,q,_⟩:=h;cases r;obtain⟨its,_,p,_⟩:=I.tuple (sg.tup q);exact⟨a,_,rfl,p⟩
 have tn:∀{v:V}{u:Value},Rep X.K G .non v->RelV v u->u=.none:=fun h r=>by cases h;exact r
 have tb:∀{k:Bool}{v:V}{u:Value},Rep X.K G (.bl k) v->RelV v u->u=.bool k:=fun h r=>by cases h;exact r
 have ti:∀{k:Int}{v:V}{u:Value},Rep X.K G (.int k) v->RelV v u->∃t,u=.int k t:=fun h r=>by cases h;exact r
 have ts:∀{k:Str}{v:V}{u:Value},Rep X.K G (.str k) v->RelV v u->∃t,u=.str k t:=fun h r=>by cases h;exact r
 cases w with
 |non=>
  obtain rfl:=tn h r;cases w' with
  |non=>obtain rfl:=tn h' r';cases e;exact .none_none
  |bl k=>obtain rfl:=tb h' r';cases e;exact .none_bool k
  |int k=>obtain⟨t,rfl⟩:=ti h' r';cases e;exact .none_int k t
  |str k=>obtain⟨t,rfl⟩:=ts h' r';cases e;exact .none_str k t
  |tup k=>obtain⟨l,it,rfl,p⟩:=tt h' r';cases e;exact .none_tuple p hu
  |lst k=>obtain⟨l,it,rfl,p⟩:=tl h' r';cases e;exact .none_list p hu
  |exc k=>cases e
  |dic k=>cases e
  |dw _ _ _ _=>cases e
  |fn _ _ _=>cases e
 |bl j=>
  obtain rfl:=tb h r;cases w' with
  |non=>obtain rfl:=tn h' r';cases e;exact .bool_none j
  |bl k=>obtain rfl:=tb h' r';cases e;exact .bool_bool j k
  |int k=>obtain⟨t,rfl⟩:=ti h' r';cases e;exact .bool_int j k t
  |str k=>obtain⟨t,rfl⟩:=ts h' r';cases e;exact .bool_str j k t
  |tup k=>obtain⟨l,it,rfl,p⟩:=tt h' r';cases e;exact .bool_tuple j p hu
  |lst k=>obtain⟨l,it,rfl,p⟩:=tl h' r';cases e;exact .bool_list j p hu
  |exc k=>cases e
  |dic k=>cases e
  |dw _ _ _ _=>cases e
  |fn _ _ _=>cases e
 |int j=>
  obtain⟨t1,rfl⟩:=ti h r;cases w' with
  |non=>obtain rfl:=tn h' r';cases e;exact .int_none j t1
  |bl k=>obtain rfl:=tb h' r';cases e;exact .int_bool j t1 k
  |int k=>obtain⟨t,rfl⟩:=ti h' r';cases e;exact .int_int j t1 k t
  |str k=>obtain⟨t,rfl⟩:=ts h' r';cases e;exact .int_str j t1 k t
  |tup k=>obtain⟨l,it,rfl,p⟩:=tt h' r';cases e;exact .int_tuple j t1 p hu
  |lst k=>obtain⟨l,it,rfl,p⟩:=tl h' r';cases e;exact .int_list j t1 p hu
  |exc k=>cases e
  |dic k=>cases e
  |dw _ _ _ _=>cases e
  |fn _ _ _=>cases e
 |str j=>
  obtain⟨t1,rfl⟩:=ts h r;cases w' with
  |non=>obtain rfl:=tn h' r';cases e;exact .str_none j t1
  |bl k=>obtain rfl:=tb h' r';cases e;exact .str_bool j t1 k
  |int k=>obtain⟨t,rfl⟩:=ti h' r';cases e;exact .str_int j t1 k t
  |str k=>obtain⟨t,rfl⟩:=ts h' r';cases e;exact .str_str j t1 k t
  |tup k=>obtain⟨l,it,rfl,p⟩:=tt h' r';cases e;exact .str_tuple j t1 p hu
  |lst k=>obtain⟨l,it,rfl,p⟩:=tl h' r';cases e;exact .str_list j t1 p hu
  |exc k=>cases e
  |dic k=>cases e
  |dw _ _ _ _=>cases e
  |fn _ _ _=>cases e
 |tup j=>
  obtain⟨l1,it1,rfl,p1⟩:=tt h r;cases w' with
  |non=>obtain rfl:=tn h' r';cases e;exact .tuple_none p1 hu
  |bl k=>obtain rfl:=tb h' r';cases e;exact .tuple_bool k p1 hu
  |int k=>obtain⟨t,rfl⟩:=ti h' r';cases e;exact .tuple_int k t p1 hu
  |str k=>obtain⟨t,rfl⟩:=ts h' r';cases e;exact .tuple_str k t p1 hu
  |tup k=>exact absurd rfl (n1 j rfl k)
  |lst k=>obtain⟨l,it,rfl,p⟩:=tl h' r';cases e;exact .tuple_list p1 p hu
  |exc k=>cases e
  |dic k=>cases e
  |dw _ _ _ _=>cases e
  |fn _ _ _=>cases e
 |lst j=>
  obtain⟨l1,it1,rfl,p1⟩:=tl h r;cases w' with
  |non=>obtain rfl:=tn h' r';cases e;exact .list_none p1 hu
  |bl k=>obtain rfl:=tb h' r';cases e;exact .list_bool k p1 hu
  |int k=>obtain⟨t,rfl⟩:=ti h' r';cases e;exact .list_int k t p1 hu
  |str k=>obtain⟨t,rfl⟩:=ts h' r';cases e;exact .list_str k t p1 hu
  |lst k=>exact absurd rfl (n2 j rfl k)
  |tup k=>obtain⟨l,it,rfl,p⟩:=tt h' r';cases e;exact .list_tuple p1 p hu
  |exc k=>cases e
  |dic k=>cases e
  |dw _ _ _ _=>cases e
  |fn _ _ _=>cases e
 |exc j=>cases w'<;>cases e
 |dic j=>cases w'<;>cases e
 |dw _ _ _ _=>cases w'<;>cases e
 |fn _ _ _=>cases w'<;>cases e
theorem x5r(I:Inv X pins σ H s)(sg:Same G H)(hd:depW w<=0)(hu:A.units<cLine)(h:Rep X.K G w v)(h':Rep X.K G w' v')(r:RelV v u)(r':RelV v' u')(e:eqW w w'=some b):SeqAt.RcNeAt A s u u' (!b):=
 q68 I sg hu (fun ws z=>by subst z;simp[depW]at hd) (fun ws z=>by subst z;simp[depW]at hd) h h' r r' e
theorem x0d(I:Inv X pins σ H s)(sg:Same G H)(hu:A.units+(n+1)<cLine){ws':List W}{xs':List V}{its its':List Value}{k:Bool}(hd:depWs ws<=n)(r1:Reps X.K G ws xs)(r2:Reps X.K G ws' xs')(v1:Vals xs its)(v2:Vals xs' its')(he:eqWs ws ws'=some k):
  ∀j (h1:j<its.toArray.size) (h2:j<its'.toArray.size),SeqAt.EqAt A.in1 s its.toArray[j] its'.toArray[j] ((eqW (ws.getD j .non) (ws'.getD j .non)).getD false):=by
 intro j h1 h2;have l1:=r1.length;have l2:=r2.length;have m1:=v1.length;have m2:=v2.length;have i1:j<xs.length:=by rw[m1];simpa using h1
 have i2:j<xs'.length:=by rw[m2];simpa using h2
 obtain⟨u1,e1,ru1⟩:=v1.get (w0d i1);obtain⟨u2,e2,ru2⟩:=v2.get (w0d i2);obtain⟨w1,f1,p1⟩:=r1.getV (w0d i1);obtain⟨w2,f2,p2⟩:=r2.getV (w0d i2);obtain⟨b',hb'⟩:=(q3m he).1 j w1 w2 f1 f2;rw[q6l f1,q6l f2,hb']
 have g1:its.toArray[j]=u1:=by
  obtain⟨_,z⟩:=w0a.mp e1
  simpa using z
 have g2:its'.toArray[j]=u2:=by
  obtain⟨_,z⟩:=w0a.mp e2
  simpa using z
 rw[g1,g2];have hdw:depW w1<=n:=w0u (q58 f1) hd
 have hun:A.in1.units+n<cLine:=by
  have:A.in1.units=A.units+1:=rfl;omega
 refine x0c ru1 (x0b p1) (y05 I sg n hdw hun p1 p2 ru1 ru2 hb') fun z=>?_
 subst z;have:=ru1.inj ru2;rw[this]at p1;exact q8g I sg w1 p1 p2 hb'
theorem y2b(I:Inv X pins σ H s)(sg:Same G H)(n:Nat)(hd:depW w<=n+1)(hu:A.units+(n+1)<cLine)(h:Rep X.K G w v)(h':Rep X.K G w' v')(r:RelV v u)(r':RelV v' u')(e:eqW w w'=some b):SeqAt.RcNeAt A s u u' (!b):=by
 cases w with
 |tup ws=>
  cases w' with
  |tup ws'=>
   obtain⟨a,xs,rfl,q1,r1⟩:=h;obtain⟨a',xs',rfl,q2,r2⟩:=h';cases r;cases r';obtain⟨its,v1,p1,_⟩:=I.tuple (sg.tup q1);obtain⟨its',v2,p2,_⟩:=I.tuple (sg.tup q2);have e:eqWs ws ws'=some b:=e;have z:=SeqAt.RcNeAt.tuples (show s.heap.IsTuple a _ from p1) (show s.heap.IsTuple a' _ from p2) (show A.units<cLine by omega) (x0d I sg hu (by simp only[depW]at hd;omega) r1 r2 v1 v2 e);have l1:=r1.length;have l2:=r2.length;have m1:=v1.length;have m2:=v2.length;have eb:=(q3m e).2;have n1:its.length=ws.length:=by omega
   have n2:its'.length=ws'.length:=by omega
   rw[eb];simp only[w0h,n1,n2]at z;exact z
  |_=>exact q68 I sg (by omega) (by intro ws';simp) (by intro ws';simp) h h' r r' e
 |lst ws=>
  cases w' with
  |lst ws'=>
   obtain⟨a,xs,rfl,q1,r1⟩:=h;obtain⟨a',xs',rfl,q2,r2⟩:=h';cases r;cases r';obtain⟨its,v1,p1,_⟩:=I.list (sg.seq q1);obtain⟨its',v2,p2,_⟩:=I.list (sg.seq q2);have e:eqWs ws ws'=some b:=e;have l1:=r1.length;have l2:=r2.length;have m1:=v1.length;have m2:=v2.length;have eb:=(q3m e).2;have n1:its.length=ws.length:=by omega
   have n2:its'.length=ws'.length:=by omega
   by_cases hl:ws.length=ws'.length
   ·have z:=SeqAt.RcNeAt.lists p1.isList p2.isList (by simp only[w0h];omega) (show A.units<cLine by omega) (x0d I sg hu (by simp only[depW]at hd;omega) r1 r2 v1 v2 e);rw[eb,hl];simp only[w0h,n1,hl,w4b,beq_self_eq_true,w2r]at z |-
    exact z
   ·have z:=SeqAt.RcNeAt.lists_lengths (A:=A) p1.isList p2.isList (by simp only[w0h,bne_iff_ne];omega) (show A.units<cLine by omega)
    have:b=false:=by
     rw[eb];have:(ws.length==ws'.length)=false:=by simp[hl]
     rw[this,Bool.and_false]
    rw[this];exact z
  |_=>exact q68 I sg (by omega) (by intro ws';simp) (by intro ws';simp) h h' r r' e
 |_=>exact x5r I sg (by simp[depW]) (by omega) h h' r r' e
noncomputable def eq2(x y:W):Option W:=if depW x<=150 then(eqW x y).map .bl else none
def rEqD(K:PySem.W.Frag):R2:=fun x y H Q=>∃G wx wy b,Same G H/\depW wx<=150/\Rep K G wx x/\Rep K G wy y/\eqW wx wy=some b/\Q (.bl b) H
theorem x5s(hu:X.A.units+150<cLine):OpR X (compareOp .Eq) (rEqD X.K):=by
 intro pins s σ H x y v u Q I rx ry h;obtain⟨G,wx,wy,b,sg,hd,hx,hy,e,q⟩:=h;exact y05 I sg 150 hd hu hx hy rx ry e _ _ _ _ ⟨.bl b,H,I,rfl,q⟩
theorem y06:Op2 K (rEqD K) eq2:=by
 intro G H x y wx wy w Q s px py hf h;unfold eq2 at hf;split at hf
 ·rename_i hd;obtain⟨b,hb,rfl⟩:=w0b.mp hf;exact⟨G,wx,wy,b,s,hd,px,py,hb,h G _ H (.refl s) rfl⟩
 ·cases hf
noncomputable def ne2(x y:W):Option W:=if depW x<=150 then(eqW x y).map fun b=>.bl (!b)else none
def rNeD(K:PySem.W.Frag):R2:=fun x y H Q=>∃G wx wy b,Same G H/\depW wx<=150/\Rep K G wx x/\Rep K G wy y/\eqW wx wy=some b/\Q (.bl (!b)) H
theorem x5t(hu:X.A.units+150<cLine):OpR X (compareOp .NotEq) (rNeD X.K):=by
 intro pins s σ H x y v u Q I rx ry h;obtain⟨G,wx,wy,b,sg,hd,hx,hy,e,q⟩:=h;exact y2b I sg 149 hd hu hx hy rx ry e _ _ _ _ ⟨.bl (!b),H,I,rfl,q⟩
theorem y07:Op2 K (rNeD K) ne2:=by
 intro G H x y wx wy w Q s px py hf h;unfold ne2 at hf;split at hf
 ·rename_i hd;obtain⟨b,hb,rfl⟩:=w0b.mp hf;exact⟨G,wx,wy,b,s,hd,px,py,hb,h G _ H (.refl s) rfl⟩
 ·cases hf
section
variable{a b c e:Expr}{p:Pos}
theorem q1c(ha:DE Z X EE a da)(hb:DE Z X EE b db):DE Z X EE (.BinOp a .Add b pos) (dOp addW da db):=q6k (op_add.or (op_add_str.or (op_catT.or y17))) y54 ha hb
theorem q4b(ha:DE Z X EE a da)(hb:DE Z X EE b db):DE Z X EE (.BinOp a .Sub b pos) (dOp subW da db):=q6k y5r y55 ha hb
theorem q4c(ha:DE Z X EE a da)(hb:DE Z X EE b db):DE Z X EE (.BinOp a .Mult b pos) (dOp mulW da db):=q6k y5s y56 ha hb
theorem q2m(ha:DE Z X EE a da)(hb:DE Z X EE b db):DE Z X EE (.BinOp a .FloorDiv b pos) (dOp fdivW da db):=q6k y1o y18 ha hb
theorem q1d(ha:DE Z X EE a da)(hb:DE Z X EE b db):DE Z X EE (.BinOp a .Mod b pos) (dOp modW da db):=q6k y5t y57 ha hb
theorem x0e(ha:DE Z X EE a da):DE Z X EE (.UnaryOp .USub a pos) (dUn negW da):=y80 y5u y58 ha
theorem y08(ha:DE Z X EE a da)(hb:DE Z X EE b db):DE Z X EE (.Compare a [.Lt] [b] pos) (dOp ltW da db):=q57 x3k x3q ha hb (nomark _)
theorem y81(ha:DE Z X EE a da)(hb:DE Z X EE b db):DE Z X EE (.Compare a [.LtE] [b] pos) (dOp leW da db):=q57 y0z y02 ha hb (nomark _)
theorem y82(ha:DE Z X EE a da)(hb:DE Z X EE b db):DE Z X EE (.Compare a [.Gt] [b] pos) (dOp gtW da db):=q57 y00 y03 ha hb (nomark _)
theorem q9u(hu:X.A.units+150<cLine)(ha:DE Z X EE a da)(hb:DE Z X EE b db):DE Z X EE (.Compare a [.Eq] [b] pos) (dOp eq2 da db):=q57 (x5s hu) y06 ha hb (nomark _)
theorem y09(hu:X.A.units+150<cLine)(ha:DE Z X EE a da)(hb:DE Z X EE b db):DE Z X EE (.Compare a [.NotEq] [b] pos) (dOp ne2 da db):=q57 (x5t hu) y07 ha hb (nomark _)
theorem y83(ha:DE Z X EE a da)(hb:DE Z X EE b db):DT Z X EE (.Compare a [.Lt] [b] pos) (dTest (dOp ltW da db)):=q7n x3k x3q ha hb (nomark _)
theorem y1a(ha:DE Z X EE a da)(hb:DE Z X EE b db):DT Z X EE (.Compare a [.Gt] [b] pos) (dTest (dOp gtW da db)):=q7n y00 y03 ha hb (nomark _)
theorem q34(hu:X.A.units+150<cLine)(ha:DE Z X EE a da)(hb:DE Z X EE b db):DT Z X EE (.Compare a [.Eq] [b] pos) (dTest (dOp eq2 da db)):=q7n (x5s hu) y06 ha hb (nomark _)
theorem q28(hu:X.A.units+150<cLine)(ha:DE Z X EE a da)(hb:DE Z X EE b db):DT Z X EE (.Compare a [.NotEq] [b] pos) (dTest (dOp ne2 da db)):=q7n (x5t hu) y07 ha hb (nomark _)
theorem q0k(h:Room k A):A.units+150<cLine:=by have:=h.un;omega
noncomputable def cutW(xs:List W)(lo hi:Option Int):List W:=(xs.drop (HT.sIx xs.length 0 lo)).take (HT.sIx xs.length xs.length hi-HT.sIx xs.length 0 lo)
def DO(Z:Zt)(X:Cx)(EE:L2.St->XK)(e:Option Expr)(d:Den (Option Int)):Prop:=PO X e (fun σ H Q=>∃G e,Rel X.K Z G σ H e/\(d e).holds (fun o e'=>∀G' H',Rel X.K Z G' σ H' e'->Same G G'->Q o H') (XH X.K Z EE σ G))
noncomputable def slW:W->Option Int->Option Int->Option W
 |.lst ws,lo,hi=>some (.lst (cutW ws lo hi))
 |.tup ws,lo,hi=>if ¬(HT.sIx ws.length 0 lo=0/\HT.sIx ws.length ws.length hi=ws.length)then some (.tup (cutW ws lo hi))else none
 |_,_,_=>none
noncomputable def tyW:W->Value
 |.non=>.type "NoneType"
 |.bl _=>.type "bool"
 |.int _=>.type "int"
 |.str _=>.type "str"
 |.tup _=>.type "tuple"
 |.lst _=>.type "list"
 |.exc c=>c
 |.dic _=>.type "dict"
 |.dw _ _ _ _=>.type "dict"
 |.fn _ _ _=>.type "dict"
noncomputable def isiW(K:PySem.W.Frag)(cv:Value):W->Option W
 |.exc (.ref D)=>if excClsIn K D=true then(kitOne K (.ref D) cv).map .bl else none
 |.exc _=>none
 |.dic _=>none
 |.dw _ _ _ _=>none
 |.fn _ _ _=>none
 |w=>(kitOne K (tyW w) cv).map .bl
theorem y2c{b:Bool}{Q:VK}(I:Inv X pins σ H s)(sg:Same G H)(p:Rep X.K G w v)(r:RelV v u)(h:isiW X.K cv w=some (.bl b))(q:Q (.bl b) H):
  wpAny (model X.prog X.w) X.A (call (.builtin "isinstance") [u,cv]) (EP X pins σ Q) X.xe s:=by
 have fin:∀tk,EP X pins σ Q (.bool b) {s with toks:=tk}:=fun tk=>⟨.bl b,H,I.tok _,rfl,q⟩
 have kit:∀{t:Value},(kitOne X.K t cv).map W.bl=some (.bl b)->kitOne X.K t cv=some b:=fun z=>by
  obtain⟨y,h1,h2⟩:=w0b.mp z;cases h2;exact h1
 cases w with
 |non=>cases p;cases r;exact kia_one PySem.W.kitx_none I.kIn True.intro (kit h) (fun z=>nomatch z) fin
 |bl y=>cases p;cases r;exact kia_one PySem.W.kitx_bool I.kIn True.intro (kit h) (fun z=>nomatch z) fin
 |int y=>cases p;obtain⟨t,rfl⟩:=r;exact kia_one PySem.W.kitx_int I.kIn True.intro (kit h) (fun z=>nomatch z) fin
 |str y=>cases p;obtain⟨t,rfl⟩:=r;exact kia_one PySem.W.kitx_str I.kIn True.intro (kit h) (fun z=>nomatch z) fin
 |tup ws=>
  obtain⟨a,xs,rfl,hq,_⟩:=p;cases r;obtain⟨its,_,⟨o,h1,h2,_⟩,_⟩:=I.tuple (sg.tup hq);exact kia_one PySem.W.kitx_tuple I.kIn ⟨o,h1,h2⟩ (kit h) (fun z=>nomatch z) fin
 |lst ws=>
  obtain⟨a,xs,rfl,hq,_⟩:=p;cases r;obtain⟨its,_,⟨o,n,h1,h2,_⟩,_⟩:=I.list (sg.seq hq);exact kia_one PySem.W.kitx_list I.kIn ⟨o,h1,h2⟩ (kit h) (fun z=>nomatch z) fin
 |dic c=>simp[isiW]at h
 |dw _ _ _ _=>simp[isiW]at h
 |fn _ _ _=>simp[isiW]at h
 |exc c=>
  obtain⟨e,rfl,he⟩:=p;cases r;unfold isiW at h;split at h
  ·rename_i D heq;cases heq;split at h
   ·rename_i hC;obtain⟨⟨o,vs,h1,h2,h3⟩,_⟩:=(show ObjOk X.prog X.w H s.heap e (excO e (.ref D))from I.hok e _ (sg _ _ he));exact kia_one (x8e (ExcCls.of hC)) I.kIn ⟨o,vs,h1,h2,h3⟩ (kit h) (fun z=>nomatch z) fin
   ·cases h
  all_goals first|(cases h;done)|(rename_i h1 h2 h3 h4 h5;exact absurd rfl (h2 c))|(rename_i h1 h2 h3 h4;exact absurd rfl (h2 c))|(rename_i h1 h2 h3;exact absurd rfl (h2 c))|(rename_i h1 h2;exact absurd rfl (h2 c))
noncomputable def dIsi(K:PySem.W.Frag)(cv:Value)(d:Den W):Den W:=fun e=>(d e).bind fun w e1=>match isiW K cv w with
 |some (.bl b)=>.ok (.bl b) e1
 |_=>.no
theorem x5u{c:V}(hc:ClsV c cv):CallR X (.builtin "isinstance") (fun xs H Q=>∃x G w b,xs=[x,c]/\Same G H/\Rep X.K G w x/\isiW X.K cv w=some (.bl b)/\Q (.bl b) H):=by
 intro pins s σ H xs us Q I r h;obtain⟨x,G,w,b,rfl,sg,p,hi,q⟩:=h;obtain⟨u,u2,rfl,rx,rc⟩:=vals2 r
 have ec:u2=cv:=by
  cases c with
  |ty n=>exact(show u2=Value.type n from rc).trans (show cv=Value.type n from hc).symm
  |ref a=>exact(show u2=Value.ref a from rc).trans (show cv=Value.ref a from hc).symm
  |_=>exact hc.elim
 subst ec;exact y2c I sg p rx hi q
theorem q7q{c0:V}(hc:ClsV c0 cv)(hcl:PE X c (tC c0))(hm:X.mg "isinstance"=none)(he:DE Z X EE e da)(hg:Gl X "isinstance":=by rfl)(hs:starEach [e,c] X.env=(false,eval e X.env)::starEach [c] X.env:=by rfl)(hs2:starEach [c] X.env=(false,eval c X.env)::starEach [] X.env:=by rfl)(hpl:(backTo pos (starEach [c] X.env)).any (·.1)=false:=by rfl):
  DE Z X EE (.Call (.Name "isinstance" p) [e,c] [] pos) (dIsi X.K cv da):=by
 refine PE.mono (q64 (x5u hc) hg hm PyProof.Rows.Boot.«isinstance» (q17 he (q17 hcl q38 hs2) hs) (by decide) (by decide) hs hpl) ?_;rintro σ H Q ⟨G,e,rel,h⟩;simp only[dIsi,R.holds_bind]at h;refine⟨G,e,rel,h.imp (fun w e1 h G1 v1 H1 r1 s1 p1=>?_) fun _ _ h=>h⟩
 split at h
 ·rename_i b hb;exact⟨v1,G1,w,b,rfl,r1.sub,p1,hb,h G1 _ H1 r1 s1 rfl⟩
 ·exact h.elim
theorem q41{n:Str}{T:String}(hv:bootBuiltins n=some (.type T))(hm:X.mg n=none)(hg:Gl X n:=by rfl)(hn:n≠"__name__":=by decide)(hd:(n==("__debug__":Str))=false:=by decide):PE X (.Name n pos) (tC (.ty T)):=y1j (v:=.ty T) hg hm hv rfl hn hd
noncomputable def tup1:List W->Option W
 |[.lst ws]=>some (.tup ws)
 |[.tup ws]=>some (.tup ws)
 |_=>none
theorem y6a:OpN K (fun xs H Q=>∃p ys,xs=[.ref p]/\((SqL K H p ys/\∀l,H l=none->Q (.ref l) (upd H l (.tup ys)))\/(SqT K H p ys/\Q (.ref p) H))) tup1:=by
 intro G H xs ws w Q s pr hf h;unfold tup1 at hf;split at hf
 ·cases hf;obtain⟨x,r,rfl,px,pr⟩:=pr;cases(show r=[]from pr);obtain⟨a,ys,rfl,ha,ra⟩:=px;refine⟨a,ys,rfl,.inl ⟨s.seq ha,fun l hl=>?_⟩⟩
  have g:=Grow.laid s hl (.tup ys);exact h _ _ _ g ⟨l,ys,rfl,SqT.of q0g,Reps.mono g.gg _ ra⟩
 ·cases hf;obtain⟨x,r,rfl,px,pr⟩:=pr;cases(show r=[]from pr);obtain⟨a,ys,rfl,ha,ra⟩:=px;exact⟨a,ys,rfl,.inr ⟨s.tup ha,h G _ H (.refl s) ⟨a,ys,rfl,ha,ra⟩⟩⟩
 ·cases hf
theorem q69(hm:X.mg "tuple"=none)(ha:DA Z X EE [e] dA)(hg:Gl X "tuple":=by rfl)(he:starEach [e] X.env=(false,eval e X.env)::starEach [] X.env:=by rfl)(hpl:(backTo pos (starEach [] X.env)).any (·.1)=false:=by rfl):DE Z X EE (.Call (.Name "tuple" p) [e] [] pos) (dFn tup1 dA):=
 x5j q9m y6a PyProof.Rows.Boot.«tuple» hm ha hg (by decide) (by decide) he hpl
theorem q19(hm:X.mg "len"=none)(ha:DA Z X EE [e] dA)(hg:Gl X "len":=by rfl)(he:starEach [e] X.env=(false,eval e X.env)::starEach [] X.env:=by rfl)(hpl:(backTo pos (starEach [] X.env)).any (·.1)=false:=by rfl):DE Z X EE (.Call (.Name "len" p) [e] [] pos) (dFn len1 dA):=
 q3w x77 y59 PySem.boot_len hm ha hg (by decide) (by decide) he hpl
noncomputable def lst1:List W->Option (List W)
 |[.lst ws]=>some ws
 |[.tup ws]=>some ws
 |_=>none
noncomputable def dList(dA:Den (List W)):Den (List W):=fun e=>(dA e).bind fun ws e1=>ofOpt (lst1 ws) e1
theorem x2l(hm:X.mg "list"=none)(ha:DA Z X EE [e] dA)(hg:Gl X "list":=by rfl)(he:starEach [e] X.env=(false,eval e X.env)::starEach [] X.env:=by rfl)(hpl:(backTo pos (starEach [] X.env)).any (·.1)=false:=by rfl):DF Z X EE (.Call (.Name "list" p) [e] [] pos) (dList dA):=by
 refine PE.mono (q4l q97 hg hm PyProof.Rows.Boot.«list» ha (by decide) (by decide) he hpl) ?_;rintro σ H Q ⟨G,e,rel,h⟩;simp only[dList,R.holds_bind,ofOpt_holds]at h;refine⟨G,e,rel,h.imp (fun ws e1 h G1 vs H1 r1 s1 p1=>?_) fun _ _ h=>h⟩
 obtain⟨out,hf,h⟩:=h;unfold lst1 at hf;split at hf
 ·cases hf;obtain⟨y,r,rfl,py,pr⟩:=p1;cases(show r=[]from pr);obtain⟨a,ys,rfl,hq,rq⟩:=py;exact⟨a,ys,rfl,.inl (r1.sub.seq hq),q5i r1 s1 rq h⟩
 ·cases hf;obtain⟨y,r,rfl,py,pr⟩:=p1;cases(show r=[]from pr);obtain⟨a,ys,rfl,hq,rq⟩:=py;exact⟨a,ys,rfl,.inr (r1.sub.tup hq),q5i r1 s1 rq h⟩
 ·cases hf
end
section
variable{w:World}{mg:Str->Option Value}{base:Heap}
theorem x5v{F:List W->FR}(hF:∀ws,F ws=.no){vs:List V}{Q:VK}{E:XK}(h:spF K F vs H Q E):False:=by
 obtain⟨G,ws,hn,_⟩:=q7p h;exact hn (hF ws)
noncomputable def spLaw(K:PySem.W.Frag):Sp:=fun vs H Q _=>∃(a:Addr)(ns:List Int),vs=[.ref a]/\SqL K H a (ns.map V.int)/\ns.length<=63/\∀H',Q (.bl true) H'
theorem q84:∀(ns:List Int),Reps K G (ns.map W.int) (ns.map V.int)
 |[]=>rfl
 |n::ns=>⟨_,_,rfl,rfl,q84 ns⟩
theorem x8l{F:List W->FR}(hF:∀ns:List Int,ns.length<=63->F [.lst (ns.map .int)]=.ok (.fr (.bl true))){vs:List V}{Q:VK}{E:XK}(h:spLaw K vs H Q E):spF K F vs H Q E:=by
 obtain⟨a,ns,rfl,hS,hl,q⟩:=h;refine⟨fun b=>if b=a then H a else none,[.lst (ns.map .int)],fun b o z=>?_,⟨.ref a,[],rfl,⟨a,ns.map V.int,rfl,?_,q84 ns⟩,rfl⟩,?_⟩
 ·by_cases hb:b=a
  ·subst hb;simpa using z
  ·simp[hb]at z
 ·rcases hS with(h|⟨o,h⟩)|h
  ·exact .inl (.inl (by simpa using h))
  ·exact .inl (.inr ⟨o,by simpa using h⟩)
  ·exact .inr h
 ·rw[hF ns hl];intro G' H' v g sl;obtain⟨u,h1,h2⟩:=sl;cases h1;cases(show v=V.bl true from h2);exact q H'
theorem y6b{w:World}{e:Value}{s':Shared}(z:CX1 P w [] H s (fun _ _ _=>False) e s'):False:=by
 obtain⟨_,_,_,_,_,_,_,_,_,_,h⟩:=z;exact h
theorem con0{st:Stmt}{ps:List Str}{F:List W->FR}(A:At K mg x st ps)(hF:∀ws,F ws=.no:=by intro _;rfl):Cal P w K mg base 0 x ps (spF K F):=by
 obtain⟨f,fd,F0,m,b⟩:=A.ex;exact⟨f,fd,⟨fun vs H Q E h=>(x5v hF h).elim,fun A outer s H args us vs Q E _ _ _ _ h=>(x5v hF h).elim⟩,m,F0.kp,b⟩
end
section
variable{e:Expr}{d:Den Str}
def DFm(Z:Zt)(X:Cx)(EE:L2.St->XK)(n:Nat)(es:List Expr)(d:Den Str):Prop:=PF X es (fun acc σ H Q=>acc.length+n*1000001<=16777216/\∃G e,Rel X.K Z G σ H e/\(d e).holds (fun y e'=>∀G' H',Rel X.K Z G' σ H' e'->Same G G'->Q (acc++y) H') (XH X.K Z EE σ G))
end
section
variable{β:Type}{c:Prop} [Decidable c]{a:α}{e':List S}{k:α->List S->R β}{ks:α->List S->SR}{x y:R α}{s t:SR}{v:Value}{st:S}
theorem y2d:(R.ok a e).bind k=k a e:=rfl
theorem y2e:(R.ex v e:R α).bind k=.ex v e:=rfl
theorem y2f:(R.no:R α).bind k=.no:=rfl
theorem x8m:(if c then x else y).bind k=if c then x.bind k else y.bind k:=by split<;>rfl
theorem y6c:(R.ok a e).stm ks=ks a e:=rfl
theorem y6d:(R.ex v e:R α).stm ks=.ex v e:=rfl
theorem y6e:(R.no:R α).stm ks=.no:=rfl
theorem y2g:(if c then x else y).stm ks=if c then x.stm ks else y.stm ks:=by split<;>rfl
noncomputable def SR.seq:SR->(List S->SR)->SR
 |.nx e,b=>b e
 |r,_=>r
theorem y6f{p:List S->SR}:dSeq p q e=(p e).seq q:=by
 unfold dSeq SR.seq;cases p e<;>rfl
theorem y6g:(SR.nx e).seq q=q e:=rfl
theorem y6h:(SR.rt st e).seq q=.rt st e:=rfl
theorem y6i:(SR.ex v e).seq q=.ex v e:=rfl
theorem y6j:(SR.bk e).seq q=.bk e:=rfl
theorem y6k:(SR.ct e).seq q=.ct e:=rfl
theorem y6l:(SR.no).seq q=.no:=rfl
theorem y2h:(if c then s else t).seq q=if c then s.seq q else t.seq q:=by split<;>rfl
theorem y84:(SR.nx e).fn=.ok (.fr .non):=rfl
theorem y85:(SR.rt st e).fn=.ok st:=rfl
theorem y86:(SR.ex v e).fn=.ex v:=rfl
theorem y87:(SR.no).fn=.no:=rfl
theorem y6m:(if c then s else t).fn=if c then s.fn else t.fn:=by split<;>rfl
theorem x3t:ofOpt (some a) e=.ok a e:=rfl
theorem x3u:ofOpt (none:Option α) e=.no:=rfl
theorem x5w{o p:Option α}:ofOpt (if c then o else p) e=if c then ofOpt o e else ofOpt p e:=by split<;>rfl
noncomputable def varS(i:Nat)(e:List S):Option S->R W
 |some (.fr w)=>.ok w e
 |some (.own none ws)=>.ok (.lst ws) (e.set i (.fr (.lst ws)))
 |some (.x k)=>match k.plain with
  |some w=>.ok w e
  |none=>.no
 |_=>.no
theorem y6n:dVar i e=varS i e e[i]?:=by
 unfold dVar varS;cases e[i]? with
 |none=>rfl
 |some s=>cases s with
  |own b ws=>cases b<;>rfl
  |_=>rfl
theorem y2i:varS i e (some (.x (.old w)))=.ok w e:=rfl
theorem y2j:varS i e (some (.x (.new w)))=.ok w e:=rfl
theorem y6o:varS i e (some (.fr w))=.ok w e:=rfl
theorem y2k:varS i e (some (.own none ws))=.ok (.lst ws) (e.set i (.fr (.lst ws))):=rfl
theorem dC_s:dC w e=.ok w e:=rfl
theorem y88:dOp f da db e=(da e).bind fun x e1=>(db e1).bind fun y e2=>ofOpt (f x y) e2:=rfl
theorem y89{f:W->Option W}:dUn f da e=(da e).bind fun x e1=>ofOpt (f x) e1:=rfl
noncomputable def testW(e:List S):W->R Bool
 |.bl k=>.ok k e
 |_=>.no
theorem y2l:dTest da e=(da e).bind fun x e1=>testW e1 x:=rfl
theorem y2m:testW e (.bl b)=.ok b e:=rfl
theorem y6p:dTru da e=(da e).bind fun x e1=>ofOpt (truW x) e1:=rfl
theorem y6q{p q:Den Bool}:dAnd p q e=(p e).bind fun x e1=>if x=true then q e1 else .ok false e1:=rfl
theorem y9a{p q:Den Bool}:dOr p q e=(p e).bind fun x e1=>if x=true then .ok true e1 else q e1:=rfl
theorem y6r{p:Den Bool}:dNot p e=(p e).bind fun x e1=>.ok (!x) e1:=rfl
noncomputable def andK(q:Den W)(e:List S):W->R W
 |.bl true=>q e
 |.bl false=>.ok (.bl false) e
 |_=>.no
theorem y2n{p q:Den W}:dAndV p q e=(p e).bind fun x e1=>andK q e1 x:=rfl
theorem y6s{q:Den W}:andK q e (.bl b)=if b=true then q e else .ok (.bl false) e:=by cases b<;>rfl
theorem y6t:dNil e=.ok [] e:=rfl
theorem y2o{p:Den W}{q:Den (List W)}:dCons p q e=(p e).bind fun x e1=>(q e1).bind fun xs e2=>.ok (x::xs) e2:=rfl
theorem y6u:dTup p e=(p e).bind fun xs e1=>if xs.length<=16777216 then .ok (.tup xs) e1 else .no:=rfl
theorem y6v:dLst p e=(p e).bind fun xs e1=>if xs.length<=16777216 then .ok xs e1 else .no:=rfl
theorem y9b:dFz p e=(p e).bind fun xs e1=>.ok (.lst xs) e1:=rfl
theorem y9c{f:List W->Option W}:dFn f p e=(p e).bind fun xs e1=>ofOpt (f xs) e1:=rfl
theorem y2p:dList p e=(p e).bind fun xs e1=>ofOpt (lst1 xs) e1:=rfl
theorem y9d:dNx e=.nx e:=rfl
theorem y2q:dDrop d e=(d e).stm fun _ e'=>.nx e':=rfl
theorem y6w:dRet d e=(d e).stm fun w e'=>.rt (.fr w) e':=rfl
noncomputable def retS(e:List S):Option S->SR
 |some (.own none ws)=>.rt (.own none ws) e
 |some (.fr w)=>.rt (.fr w) e
 |_=>.no
theorem y2r:dRetO i e=retS e e[i]?:=by
 unfold dRetO retS;cases e[i]? with
 |none=>rfl
 |some s=>cases s with
  |own b ws=>cases b<;>rfl
  |_=>rfl
theorem y2s:retS e (some (.own none ws))=.rt (.own none ws) e:=rfl
theorem y6x:retS e (some (.fr w))=.rt (.fr w) e:=rfl
theorem y6y{p:Den Bool}{q':List S->SR}:dIfS p q q' e=(p e).stm fun x e1=>if x=true then q e1 else q' e1:=rfl
theorem y6z:dSet i d e=(d e).stm fun w e'=>.nx (e'.set i (.fr w)):=rfl
theorem y2t{d:Den (List W)}:dSetO i d e=(d e).stm fun w e'=>.nx (e'.set i (.own none w)):=rfl
noncomputable def callR(e:List S):FR->R W
 |.ok (.fr w)=>.ok w e
 |.ok (.own none ws)=>.ok (.lst ws) e
 |.ok (.dic kvs)=>.ok (.dic kvs) e
 |.ok (.thr us ws vs)=>.ok (.tup (us++.lst ws::vs)) e
 |.ok (.x (.new w))=>.ok w e
 |.ok (.x (.tn us wss))=>.ok (.tup (us++[.lst (wss.map .lst)])) e
 |.ex c=>.ex c e
 |_=>.no
theorem x8n{vs:List W}:callR e (.ok (.thr us ws vs))=.ok (.tup (us++.lst ws::vs)) e:=rfl
theorem x8o:callR e (.ok (.x (.new w)))=.ok w e:=rfl
theorem x8p{kvs:Dd}:callR e (.ok (.dic kvs))=.ok (.dic kvs) e:=rfl
theorem y2u{F:List W->FR}{d:Den (List W)}:dCall F d e=(d e).bind fun ws e1=>callR e1 (F ws):=by
 unfold dCall;congr 1
theorem y2v:callR e (.ok (.fr w))=.ok w e:=rfl
theorem x8q:callR e (.ok (.own none ws))=.ok (.lst ws) e:=rfl
theorem y2w:callR e (.ex v)=.ex v e:=rfl
theorem y2x:callR e .no=.no:=rfl
theorem x8r{f g:FR}:callR e (if c then f else g)=if c then callR e f else callR e g:=by split<;>rfl
noncomputable def callF(e:List S):FR->R (List W)
 |.ok (.own none ws)=>.ok ws e
 |.ex c=>.ex c e
 |_=>.no
theorem x5x:callF e (.ok (.own none ws))=.ok ws e:=rfl
theorem x8s:callF e (.ex v)=.ex v e:=rfl
theorem x5y{f g:FR}:callF e (if c then f else g)=if c then callF e f else callF e g:=by split<;>rfl
noncomputable def forW(i:Nat)(b:List S->SR)(e:List S):Option (List W)->SR
 |some ws=>forD i b ws e
 |none=>.no
theorem y60{b:List S->SR}:dFor i d b e=(d e).stm fun w e1=>forW i b e1 (seqW w):=by
 unfold dFor;congr 1
theorem y2y{g:List W->Option (List W)}{d:Den (List W)}{b:List S->SR}:dForR i g d b e=(d e).stm fun w e1=>forW i b e1 (g w):=by
 unfold dForR;congr 1
theorem x5z{b:List S->SR}:forW i b e (some ws)=forD i b ws e:=rfl
noncomputable def SR.turn:SR->(List S->SR)->SR
 |.nx e,k=>k e
 |.ct e,k=>k e
 |.bk e,_=>.nx e
 |.rt s e,_=>.rt s e
 |.ex c e,_=>.ex c e
 |.no,_=>.no
theorem x0f{b:List S->SR}:forD i b (w::ws) e=(b (e.set i (.fr w))).turn (forD i b ws):=by
 show(match b (e.set i (.fr w))with|.nx e'=>forD i b ws e'|.ct e'=>forD i b ws e'|.bk e'=>.nx e'|.rt s e'=>.rt s e'|.ex c e'=>.ex c e'|.no=>.no)=_;cases b (e.set i (.fr w))<;>rfl
theorem q8h:(SR.nx e).turn q=q e:=rfl
theorem y2z:(SR.ct e).turn q=q e:=rfl
theorem y20:(SR.bk e).turn q=.nx e:=rfl
theorem y21:(SR.rt st e).turn q=.rt st e:=rfl
theorem y22:(SR.ex v e).turn q=.ex v e:=rfl
theorem y23:(SR.no).turn q=.no:=rfl
theorem x8t:(if c then s else t).turn q=if c then s.turn q else t.turn q:=by split<;>rfl
theorem q3n{p:Den Bool}{b:List S->SR}:whileD p b (n+1) e=(p e).stm fun x e1=>if x=true then(b e1).turn (whileD p b n)else .nx e1:=by
 show(p e).stm _=_;congr 1;funext x e1
 split
 ·cases b e1<;>rfl
 ·rfl
noncomputable def look1(k:W->R W):Option W->R W
 |none=>.no
 |some w=>k w
theorem y61:dIxV i d e=look1 (fun _=>(d e).bind fun k e1=>look1 (fun w=>ofOpt (ixW w k) e1) (e1[i]?.bind S.look)) (e[i]?.bind S.look):=by
 unfold dIxV look1;cases e[i]?.bind S.look with
 |none=>rfl
 |some w=>
  dsimp only;try congr 1
theorem x50{k:W->R W}:look1 k (some w)=k w:=rfl
theorem y9e:S.look (.fr w)=some w:=rfl
theorem y62:S.look (.x (.old w))=some w:=rfl
theorem y63:S.look (.x (.new w))=some w:=rfl
theorem y64:S.look (.x (.acc ws))=some (.lst ws):=rfl
theorem y65{b:Option Nat}:S.look (.own b ws)=some (.lst ws):=rfl
noncomputable def appK(i:Nat)(e:List S):List W->Option S->SR
 |[w],some (.own b xs)=>if xs.length<16777216 then .nx (e.set i (.own b (xs++[w])))else .no
 |_,_=>.no
noncomputable def ownQ(k:SR):Option S->SR
 |some (.own _ _)=>k
 |_=>.no
theorem y66{d:Den (List W)}:dApp i d e=ownQ ((d e).stm fun ws e1=>appK i e1 ws e1[i]?) e[i]?:=by
 unfold dApp ownQ;cases e[i]? with
 |none=>rfl
 |some s=>cases s with
  |own b xs=>
   dsimp only;try congr 1
  |_=>rfl
theorem y9f{k:SR}{b:Option Nat}:ownQ k (some (.own b ws))=k:=rfl
theorem y9g{b:Option Nat}{xs:List W}:appK i e [w] (some (.own b xs))=if xs.length<16777216 then .nx (e.set i (.own b (xs++[w])))else .no:=rfl
theorem x8u{C:Addr}{d:Den (List W)}:dRaise C d e=(d e).stm fun ws e1=>if ws.length<=16777216 then .ex (.ref C) e1 else .no:=rfl
noncomputable def isiK(e:List S):Option W->R W
 |some (.bl b)=>.ok (.bl b) e
 |_=>.no
theorem y67:dIsi K cv d e=(d e).bind fun w e1=>isiK e1 (isiW K cv w):=by
 unfold dIsi;congr 1
theorem y68:isiK e (some (.bl b))=.ok (.bl b) e:=rfl
theorem x2m{b:Int}{k:Bool}(h:kitOne K (.type "int") cv=some k):isiW K cv (.int b)=some (.bl k):=by show(kitOne K (.type "int") cv).map W.bl=_;rw[h];rfl
theorem y24{b:List W}{k:Bool}(h:kitOne K (.type "tuple") cv=some k):isiW K cv (.tup b)=some (.bl k):=by show(kitOne K (.type "tuple") cv).map W.bl=_;rw[h];rfl
theorem y25{b:List W}{k:Bool}(h:kitOne K (.type "list") cv=some k):isiW K cv (.lst b)=some (.bl k):=by show(kitOne K (.type "list") cv).map W.bl=_;rw[h];rfl
noncomputable def compR(e:List S):Option (List W)->R (List W)
 |some out=>.ok out e
 |none=>.no
theorem y26:compK js cc d ws e=if ws.length<=16777216 then compR (frzs js e) (compD cc d (pjS js (frzs js e)) ws)else .no:=by
 unfold compK compR;split
 ·cases compD cc d (pjS js (frzs js e)) ws<;>rfl
 ·rfl
noncomputable def compW(js:List Nat)(cc:Den Bool)(d:Den W)(e:List S):Option (List W)->R (List W)
 |some ws=>compK js cc d ws e
 |none=>.no
theorem y27{di:Den W}:dComp js di cc d e=(di e).bind fun w e1=>compW js cc d e1 (seqW w):=by
 unfold dComp;congr 1
theorem x3v:compW js cc d e (some ws)=compK js cc d ws e:=rfl
theorem x3w:compR e (some out)=.ok out e:=rfl
theorem y69:dYes e=.ok true e:=rfl
theorem x8v:frzs [] e=e:=rfl
theorem x51:frzs (j::js) e=frzs js (frz1 e j):=rfl
theorem y28:pjS [] e=[]:=rfl
theorem x8w:pjS (j::js) e=pj1 e j::pjS js e:=rfl
theorem x0g{g:W->W}:∀(ws:List W),(∀w∈ws,∃e',d (.fr w::pe)=.ok (g w) e')->compD dYes d pe ws=some (ws.map g)
 |[],_=>rfl
 |w::ws,h=>by
  obtain⟨e',he⟩:=h w (by simp);show(match d (.fr w::pe)with|.ok y _=>(compD dYes d pe ws).map (y::·)|_=>none)=_;rw[he,x0g ws fun u hu=>h u (by simp[hu])]
  rfl
theorem x52:compD cc d pe (w::ws)=(match cc (.fr w::pe)with
  |.ok true e1=>(match d e1 with|.ok y _=>(compD cc d pe ws).map (y::·)|_=>none)
  |.ok false _=>compD cc d pe ws
  |_=>none):=rfl
end
section
variable{i j:Int}{c:Bool}
theorem y7a:addW (.int i) (.int j)=some (.int (i+j)):=rfl
theorem y7b:addW (.str x) (.str y)=if x.length+y.length<=16777216 then some (.str (x++y))else none:=rfl
theorem y7c:addW (.lst ws) (.lst us)=if ws.length+us.length<=16777216 then some (.lst (ws++us))else none:=rfl
theorem y7d:subW (.int i) (.int j)=some (.int (i-j)):=rfl
theorem y7e:mulW (.int i) (.int j)=if(-18446744073709551616<i/\i<18446744073709551616)\/(-18446744073709551616<j/\j<18446744073709551616)then some (.int (i*j))else none:=rfl
theorem y29:fdivW (.int i) (.int j)=if 0<j/\j<1073741824 then some (.int (i / j))else none:=rfl
theorem y7f:modW (.int i) (.int j)=if 0<j then some (.int (i%j))else none:=rfl
theorem y9h:ltW (.int i) (.int j)=some (.bl (decide (i<j))):=rfl
theorem y9i:leW (.int i) (.int j)=some (.bl (decide (i<=j))):=rfl
theorem y9j:gtW (.int i) (.int j)=some (.bl (decide (j<i))):=rfl
theorem y9k:negW (.int i)=some (.int (-i)):=rfl
theorem y9l:eq2 (.int i) (.int j)=some (.bl (decide (i=j))):=by
 show some (W.bl (i==j))=_;congr 2
theorem y9m:eq2 (.str x) (.str y)=some (.bl (decide (x=y))):=by
 show some (W.bl (x==y))=_;congr 2
theorem y9n:eq2 (.bl b) (.bl c)=some (.bl (decide (b=c))):=by
 show some (W.bl (b==c))=_;congr 2
theorem y9o:ne2 (.int i) (.int j)=some (.bl (!decide (i=j))):=by
 show some (W.bl (!(i==j)))=_;congr 2
theorem y9p:ne2 (.str x) (.str y)=some (.bl (!decide (x=y))):=by
 show some (W.bl (!(x==y)))=_;congr 2
theorem ne_bb:ne2 (.bl b) (.bl c)=some (.bl (!decide (b=c))):=by
 show some (W.bl (!(b==c)))=_;congr 2
theorem ix_t:ixW (.tup ws) (.int i)=atI ws i:=rfl
theorem ix_l:ixW (.lst ws) (.int i)=atI ws i:=rfl
theorem y9q:len1 [.tup ws]=some (.int ws.length):=rfl
theorem y9r:len1 [.lst ws]=some (.int ws.length):=rfl
theorem y9s:tup1 [.lst ws]=some (.tup ws):=rfl
theorem y9t:tup1 [.tup ws]=some (.tup ws):=rfl
theorem y9u:lst1 [.lst ws]=some ws:=rfl
theorem y9v:lst1 [.tup ws]=some ws:=rfl
theorem y9w:truW (.bl b)=some b:=rfl
theorem y9x:truW (.int i)=some (i != 0):=rfl
theorem y9y:truW .non=some false:=rfl
theorem y9z:truW (.tup ws)=some (!ws.isEmpty):=rfl
theorem y90:truW (.lst ws)=some (!ws.isEmpty):=rfl
theorem y91:seqW (.tup ws)=some ws:=rfl
theorem y92:seqW (.lst ws)=some ws:=rfl
theorem sc_i:scalW (.int i)=true:=rfl
theorem sc_b:scalW (.bl b)=true:=rfl
theorem sc_s:scalW (.str x)=true:=rfl
theorem sc_n:scalW .non=true:=rfl
theorem sl_l{lo hi:Option Int}:slW (.lst ws) lo hi=some (.lst (cutW ws lo hi)):=rfl
theorem at0{xs:List α}:atI xs 0=xs[0]?:=by
 cases xs with
 |nil=>rfl
 |cons a l=>exact q2x (j:=0) rfl
theorem at1{xs:List α}:atI xs 1=xs[1]?:=by
 cases xs with
 |nil=>rfl
 |cons a l=>
  cases l with
  |nil=>rfl
  |cons b l=>exact q2x (j:=1) rfl
theorem at2{xs:List α}:atI xs 2=xs[2]?:=by
 cases xs with
 |nil=>rfl
 |cons a l=>
  cases l with
  |nil=>rfl
  |cons b l=>
   cases l with
   |nil=>rfl
   |cons c l=>exact q2x (j:=2) rfl
theorem y7g{xs:List α}{k:Int}(h0:0<=k):atI xs k=xs[k.toNat]?:=by
 unfold atI ixN;rw[if_pos h0]
 by_cases h:k<xs.length
 ·rw[if_pos h];rfl
 ·rw[if_neg h];exact(w1w (by omega)).symm
theorem x0h{a b:String}(h:Str.ofString a=Str.ofString b):a=b:=by
 rw[Str.ofString_eq_toList,Str.ofString_eq_toList]at h;have h1:(a.toList.map Char.toNat).toArray=(b.toList.map Char.toNat).toArray:=congrArg Str.cps h;have h2:a.toList.map Char.toNat=b.toList.map Char.toNat:=by simpa using congrArg Array.toList h1
 have h3:a.toList=b.toList:=by
  have inj:∀c d:Char,c.toNat=d.toNat->c=d:=fun c d e=>by
   apply Char.ext;exact UInt32.toNat_inj.mp e
  exact(w3u inj).mp h2
 exact String.toList_inj.mp h3
theorem y7h{a b:String}:(Str.ofString a=Str.ofString b)=(a=b):=propext ⟨x0h,fun h=>by rw[h]⟩
end
noncomputable def max2:List W->Option W
 |[.int i,.int j]=>some (.int (if j>i then j else i))
 |_=>none
noncomputable def min2:List W->Option W
 |[.int i,.int j]=>some (.int (if j<i then j else i))
 |_=>none
noncomputable def int1:List W->Option W
 |[.int i]=>some (.int i)
 |[.bl b]=>some (.int (if b then 1 else 0))
 |_=>none
theorem y7i:OpN K (fun xs H Q=>∃i j,xs=[.int i,.int j]/\Q (.int (if j>i then j else i)) H) max2:=by
 intro G H xs ws w Q s pr hf h;unfold max2 at hf;split at hf
 ·cases hf;obtain⟨x,r,rfl,px,y,r2,rfl,py,pr⟩:=pr;cases(show r2=[]from pr);cases px;cases py;exact⟨_,_,rfl,h G _ H (.refl s) rfl⟩
 ·cases hf
theorem y7j:OpN K (fun xs H Q=>∃i j,xs=[.int i,.int j]/\Q (.int (if j<i then j else i)) H) min2:=by
 intro G H xs ws w Q s pr hf h;unfold min2 at hf;split at hf
 ·cases hf;obtain⟨x,r,rfl,px,y,r2,rfl,py,pr⟩:=pr;cases(show r2=[]from pr);cases px;cases py;exact⟨_,_,rfl,h G _ H (.refl s) rfl⟩
 ·cases hf
theorem y7k:OpN K (fun xs H Q=>(∃i,xs=[.int i]/\Q (.int i) H)\/∃k,xs=[.bl k]/\Q (.int (if k then 1 else 0)) H) int1:=by
 intro G H xs ws w Q s pr hf h;unfold int1 at hf;split at hf
 ·cases hf;obtain⟨x,r,rfl,px,pr⟩:=pr;cases(show r=[]from pr);cases px;exact .inl ⟨_,rfl,h G _ H (.refl s) rfl⟩
 ·cases hf;obtain⟨x,r,rfl,px,pr⟩:=pr;cases(show r=[]from pr);cases px;exact .inr ⟨_,rfl,h G _ H (.refl s) rfl⟩
 ·cases hf
section
variable{a b c e:Expr}{p p1 p2 pos1 pos2:Pos}
theorem y3a(hc:X.calm=true)(hm:X.mg "max"=none)(ha:DA Z X EE [a,b] dA)(hg:Gl X "max":=by rfl)(he:starEach [a,b] X.env=(false,eval a X.env)::starEach [b] X.env:=by rfl)(hpl:(backTo pos (starEach [b] X.env)).any (·.1)=false:=by rfl):DE Z X EE (.Call (.Name "max" p) [a,b] [] pos) (dFn max2 dA):=
 q3w (x44 hc) y7i PyProof.Rows.Boot.«max» hm ha hg (by decide) (by decide) he hpl
theorem q6m(hc:X.calm=true)(hm:X.mg "min"=none)(ha:DA Z X EE [a,b] dA)(hg:Gl X "min":=by rfl)(he:starEach [a,b] X.env=(false,eval a X.env)::starEach [b] X.env:=by rfl)(hpl:(backTo pos (starEach [b] X.env)).any (·.1)=false:=by rfl):DE Z X EE (.Call (.Name "min" p) [a,b] [] pos) (dFn min2 dA):=
 q3w (x45 hc) y7j PyProof.Rows.Boot.«min» hm ha hg (by decide) (by decide) he hpl
theorem y3b(hm:X.mg "int"=none)(ha:DA Z X EE [e] dA)(hg:Gl X "int":=by rfl)(he:starEach [e] X.env=(false,eval e X.env)::starEach [] X.env:=by rfl)(hpl:(backTo pos (starEach [] X.env)).any (·.1)=false:=by rfl):DE Z X EE (.Call (.Name "int" p) [e] [] pos) (dFn int1 dA):=
 x5j x46 y7k PyProof.Rows.Boot.«int» hm ha hg (by decide) (by decide) he hpl
end
theorem y7l{i j:Int}:max2 [.int i,.int j]=some (.int (if j>i then j else i)):=rfl
theorem y7m{i j:Int}:min2 [.int i,.int j]=some (.int (if j<i then j else i)):=rfl
theorem y93{i:Int}:int1 [.int i]=some (.int i):=rfl
theorem y94:int1 [.bl b]=some (.int (if b then 1 else 0)):=rfl
theorem cast0:((0:Nat):Int)=0:=rfl
theorem cast1:((1:Nat):Int)=1:=rfl
theorem x0i{b:List S->SR}(I:Nat->List S->Prop):∀(ws:List W)(k:Nat)(e:List S),I k e->(∀(j:Nat)(w:W)(e:List S),ws[j]?=some w->I (k+j) e->∃e',b (e.set i (.fr w))=.nx e'/\I (k+j+1) e')->∃e',forD i b ws e=.nx e'/\I (k+ws.length) e'
 |[],k,e,h0,_=>⟨e,rfl,h0⟩
 |w::ws,k,e,h0,h=>by
  obtain⟨e1,h1,h2⟩:=h 0 w e rfl h0
  obtain⟨e2,h3,h4⟩:=x0i I ws (k+1) e1 h2 fun j u e hu hI=>by
   have z:=h (j+1) u e (by simpa using hu) (by rw[show k+(j+1)=k+1+j by omega];exact hI);rw[show k+(j+1)+1=k+1+j+1 by omega]at z;exact z
  refine⟨e2,?_,?_⟩
  ·rw[x0f,h1,q8h,h3]
  ·rw[w0p,show k+(ws.length+1)=k+1+ws.length by omega];exact h4
theorem len_range{lo hi:Int}:(rangeW lo hi).length=(hi-lo).toNat:=by simp[rangeW]
theorem x53{lo hi:Int}(h:(rangeW lo hi)[j]?=some w):w=.int (lo+j)/\j<(hi-lo).toNat:=by
 unfold rangeW at h;rw[w0f]at h;obtain⟨k,h1,rfl⟩:=w0b.mp h;obtain⟨h2,h3⟩:=w0a.mp h1;simp at h2 h3;subst h3;exact⟨rfl,by omega⟩
theorem q1x{b:List S->SR}{lo hi:Int}(n:Nat)(hn:(hi-lo).toNat=n)(I:Nat->List S->Prop)(e:List S)(h0:I 0 e)(h:∀(j:Nat)(e:List S),j<n->I j e->∃e',b (e.set i (.fr (.int (lo+j))))=.nx e'/\I (j+1) e'):∃e',forD i b (rangeW lo hi) e=.nx e'/\I n e':=by
 obtain⟨e',h1,h2⟩:=x0i (b:=b) (i:=i) I (rangeW lo hi) 0 e h0 fun j w e hw hI=>by
  obtain⟨rfl,hj⟩:=x53 hw;rw[w2x]at hI |-
  exact h j e (by omega) hI
 rw[len_range,hn,w2x]at h2;exact⟨e',h1,h2⟩
noncomputable def SR.turnT(r:SR)(k:List S->SR):SR:=match r with
 |.nx e'=>k e'
 |.ct e'=>k e'
 |.bk e'=>.nx e'
 |.rt s e'=>.rt s e'
 |.ex c e'=>.ex c e'
 |.no=>.no
structure TabK(P:Program)(w:World)(K:PySem.W.Frag)(d:Addr)(tb:List (Str×Int)):Prop where
 tab:∀h,K.In h->PyProof.Rows.StrTab P w h d (PySem.W.kdpD tb)
 obj:∃o,K.lookup d=some o/\o.cls=.type "dict" /\ o.dict=none
noncomputable def extB(i:Nat)(e:List S)(b:Option Nat)(xs:List W):Option (List W)->SR
 |some ys=>if xs.length+ys.length<=16777216 then .nx (e.set i (.own b (xs++ys)))else .no
 |none=>.no
theorem x54{b:Option Nat}{xs ys:List W}:extB i e b xs (some ys)=if xs.length+ys.length<=16777216 then .nx (e.set i (.own b (xs++ys)))else .no:=rfl
noncomputable def forP(i j:Nat)(b:List S->SR):List (W×W)->List S->SR
 |[],e=>.nx e
 |p::ps,e=>(b ((e.set i (.fr p.1)).set j (.fr p.2))).turnT (forP i j b ps)
noncomputable def dForP(i j:Nat)(d:Den (List (W×W)))(b:List S->SR):List S->SR:=fun e=>(d e).stm fun ps e1=>forP i j b ps e1
noncomputable def compP(c:Den Bool)(d:Den W)(pe:List S):List (W×W)->Option (List W)
 |[]=>some []
 |p::ps=>match c (.fr p.1::.fr p.2::pe)with
  |.ok true e1=>match d e1 with
   |.ok y _=>(compP c d pe ps).map (y::·)
   |_=>none
  |.ok false _=>compP c d pe ps
  |_=>none
noncomputable def compPK(js:List Nat)(c:Den Bool)(d:Den W)(ps:List (W×W))(e1:List S):R (List W):=
 if ps.length<=16777216 then(match compP c d (pjS js (frzs js e1)) ps with
  |some out=>.ok out (frzs js e1)
  |none=>.no)else .no
noncomputable def dCompP(js:List Nat)(di:Den (List (W×W)))(c:Den Bool)(d:Den W):Den (List W):=fun e=>(di e).bind fun ps e1=>compPK js c d ps e1
structure Walk2(K:PySem.W.Frag)(G1:Hp)(J:It)(ps:List (W×W)):Prop where
 go:∀(i:Nat)(G H:Hp),Same G1 G->Same G H->i<ps.length->J.go i H
 yld:∀(i:Nat)(G H:Hp)(x:V)(H':Hp),Same G1 G->Same G H->J.yld i H x H'->∀u v,ps[i]?=some (u,v) ->
  Grow G H G H'/\∀(m n:Nat)(σ:St)(Q:St->Hp->Prop),(∀y z,Rep K G u y->Rep K G v z->Q ((σ.set m (some y)).set n (some z)) H')->gTup K 2 (gCons (gName m) (gCons (gName n) gNil)) x σ H' Q
 stop:∀(i:Nat)(G H:Hp),Same G1 G->Same G H->ps.length<=i->J.stop i H
def liftI(K:PySem.W.Frag)(Z:Zt)(EE:L2.St->XK)(d:Den (List (W×W))):TI:=fun σ H R=>AtG K Z σ H fun G e=>(d e).holds (fun ps e1=>∀G1 H1 J,Rel K Z G1 σ H1 e1->Same G G1->Walk2 K G1 J ps->R J H1) (XH K Z EE σ G)
def DI(Z:Zt)(X:Cx)(EE:L2.St->XK)(tg iter:Expr)(d:Den (List (W×W))):Prop:=PI X tg iter (liftI X.K Z EE d)
theorem PI.mono{tg iter:Expr}{wi wi':TI}(h:PI X tg iter wi)(m:∀σ H R,wi' σ H R->wi σ H R):PI X tg iter wi':=fun pins s σ H R I q=>h pins s σ H R I (m σ H R q)
theorem x55{D:Ends}{Pv:St->Hp->Prop}{G':Hp}{p:W×W}{x y:V}(r:Rel K Z G' σ H e)(s:Same G1 G')(pu:Rep K G' p.1 x)(pv:Rep K G' p.2 y)
  (h:PostS K Z EE D G1 (forP i j s1 (p::ps) e))(hP:∀G'' σ'' H'' e'',Rel K Z G'' σ'' H'' e''->Same G1 G''->PostS K Z EE D G1 (forP i j s1 ps e'')->Pv σ'' H''):
  liftS K Z EE s1 {D with nx:=Pv,ct:=Pv,bk:=D.nx} ((σ.set i (some x)).set j (some y)) H:=by
 refine⟨G',_,(r.set pu).set pv,?_⟩;unfold forP at h;cases q:s1 ((e.set i (.fr p.1)).set j (.fr p.2))with
 |nx e'=>rw[q]at h;exact fun G'' σ'' H'' r'' s''=>hP G'' σ'' H'' e' r'' (s.trans s'') h
 |ct e'=>rw[q]at h;exact fun G'' σ'' H'' r'' s''=>hP G'' σ'' H'' e' r'' (s.trans s'') h
 |bk e'=>rw[q]at h;exact fun G'' σ'' H'' r'' s''=>h G'' σ'' H'' r'' (s.trans s'')
 |rt t e'=>rw[q]at h;exact fun G'' σ'' v H'' r'' s'' p=>h G'' σ'' v H'' r'' (s.trans s'') p
 |ex c e'=>rw[q]at h;exact fun G'' σ'' H'' r'' s''=>h G'' σ'' H'' r'' (s.trans s'')
 |no=>rw[q]at h;exact h
theorem q7r{p:W×W}(h:ps[k]?=some p):ps.drop k=p::ps.drop (k+1):=by
 obtain⟨h1,h2⟩:=w0a.mp h;rw[w2d h1,h2]
theorem Rel.block2(r:Rel K Z G σ H e)(js:List Nat){u:W}{y x:V}(q:Rep K G u y)(p:Rep K G w x):Rel K ⟨H,G,[]⟩ G (some y::some x::pj js σ) H (.fr u::.fr w::pjS js e):=by
 have b:=r.block js p
 have hfr:∀(i:Nat)(s:S),(S.fr w::pjS js e)[i]?=some s->s=.no\/∃u,s=.fr u:=fun i s h=>by
  cases i with
  |zero=>cases h;exact .inr ⟨w,rfl⟩
  |succ k=>
   rw[w0r]at h;unfold pjS at h;rw[w0f]at h;obtain⟨j,h1,h2⟩:=w0b.mp h;unfold pj1 at h2;split at h2
   ·subst h2;exact .inr ⟨_,rfl⟩
   ·subst h2;exact .inl rfl
 refine⟨b.sub,fun i s h=>?_,?_,fun i j b1 b2 w1 w2 a h1 h2 _ _=>?_,b.ent,b.ion,b.gen⟩
 ·cases i with
  |zero=>cases h;exact⟨y,rfl,q⟩
  |succ i=>
   rw[w0r]at h;have z:=b.slot i s h;rcases hfr i s h with rfl|⟨u',rfl⟩
   ·trivial
   ·obtain⟨v,z1,z2⟩:=b.fr h;exact⟨v,by rw[w0r,z1];rfl,z2⟩
 ·have:=b.len;simp only[w0p]at this |-
  omega
 ·cases i with
  |zero=>cases h1
  |succ i=>
   rw[w0r]at h1;rcases hfr i _ h1 with z|⟨u',z⟩<;>cases z
theorem x8x{Q:VK}{G0 H1:Hp}{e1:List S}(W0:Walk2 K G1 J ps)(r1:Rel K Z G1 σ H1 e1)(s1:Same G0 G1)(hl:ps.length<=16777216)
  (hz:∀p,H1 p=none->p∉Z.io)(hc:compP c d (pjS js e1) ps=some out)
  (h:∀G' a xs H',Rel K Z G' σ H' e1->Same G0 G'->H' a=some (.lst xs)->G' a=none->Z.H a=none->Free σ e1 a->Reps K G' out xs->Q (.ref a) H'):
  ∀D,H1 D=none->∃W:Nat->Nat->Hp->Prop,(∃m,W 0 m (upd H1 D (.lst [])))/\∀i m H2,W i m H2 ->
   (J.stop i H2/\Q (.ref D) H2)\/(J.go i H2/\∀x H3,J.yld i H2 x H3->gTup K 2 (gCons (gName 0) (gCons (gName 1) gNil)) x (List.replicate 2 none++pj js σ) H3 fun σ4 H4=>Kp (List.replicate 2 none++pj js σ) σ4/\cT K c σ4 H4 fun b H5=>
    if b=true then cE K d σ4 H5 fun y H6=>∃ys,H6 D=some (.lst ys)/\ys.length<sizeLine/\∃m',m'<m/\W (i+1) m' (upd H6 D (.lst (ys++[y])))else ∃m',m'<m/\W (i+1) m' H5):=by
 intro D hD
 refine⟨fun i m H2=>m=ps.length-i/\i<=ps.length/\∃G2 ys done rest,Rel K Z G2 σ H2 e1/\Same G1 G2/\H2 D=some (.lst ys)/\G2 D=none/\Reps K G2 done ys/\done.length<=i/\compP c d (pjS js e1) (ps.drop i)=some rest/\done++rest=out,
  ⟨ps.length,by omega,w0w _,G1,[],[],out,r1.grow (Grow.hid r1.sub hD _),.refl _,q0g,r1.sub.free hD,rfl,w0i _,hc,rfl⟩,?_⟩
 rintro i m H2 ⟨rfl,hi,G2,ys,done,rest,r2,s2,hd2,hg2,rp2,hdl,hc2,ho⟩;have hfree:Free σ e1 D:=q5h r1 hD;have hzh:Z.H D=none:=q23 r1 hD
 by_cases hlt:i<ps.length
 ·refine .inr ⟨W0.go i G2 H2 s2 r2.sub hlt,fun x H3 hy=>?_⟩
  have hp:ps[i]?=some ((ps[i]).1,(ps[i]).2):=by rw[w0d hlt]
  obtain⟨g3,hgo⟩:=W0.yld i G2 H2 x H3 s2 r2.sub hy _ _ hp;have r2':=r2.grow g3;have hd3:H3 D=some (.lst ys):=g3.hh _ _ hd2;rw[q7r hp]at hc2;refine hgo 0 1 _ _ fun yv zv py pz=>⟨Kp.two,⟨H3,G2,[]⟩,G2,.fr (ps[i]).1::.fr (ps[i]).2::pjS js e1,r2'.block2 js py pz,?_⟩
  unfold compP at hc2;cases qc:c (.fr (ps[i]).1::.fr (ps[i]).2::pjS js e1)with
  |no=>rw[qc]at hc2;cases hc2
  |ex _ _=>rw[qc]at hc2;cases hc2
  |ok k e2=>
   rw[qc]at hc2;intro G3 H5 r3 s3;have g3:=r3.toGrow s3;cases k with
   |false=>
    exact⟨ps.length-(i+1),by omega,rfl,hlt,G3,ys,done,rest,r2'.grow g3,s2.trans s3,g3.hh _ _ hd3,by rw[g3.new D (by rw[hd3];simp)];exact hg2,Reps.mono s3 _ rp2,by omega,hc2,ho⟩
   |true=>
    refine⟨⟨H3,G2,[]⟩,G3,e2,r3,?_⟩;dsimp only at hc2;cases qd:d e2 with
    |no=>rw[qd]at hc2;cases hc2
    |ex _ _=>rw[qd]at hc2;cases hc2
    |ok y e3=>
     rw[qd]at hc2;intro G4 v H6 r4 s4 p4;have g4:=r4.toGrow (s3.trans s4);obtain⟨rest',hr,rfl⟩:=w0b.mp hc2;have hd6:H6 D=some (.lst ys):=g4.hh _ _ hd3;have hg6:G4 D=none:=by rw[g4.new D (by rw[hd3];simp)];exact hg2
     refine⟨ys,hd6,?_,ps.length-(i+1),by omega,rfl,hlt,G4,ys++[v],done++[y],rest',(r2'.grow g4).mutFree hg6 hzh (hz D hD) hfree hd6,s2.trans (s3.trans s4),q0g,hg6,(Reps.mono (s3.trans s4) _ rp2).append (.one p4),by simp;omega,hr,by rw[w1z];exact ho⟩;rw[rp2.length,sizeLine_eq];omega
 ·have:i=ps.length:=by omega
  subst this;rw[w2o]at hc2;cases hc2;rw[w1r]at ho;subst ho;exact .inl ⟨W0.stop _ G2 H2 s2 r2.sub (by omega),h G2 D ys H2 r2 (s1.trans s2) hd2 hg2 hzh hfree rp2⟩
section
variable{elt iter e a:Expr}{body:List Stmt}{ifs:List Expr}{scope sc:Scope}{pt p1 p2 p3:Pos}{Nf N:List Str}{di:Den (List (W×W))}{d0:Den W}
theorem x2n(i j:Nat)(hN:X.N.Nodup)(hp:PassesOwn (model X.prog X.w) X.A X.env X.xe)(hc:X.calm=true)(hl:DI Z X EE (.Tuple [.Name x p1,.Name y p2] kt p3) e di)(hb:DSs Z X EE body s1)
  (hi:X.N[i]?=some x:=by rfl)(hx:Loc X.env.scope x:=by walk_at "3")(hf:X.fn x=true\/X.env.scope.names.lookup x=some .local:=by walk_at "2")
  (hj:X.N[j]?=some y:=by rfl)(hy:Loc X.env.scope y:=by walk_at "3")(hf':X.fn y=true\/X.env.scope.names.lookup y=some .local:=by walk_at "2")
  (hn:(assignEach [.Name x p1,.Name y p2] X.env).length=2:=by rfl)(hst:(assignEach [.Name x p1,.Name y p2] X.env).findIdx? (·.1)=none:=by rfl)
  (g1:(assignEach [.Name x p1,.Name y p2] X.env).map (·.2)=assign (.Name x p1) X.env::(assignEach [.Name y p2] X.env).map (·.2):=by rfl)(g2:(assignEach [.Name y p2] X.env).map (·.2)=assign (.Name y p2) X.env::(assignEach [] X.env).map (·.2):=by rfl)
  (hs:∀x,foldedSetIterable e X.env x=pure x:=by intro _;rfl):
  DS Z X EE (.For (.Tuple [.Name x p1,.Name y p2] kt p3) e body [] pos) (dForP i j di s1):=by
 refine PS.mono (q53 hp hc hl (q93 hc (q3j (q27 i hN hi hx hf) (q3j (q27 j hN hj hy hf') q8c g2) g1) hn hst) hb hs) ?_;rintro D σ H ⟨G,e,rel,h⟩;refine⟨G,e,rel,(q0r h).imp (fun ps e1 h G1 H1 J r1 q1 W0=>?_) fun _ _ h=>h⟩
 have h:=PostS.trans q1 h;refine⟨fun k m σ' H'=>m=ps.length-k/\k<=ps.length/\∃G' e',Rel X.K Z G' σ' H' e'/\Same G1 G'/\PostS X.K Z EE D G1 (forP i j s1 (ps.drop k) e'),⟨ps.length,by omega,w0w _,G1,e1,r1,.refl _,h⟩,?_⟩
 rintro k m σ' H' ⟨rfl,hk,G',e',r',s',h'⟩
 by_cases hlt:k<ps.length
 ·refine .inr ⟨W0.go k G' H' s' r'.sub hlt,fun σ'' H''=>∃G' e',Rel X.K Z G' σ'' H'' e'/\Same G1 G'/\PostS X.K Z EE D G1 (forP i j s1 (ps.drop (k+1)) e'),?_,fun v H2 hy=>?_⟩
  ·rintro σ'' H'' ⟨G'',e'',r'',s'',h''⟩;exact⟨ps.length-(k+1),by omega,rfl,hlt,G'',e'',r'',s'',h''⟩
  ·have hp:ps[k]?=some ((ps[k]).1,(ps[k]).2):=by rw[w0d hlt]
   obtain⟨g3,hgo⟩:=W0.yld k G' H' v H2 s' r'.sub hy _ _ hp;rw[q7r hp]at h';exact hgo i j σ' _ fun y z py pz=>x55 (p:=((ps[k]).1,(ps[k]).2)) (r'.grow g3) s' py pz h' fun G'' σ'' H'' e'' r'' s'' h''=>⟨G'',e'',r'',s'',h''⟩
 ·have:k=ps.length:=by omega
  subst this;rw[w2o]at h';exact .inl ⟨W0.stop _ G' H' s' r'.sub (by omega),h' G' σ' H' r' s'⟩
theorem x3x:∀σ H Q,liftF K Z EE (dCompP js di c d) σ H Q->tComp (liftI K Z EE di) 2 js (gTup K 2 (gCons (gName 0) (gCons (gName 1) gNil))) (cT K c) (cE K d) σ H Q:=by
 rintro σ H Q ⟨G,e,rel,h⟩;simp only[dCompP,R.holds_bind]at h;refine⟨G,e,rel,h.imp (fun ps e1 h G1 H1 J r1 s1 W0=>?_) fun _ _ h=>h⟩
 unfold compPK at h;split at h
 ·rename_i hl;split at h
  ·rename_i out ho;obtain⟨G2,s2,r2⟩:=r1.frzs js;have W1:Walk2 K G2 J ps:=⟨fun i G H a=>W0.go i G H (s2.trans a),fun i G H x H' a=>W0.yld i G H x H' (s2.trans a),fun i G H a=>W0.stop i G H (s2.trans a)⟩
   exact x8x W1 r2 (s1.trans s2) hl (ionone r2) ho h
  ·exact h.elim
 ·exact h.elim
theorem x8y(hc:X.calm=true)(hi:DI Z X EE (.Tuple [.Name x p1,.Name y p2] kt p3) iter di)(ok:compOk sc scope N Nf js=true)
  (ht:∀Z' cl C s₀ H₀ ex,DTs Z' (X.cp ([x,y]++Nf) scope cl C s₀ H₀ ex) (fun _=>E0) ifs c)(he:∀Z' cl C s₀ H₀ ex,DE Z' (X.cp ([x,y]++Nf) scope cl C s₀ H₀ ex) (fun _=>E0) elt d)
  (hg:∀cl C s₀ H₀ ex,PG (X.cp ([x,y]++Nf) scope cl C s₀ H₀ ex) (.Tuple [.Name x p1,.Name y p2] kt p3) (gTup X.K 2 (gCons (gName 0) (gCons (gName 1) gNil))))
  (hsc:X.env.scope=sc:=by rfl)(hN:X.N=N:=by rfl)(hs:∀x,foldedSetIterable iter X.env x=pure x:=by intro _;rfl):
  DF Z X EE (.ListComp elt [⟨.Tuple [.Name x p1,.Name y p2] kt p3,iter,ifs,0⟩] scope pos) (dCompP js di c d):=by
 exact PE.mono (q65 (Nl:=[x,y]) (tc:=cT X.K c) (te:=cE X.K d) hc hi ok hg (x3r ht) (x3s he) hsc hN hs) x3x
noncomputable def pairsW:List W->Option (List (W×W))
 |[]=>some []
 |.tup [u,v]::ws=>(pairsW ws).map ((u,v)::·)
 |_=>none
noncomputable def srcP(d:Den W):Den (List (W×W)):=fun e=>(d e).bind fun w e1=>match seqW w with
 |some ws=>ofOpt (pairsW ws) e1
 |none=>.no
theorem q85:∀{ws:List W}{ps:List (W×W)},pairsW ws=some ps->ws.length=ps.length/\∀(i:Nat) u v,ps[i]?=some (u,v)->ws[i]?=some (.tup [u,v])
 |[],ps,h=>by cases h;exact⟨rfl,fun i u v z=>by simp at z⟩
 |w::ws,ps,h=>by
  unfold pairsW at h;split at h
  ·rename_i z;cases z
  ·rename_i u v ws' z;cases z;obtain⟨q,hq,rfl⟩:=w0b.mp h;obtain⟨h1,h2⟩:=q85 hq;refine⟨by simp[h1],fun i u' v' z=>?_⟩
   cases i with
   |zero=>simp at z;simp[z.1,z.2]
   |succ i=>simp only[w0r]at z |-;exact h2 i _ _ z
  ·cases h
theorem q86{SQ:Hp->Prop}(W0:Walk J xs SQ)(rp:Reps K G1 ws xs)(hp:pairsW ws=some ps)(hSQ:∀G' H',Same G1 G'->Same G' H'->SQ H'):Walk2 K G1 J ps:=by
 obtain⟨hl,hg⟩:=q85 hp;have hx:=rp.length;refine⟨fun i G H a b h=>W0.go i H (hSQ G H a b) (by omega),fun i G H x H' a b hy u v h=>?_,fun i G H a b h=>W0.stop i H (hSQ G H a b) (by omega)⟩
 have hlt:i<ps.length:=(w0a.mp h).1;obtain⟨rfl,hx'⟩:=W0.yld i H x H' (hSQ G H a b) hy (by omega);refine⟨Grow.refl b,fun m n σ Q hQ=>?_⟩
 obtain⟨w,hw,pw⟩:=rp.getV hx';rw[hg i u v h]at hw;cases hw;have pw:=Rep.mono a _ pw;obtain⟨c,ys,rfl,hq,y1,q1,rfl,p1,y2,q2,rfl,p2,rfl⟩:=pw;exact⟨c,[y1,y2],rfl,b.tup hq,rfl,y1,[y2],rfl,y2,[],rfl,rfl,hQ y1 y2 p1 p2⟩
theorem x0j{tg l:Expr}(hl:DE Z X EE l d0):DI Z X EE tg l (srcP d0):=by
 refine PI.mono (q7o hl) ?_;rintro σ H RR ⟨G,e,rel,h⟩;simp only[srcP,R.holds_bind]at h;refine⟨G,e,rel,h.imp (fun w e1 h G1 v1 H1 r1 s1 p1=>?_) fun _ _ h=>h⟩
 split at h
 ·rename_i ws hw;obtain⟨ps,hp,h⟩:=ofOpt_holds.mp h;cases w with
  |tup us=>
   cases hw;obtain⟨a,xs,rfl,hq,rp⟩:=p1;exact⟨a,rfl,.inr ⟨⟨xs,r1.sub.tup hq⟩,h _ _ _ r1 s1 (q86 x5p rp hp fun G' H' s s'=>Same.tup s' (Same.tup s hq))⟩⟩
  |lst us=>
   cases hw;obtain⟨a,xs,rfl,hq,rp⟩:=p1;exact⟨a,rfl,.inl ⟨⟨xs,r1.sub.seq hq⟩,h _ _ _ r1 s1 (q86 x5o rp hp fun G' H' s s'=>Same.seq s' (Same.seq s hq))⟩⟩
  |_=>cases hw
 ·exact h.elim
theorem x56{t':Nat}{fp:List Addr}{b:Addr}{o:HO}(I:Inv X pins σ H s)(k:∀b o,b∉fp->s.heap.get? b=some o->h'.get? b=some o)(hf:∀b∈fp,FpOk X pins H b)(hp:s.heap.objs.size<=b)(new:ObjOk X.prog X.w (upd H b o) h' b o):Inv X pins σ (upd H b o) {s with heap:=h',toks:=t'}:=by
 have hn:H b=none:=I.hok.fresh hp;have ne:∀c u,H c=some u->c≠b:=fun c u e=>q0l e hn
 have nfp:∀c u,H c=some u->c∉fp:=fun c u e z=>by rw[(hf c z).1]at e;cases e
 have lt:∀c o,s.heap.get? c=some o->c≠b:=fun c o e=>w0q (w0n (Heap.lt_size e) hp)
 refine I.step (g':=s.gens) (d':=s.drawn) (ch:=fp) (fun c hc=>?_) (fun c o _ _ hc e _=>k c o hc e) (fun c o _ _ hc e _=>⟨o.slots,k c o hc e⟩) (fun c o _ e n=>by rw[q0b (lt c o e)];exact n)
  (fun c o hc e=>⟨o,k c o hc e⟩) (fun c xs e=>by rw[q0b (ne c _ e)];exact e) (fun c o u e=>by rw[q0b (ne c _ e)];exact e) (fun c ps e=>⟨#[],by rw[q0b (ne c _ e),e];simp⟩) (fun m hm=>?_) (fun c u e=>?_) I.bare
 ·obtain⟨f0,f1,f2,f3,f4,f5⟩:=hf c hc;exact⟨f3,f1,f4,f5⟩
 ·obtain⟨o,es,ep,ho,r⟩:=hm;exact⟨o,es,ep,k _ o (fun z=>(hf _ z).2.1 rfl) ho,r⟩
 ·by_cases hb:c=b
  ·subst hb;rw[q0g]at e;cases e;exact new
  ·rw[q0b hb]at e;refine(I.hok c u e).stay (fun d v hd q=>k d v ?_ q) (fun d q=>by rw[q0b (ne d _ q)];exact q) fun d xs _ q=>by rw[q0b (ne d _ q)];exact q
   rcases hd with z|z
   ·rw[z];exact nfp c u e
   ·exact nfp d _ z
end
theorem y7n{p1 p2 p3:Pos}(hN:X.N.Nodup)(hc:X.calm=true)
  (hi:X.N[0]?=some x:=by rfl)(hx:Loc X.env.scope x:=by walk_at "3")(hf:X.fn x=true\/X.env.scope.names.lookup x=some .local:=by walk_at "2")
  (hj:X.N[1]?=some y:=by rfl)(hy:Loc X.env.scope y:=by walk_at "3")(hf':X.fn y=true\/X.env.scope.names.lookup y=some .local:=by walk_at "2")
  (hn:(assignEach [.Name x p1,.Name y p2] X.env).length=2:=by rfl)(hst:(assignEach [.Name x p1,.Name y p2] X.env).findIdx? (·.1)=none:=by rfl)
  (g1:(assignEach [.Name x p1,.Name y p2] X.env).map (·.2)=assign (.Name x p1) X.env::(assignEach [.Name y p2] X.env).map (·.2):=by rfl)(g2:(assignEach [.Name y p2] X.env).map (·.2)=assign (.Name y p2) X.env::(assignEach [] X.env).map (·.2):=by rfl):
  PG X (.Tuple [.Name x p1,.Name y p2] kt p3) (gTup X.K 2 (gCons (gName 0) (gCons (gName 1) gNil))):=
 q93 hc (q3j (q27 0 hN hi hx hf) (q3j (q27 1 hN hj hy hf') q8c g2) g1) hn hst
section
variable{di:Den (List (W×W))}{b:List S->SR}{c:Prop} [Decidable c]{s t:SR}{k:List S->SR}{v:Value}{st:S}
theorem y3c:dForP i j di b e=(di e).stm fun ps e1=>forP i j b ps e1:=rfl
theorem x8z:(SR.nx e).turnT k=k e:=rfl
theorem x80:(SR.ct e).turnT k=k e:=rfl
theorem x81:(SR.bk e).turnT k=.nx e:=rfl
theorem x82:(SR.rt st e).turnT k=.rt st e:=rfl
theorem x83:(SR.ex v e).turnT k=.ex v e:=rfl
theorem x84:(SR.no).turnT k=.no:=rfl
theorem x57:(if c then s else t).turnT k=if c then s.turnT k else t.turnT k:=by split<;>rfl
noncomputable def srcPW(e:List S):Option (List W)->R (List (W×W))
 |some ws=>ofOpt (pairsW ws) e
 |none=>.no
theorem y7o:srcP d e=(d e).bind fun w e1=>srcPW e1 (seqW w):=by
 unfold srcP;congr 1
theorem x3y:srcPW e (some ws)=ofOpt (pairsW ws) e:=rfl
theorem x85:compPK js cc d ps e=if ps.length<=16777216 then compR (frzs js e) (compP cc d (pjS js (frzs js e)) ps)else .no:=by
 unfold compPK compR;split
 ·cases compP cc d (pjS js (frzs js e)) ps<;>rfl
 ·rfl
theorem x86:dCompP js di cc d e=(di e).bind fun ps e1=>compPK js cc d ps e1:=rfl
theorem x3z{p:W×W}:compP cc d pe (p::ps)=(match cc (.fr p.1::.fr p.2::pe)with
  |.ok true e1=>(match d e1 with|.ok y _=>(compP cc d pe ps).map (y::·)|_=>none)
  |.ok false _=>compP cc d pe ps
  |_=>none):=rfl
theorem q87{cc:Den Bool}{d:Den W}{pe:List S}{q:W×W->Bool}{g:W×W->W}:∀(ps:List (W×W)),(∀p∈ps,∃e1,cc (.fr p.1::.fr p.2::pe)=.ok (q p) e1/\(q p=true->∃e2,d e1=.ok (g p) e2))->compP cc d pe ps=some ((ps.filter q).map g)
 |[],_=>rfl
 |p::ps,h=>by
  obtain⟨e1,h1,h2⟩:=h p (by simp);have ih:=q87 (cc:=cc) (d:=d) (pe:=pe) (q:=q) (g:=g) ps fun u hu=>h u (by simp[hu])
  rw[x3z,h1,ih];cases hq:q p with
  |true=>
   obtain⟨e2,h3⟩:=h2 hq;simp only[hq,h3,w2p,if_true];rfl
  |false=>simp[hq,w2p]
end
theorem x58(l:Addr)(items:Array Value)(n:Nat)(x:Int)(u:Tok)(dd:Option Addr)(sl:Array (Option Value))(hc0:¬(!Builtin.List.listFitsIndex x)=true)(hc1:¬items.size*x.toNat>(2^63-1) / 8)(hc2:¬Builtin.List.listTooLong (items.size*x.toNat)=true):
  Meets (Builtin.«list.__mul__» ⟨[.ref l,.int x u],[]⟩) (fun _ R s=>s.heap.get? l=some {cls:=.type "list", dict:=dd,data:=.seq items n,slots:=sl}/\R (.ok (.ret (Value.ref s.heap.objs.size))) {s with heap:=s.heap.push {cls:=Value.type "list", data:=Data.seq (List.foldl (fun x1 x2=>x1++x2) #[] (List.replicate (if items.isEmpty=true then 0 else x.toNat) items))},toks:=s.toks}):=
 .of_wp fun prog w A R s h=>by
  obtain⟨hp,g,d,tk,os⟩:=s;obtain⟨hl,h⟩:=h;have hsz:=PySem.AutoListH.joined_fits hc2
  wp_walk;refine wpAny_ite_false (decide_eq_false (w3z.mpr hsz)) ?_;wp_walk;exact⟨_,rfl,h⟩
theorem x59(a:Int)(t:Tok)(l:Addr)(items:Array Value)(n:Nat)(dd:Option Addr)(sl:Array (Option Value)):
  Meets (Builtin.«int.__rmul__» ⟨[.int a t,.ref l],[]⟩) (fun _ R s=>s.heap.get? l=some {cls:=.type "list", dict:=dd,data:=.seq items n,slots:=sl}/\R (.ok (.ret Value.notImplemented)) s):=
 .of_wp fun prog w A R s h=>by obtain⟨hp,g,d,tk,os⟩:=s;obtain⟨hl,h⟩:=h;wp_walk;exact⟨_,rfl,h⟩
def rRepS(K:PySem.W.Frag):R2:=fun x y H Q=>∃l k xs,x=.ref l/\y=.int k/\SqL K H l xs/\-(2^63)<=k/\k<2^63/\xs.length*k.toNat<=sizeLine /\
 ∀p,H p=none->Q (.ref p) (upd H p (.lst (List.replicate k.toNat xs).flatten))
theorem y3d:OpR X (binaryOp .Mult) (rRepS X.K):=by
 intro pins s σ H x y v u Q I rx ry h;obtain⟨l,k,xs,rfl,rfl,hH,h1,h2,hz,q⟩:=h;cases rx;obtain⟨t,rfl⟩:=ry;obtain⟨its,r,p1,_⟩:=I.list hH;obtain⟨⟨cls,dd,data,sl⟩,ho,hc,n,hd⟩:=id p1.isList;simp only at hc hd;subst hc hd;have hl:=r.length;have hlen:its.toArray.size*k.toNat<=sizeLine:=by rw[w0h,<- hl];exact hz
 have hcap:¬its.toArray.size*k.toNat>(2^63-1) / 8:=by
  have:(sizeLine:Nat)<=(2^63-1) / 8:=by decide
  omega
 have hfit:¬(!Builtin.List.listFitsIndex k)=true:=by
  rw[fitsIndex_both h1 h2];exact w0l
 have hlong:¬Builtin.List.listTooLong (its.toArray.size*k.toNat)=true:=by
  rw[notLongL hlen];exact w0l
 have hnew:List.foldl (fun x1 x2=>x1++x2) #[] (List.replicate (if its.toArray.isEmpty=true then 0 else k.toNat) its.toArray)=(List.replicate k.toNat its).flatten.toArray:=by
  have f0:∀m:Nat,List.foldl (fun x1 x2=>x1++x2) #[] (List.replicate m its.toArray)=(List.replicate m its).flatten.toArray:=fun m=>by
   have:=q8z its m [];rw[List.nil_append]at this;exact this
  rw[f0];cases its with
  |nil=>simp
  |cons a r'=>rw[if_neg (by simp)]
 refine wpAny_binaryOp_repeat_ref (T:="list") (U:="int") (by decide) ⟨_,ho,rfl⟩ (fun s'=>typeIs_int s' k t) noFill_list_mul F.fills_int_mul F.slot_int_rmul repeat_list F.slot_int_index.lookup
  (PySem.call_meets F.slot_int_rmul (typeIs_int s k t) F.entry_int_rmul (F.args_int_rmul_2 _ _) (x59 k t l its.toArray n dd sl)
   ⟨ho,rfl,⟨_,ho,rfl⟩,PySem.call_meets F.slot_list_mul ⟨_,ho,rfl⟩ F.entry_list_mul (F.args_list_mul_2 _ _) (x58 l its.toArray n k t dd sl hfit hcap hlong) ⟨ho,?_⟩⟩)
 rw[hnew];exact⟨.ref _,_,I.lnew (t':=s.toks) (r.rep k.toNat) (by rw[y1s,Nat.mul_comm];exact hz),rfl,q _ I.fresh⟩
noncomputable def repW:W->W->Option W
 |.lst ws,.int k=>if okI k=true/\ws.length*k.toNat<=16777216 then some (.lst (List.replicate k.toNat ws).flatten)else none
 |_,_=>none
theorem x0k(r:Reps K G ws xs):∀k:Nat,Reps K G (List.replicate k ws).flatten (List.replicate k xs).flatten
 |0=>rfl
 |k+1=>by
  rw[w0x,w0x,w1d,w1d];exact r.append (x0k r k)
theorem y7p:Op2 K (rRepS K) repW:=by
 intro G H x y wx wy w Q s px py hf h;unfold repW at hf;split at hf
 ·rename_i ws k;split at hf
  ·rename_i hc;cases hf;cases(show y=V.int k from py);obtain⟨l,xs,rfl,hq,rp⟩:=px;have hb:=q4a hc.1;refine⟨l,k,xs,rfl,rfl,s.seq hq,by omega,by omega,by rw[sizeLine_eq,rp.length];exact hc.2,fun p hp=>?_⟩
   have g:Grow G H (upd G p (.lst (List.replicate k.toNat xs).flatten)) (upd H p (.lst (List.replicate k.toNat xs).flatten)):=Grow.laid s hp _;exact h _ _ _ g ⟨p,_,rfl,SqL.of q0g,Reps.mono g.gg _ (x0k rp _)⟩
  ·cases hf
 ·cases hf
section
variable{a b:Expr}
theorem x0l(ha:DE Z X EE a da)(hb:DE Z X EE b db):DE Z X EE (.BinOp a .Mult b pos) (dOp repW da db):=q6k y3d y7p ha hb
end
theorem x6a{k:Int}:repW (.lst ws) (.int k)=if okI k=true/\ws.length*k.toNat<=16777216 then some (.lst (List.replicate k.toNat ws).flatten)else none:=rfl
noncomputable def intsW:List W->Option (List Int)
 |[]=>some []
 |.int x::r=>(intsW r).map (x::·)
 |_=>none
theorem x0m:∀{ws:List W}{ys:List Int}{xs:List V},intsW ws=some ys->Reps K G ws xs->xs=ys.map V.int
 |[],ys,xs,h,r=>by cases h;cases(show xs=[]from r);rfl
 |w::ws,ys,xs,h,r=>by
  unfold intsW at h;split at h
  ·rename_i z;cases z
  ·rename_i y r' z;cases z;obtain⟨ys',h1,rfl⟩:=w0b.mp h;obtain⟨v,vs,rfl,p1,p2⟩:=r;cases(show v=V.int y from p1);rw[x0m h1 p2];rfl
  ·cases h
section
variable{prog:Program}{w:World}{E:Value->Shared->Prop}
theorem x0n{j b:Addr}{x:Value}{Q:Value->Shared->Prop}(gi:s.heap.IsTupleIter j b k)(gt:s.heap.IsTuple b vs)(gx:vs[k]?=some x)
  (hQ:∀h',h'.IsTupleIter j b (k+1)->Heap.SameBut j s.heap h'->Q x {s with heap:=h'}):wpAny (model prog w) A (Builtin.SmallTypes.nextOf (.ref j)) Q E s:=by
 obtain⟨o,ho,hc,hd⟩:=id gi;obtain⟨ot,hot,_,m,hdt⟩:=gt;unfold Builtin.SmallTypes.nextOf;refine wpAny_bind (wpAny_callSpecial?_slot (name:=Str.ofString "__next__") gi.typeIs F.slot_tuple_iterator_next (wpAny_call_entry F.slot_tuple_iterator_next gi.typeIs F.entry_tuple_iterator_next ?_ (F.args_tuple_iterator_next_1 _)));show wpAny _ _ (field (.ref j) 0 >>= _) _ _ s;refine wpAny_bind (wpAny_field ho hd (x:=.ref b) rfl ?_);show wpAny _ _ (if(Value.ref b==Value.none)=true then _ else _) _ _ s;rw[if_neg (show ¬((Value.ref b==Value.none)=true)from w0l)];show wpAny _ _ (field (.ref j) 1 >>= _) _ _ s;refine wpAny_bind (wpAny_field ho hd (x:=.int k 0) rfl ?_);show wpAny _ _ (seqItems? (.ref b) >>= _) _ _ s;refine wpAny_bind (wpAny_seqItems hot hdt ?_);simp only[w1t,gx];refine wpAny_bind (wpAny_setField ho hd (by simp) (wpAny_pure ⟨x,rfl,wpAny_pure (hQ _ ⟨_,Heap.get?_update_self _ ho (Obj.isFreed_of_fields (Obj.data_mapFields hd _)),(Obj.cls_mapFields ..).trans hc,by rw[Obj.data_mapFields hd];simp[rawInt]⟩ (Heap.SameBut.update ..))⟩))
theorem x1q{j b:Addr}{Q:Value->Shared->Prop}(hh:A.handled=none)(gi:s.heap.IsTupleIter j b k)(gt:s.heap.IsTuple b vs)(gx:vs[k]?=none)
  (hE:∀h' e,Heap.ExtBut j s.heap h'->(∃o,h'.get? e=some o/\o.cls=.type "StopIteration")->E (.ref e) {s with heap:=h'}):wpAny (model prog w) A (Builtin.SmallTypes.nextOf (.ref j)) Q E s:=by
 obtain⟨o,ho,hc,hd⟩:=id gi;obtain⟨ot,hot,_,m,hdt⟩:=gt;unfold Builtin.SmallTypes.nextOf;refine wpAny_bind (wpAny_callSpecial?_slot (name:=Str.ofString "__next__") gi.typeIs F.slot_tuple_iterator_next (wpAny_call_entry F.slot_tuple_iterator_next gi.typeIs F.entry_tuple_iterator_next ?_ (F.args_tuple_iterator_next_1 _)));show wpAny _ _ (field (.ref j) 0 >>= _) _ _ s;refine wpAny_bind (wpAny_field ho hd (x:=.ref b) rfl ?_);show wpAny _ _ (if(Value.ref b==Value.none)=true then _ else _) _ _ s;rw[if_neg (show ¬((Value.ref b==Value.none)=true)from w0l)];show wpAny _ _ (field (.ref j) 1 >>= _) _ _ s;refine wpAny_bind (wpAny_field ho hd (x:=.int k 0) rfl ?_);show wpAny _ _ (seqItems? (.ref b) >>= _) _ _ s;refine wpAny_bind (wpAny_seqItems hot hdt ?_);simp only[w1t,gx];refine wpAny_bind (wpAny_rule (wpAny_bind (wpAny_setField ho hd (by simp) ?_)));show wpAny _ _ (newExc (.type "StopIteration") [] >>= _) _ _ _;refine wpAny_bind ?_;simp only[newExc,newTuple];refine wpAny_bind (wpAny_newObj_type ?_ (by size_fits));refine wpAny_bind (m:=firstArgMember _ _) (wpAny_of_eq (a:=Value.none) (by first|rfl|(simp only[firstArgMember];rfl)) (wpAny_newObj_type ?_ (by size_fits)));simp only[raiseNew];refine wpAny_bind (wpAny_handled ?_)
 first|rw[show A.in1.handled=none from hh]|rw[hh]
 refine wpAny_bind (wpAny_pure (wpAny_throw (hE _ _ (((Heap.SameBut.update ..).extBut.push _).push _) ⟨_,Heap.get?_push_size _ rfl,rfl⟩)))
def IsIt(t:Bool)(j b:Addr)(k:Nat)(h:Heap):Prop:=if t=true then h.IsTupleIter j b k else h.IsListIter j b k
def IsSq(t:Bool)(b:Addr)(vs:Array Value)(h:Heap):Prop:=if t=true then h.IsTuple b vs else h.IsList b vs
theorem IsIt.keep{t:Bool}{j b:Addr}(x:IsIt t j b k h)(e:∀o,h.get? j=some o->h'.get? j=some o):IsIt t j b k h':=by
 cases t with
 |true=>obtain⟨o,ho,r⟩:=(show h.IsTupleIter j b k from x);exact⟨o,e o ho,r⟩
 |false=>obtain⟨o,ho,r⟩:=(show h.IsListIter j b k from x);exact⟨o,e o ho,r⟩
theorem IsIt.obj{t:Bool}{j b:Addr}(x:IsIt t j b k h):∃o,h.get? j=some o/\∀v,o.data≠.cell v:=by
 cases t with
 |true=>obtain⟨o,ho,c,d⟩:=(show h.IsTupleIter j b k from x);exact⟨o,ho,fun v z=>by rw[d]at z;cases z⟩
 |false=>obtain⟨o,ho,c,d⟩:=(show h.IsListIter j b k from x);exact⟨o,ho,fun v z=>by rw[d]at z;cases z⟩
theorem IsSq.keep{t:Bool}{b:Addr}(x:IsSq t b vs h)(e:∀o,h.get? b=some o->h'.get? b=some o):IsSq t b vs h':=by
 cases t with
 |true=>obtain⟨o,ho,r⟩:=(show h.IsTuple b vs from x);exact⟨o,e o ho,r⟩
 |false=>obtain⟨o,ho,r⟩:=(show h.IsList b vs from x);exact⟨o,e o ho,r⟩
theorem q8i{t:Bool}{j b:Addr}{x:Value}{Q:Value->Shared->Prop}(gi:IsIt t j b k s.heap)(gt:IsSq t b vs s.heap)(gx:vs[k]?=some x)
  (hQ:∀h',IsIt t j b (k+1) h'->Heap.SameBut j s.heap h'->Q x {s with heap:=h'}):wpAny (model prog w) A (Builtin.SmallTypes.nextOf (.ref j)) Q E s:=by
 cases t with
 |true=>exact x0n gi gt gx hQ
 |false=>exact wpAny_nextOf_list_item gi gt gx hQ
theorem x6b{t:Bool}{j b:Addr}{Q:Value->Shared->Prop}(hh:A.handled=none)(gi:IsIt t j b k s.heap)(gt:IsSq t b vs s.heap)(gx:vs[k]?=none)
  (hE:∀h' e,Heap.ExtBut j s.heap h'->(∃o,h'.get? e=some o/\o.cls=.type "StopIteration")->E (.ref e) {s with heap:=h'}):wpAny (model prog w) A (Builtin.SmallTypes.nextOf (.ref j)) Q E s:=by
 cases t with
 |true=>exact x1q hh gi gt gx hE
 |false=>exact wpAny_nextOf_list_end hh gi gt gx hE
structure Apart(z I O i j a b:Addr):Prop where
 Iz:I≠z
 Oz:O≠z
 iz:i≠z
 jz:j≠z
 IO:I≠O
 Ii:I≠i
 Ij:I≠j
 Oi:O≠i
 Oj:O≠j
 ij:i≠j
 az:a≠z
 aO:a≠O
 ai:a≠i
 aj:a≠j
 bz:b≠z
 bO:b≠O
 bi:b≠i
 bj:b≠j
theorem y3e{z I O i j b:Addr}{t u:Bool}{xs:Array Value}{x y p q:Value}{Q:Value->Shared->Prop}(D:Apart z I O i j a b)
  (gz:IsZip s.heap z I O .none)(gI:IsPair s.heap I (.ref i) (.ref j))(gO:IsPair s.heap O p q)
  (g1:IsIt t i a k s.heap)(g2:IsIt u j b k s.heap)(l1:IsSq t a xs s.heap)(l2:IsSq u b ys s.heap)(hx:xs[k]?=some x)(hy:ys[k]?=some y)
  (hQ:∀h',IsZip h' z I O (rawInt s.heap.objs.size)->IsPair h' O x y->IsIt t i a (k+1) h'->IsIt u j b (k+1) h'->IsPair h' s.heap.objs.size x y->h'.objs.size=s.heap.objs.size+1 ->
   (∀c o,c≠z->c≠O->c≠i->c≠j->s.heap.get? c=some o->h'.get? c=some o)->Q (.ref s.heap.objs.size) {s with heap:=h'}):
  wpAny (model prog w) A (Builtin.«zip.__next__» ⟨[.ref z],[]⟩) (fun fin s'=>∃v,fin=.done (.ret v)/\Q v s') E s:=by
 show wpAny _ _ (field (.ref z) 2 >>= _) _ _ _;refine wpAny_bind (wpAny_field gz rfl (x:=.bool false) rfl ?_);show wpAny _ _ (field (.ref z) 3 >>= _) _ _ _;refine wpAny_bind (wpAny_field gz rfl (x:=.ref I) rfl (wpAny_bind (wpAny_seqItems gI rfl ?_)));show wpAny _ _ (Builtin.SmallTypes.ownedTupleIsFree (.ref z) >>= _) _ _ _;refine wpAny_bind ?_;unfold Builtin.SmallTypes.ownedTupleIsFree;refine wpAny_bind (wpAny_field gz rfl (x:=.none) rfl (wpAny_pure ?_));simp only[if_true];refine wpAny_bind (wpAny_rule (wpAny_bind (wpAny_field gz rfl (x:=.ref O) rfl (wpAny_bind (wpAny_setField_rec gz (by simp) fun ha za sa=>?_)))))
 replace za:IsZip ha z I O .ellipsis:=za
 refine wpAny_bind ?_;simp only[List.zipIdx_cons,List.zipIdx_nil,w1o,w3p];refine wpAny_bind (wpAny_bind (wpAny_onRaise ?_));show wpAny _ _ (Builtin.SmallTypes.nextOf (.ref i) >>= _) _ _ _;refine wpAny_bind (q8i (s:={s with heap:=ha}) (g1.keep fun o e=>sa.extBut _ _ D.iz e) (l1.keep fun o e=>sa.extBut _ _ D.az e) hx fun hb ib sb=>wpAny_pure ?_)
 have Ob:IsPair hb O p q:=sb.extBut _ _ D.Oi (sa.extBut _ _ D.Oz gO);refine wpAny_bind (wpAny_seqItems Ob rfl (wpAny_bind (wpAny_updateSeq_pair Ob fun hc Oc sc=>?_)))
 replace Oc:IsPair hc O x q:=Oc
 refine wpAny_bind (wpAny_letGo (wpAny_pure (wpAny_bind (wpAny_bind (wpAny_onRaise ?_)))));show wpAny _ _ (Builtin.SmallTypes.nextOf (.ref j) >>= _) _ _ _;refine wpAny_bind (q8i (s:={s with heap:=hc}) (g2.keep fun o e=>sc.extBut _ _ D.Oj.symm (sb.extBut _ _ D.ij.symm (sa.extBut _ _ D.jz e))) (l2.keep fun o e=>sc.extBut _ _ D.bO (sb.extBut _ _ D.bi (sa.extBut _ _ D.bz e))) hy fun hd jd sd=>wpAny_pure ?_)
 have Od:IsPair hd O x q:=sd.extBut _ _ D.Oj Oc;refine wpAny_bind (wpAny_seqItems Od rfl (wpAny_bind (wpAny_updateSeq_pair Od fun he Oe se=>?_)))
 replace Oe:IsPair he O x y:=Oe
 refine wpAny_bind (wpAny_letGo (wpAny_pure (wpAny_pure (wpAny_bind (wpAny_seqItems Oe rfl (wpAny_bind (wpAny_newTuple ?_)))))));have sz:he.objs.size=s.heap.objs.size:=by rw[se.1,sd.1,sc.1,sb.1,sa.1]
 have ze:IsZip he z I O .ellipsis:=se.extBut _ _ D.Oz.symm (sd.extBut _ _ D.jz.symm (sc.extBut _ _ D.Oz.symm (sb.extBut _ _ D.iz.symm za)));have ke:∀c o,c≠z->c≠O->c≠i->c≠j->s.heap.get? c=some o->he.get? c=some o:=fun c o c1 c2 c3 c4 e=>se.extBut _ _ c2 (sd.extBut _ _ c4 (sc.extBut _ _ c2 (sb.extBut _ _ c3 (sa.extBut _ _ c1 e))))
 have ie:IsIt t i a (k+1) he:=ib.keep fun o e=>se.extBut _ _ D.Oi.symm (sd.extBut _ _ D.ij (sc.extBut _ _ D.Oi.symm e))
 have je:IsIt u j b (k+1) he:=jd.keep fun o e=>se.extBut _ _ D.Oj.symm e
 have zlt:z<he.objs.size:=Heap.lt_size ze;show wpAny _ _ (Builtin.SmallTypes.ownedTupleHandOut (.ref z) (.ref he.objs.size) >>= _) _ _ _;refine wpAny_bind ?_;unfold Builtin.SmallTypes.ownedTupleHandOut;have zf:IsZip (he.push {cls:=.type "tuple", data:=.seq #[x,y]}) z I O .ellipsis:=Heap.get?_push_of_some _ ze;refine wpAny_bind (wpAny_setField_rec zf (by simp) fun hg zg sg=>?_)
 replace zg:IsZip hg z I O (rawInt he.objs.size):=zg
 refine wpAny_setField_rec zg (by simp) fun hk zk sk=>?_
 replace zk:IsZip hk z I O (rawInt he.objs.size):=zk
 have up:∀c o,c≠z->he.get? c=some o->hk.get? c=some o:=fun c o c1 e=>sk.extBut _ _ c1 (sg.extBut _ _ c1 (Heap.get?_push_of_some _ e))
 have Tk:IsPair hk he.objs.size x y:=sk.extBut _ _ (w3i zlt) (sg.extBut _ _ (w3i zlt) (Heap.get?_push_size _ rfl));have nk:hk.objs.size=he.objs.size+1:=by rw[sk.1,sg.1,Heap.size_push]
 rw[sz]at zk Tk nk;refine wpAny_pure ⟨_,rfl,?_⟩;show Q (.ref he.objs.size) _;rw[sz];exact hQ hk zk (up _ _ D.Oz Oe) (ie.keep fun o e=>up _ o D.iz e) (je.keep fun o e=>up _ o D.jz e) Tk nk fun c o c1 c2 c3 c4 e=>up c o c1 (ke c o c1 c2 c3 c4 e)
theorem y7q{z I O i j b:Addr}{t u:Bool}{xs:Array Value}{p q:Value}{Q:Fin->Shared->Prop}(hh:A.handled=none)(D:Apart z I O i j a b)
  (gz:IsZip s.heap z I O .none)(gI:IsPair s.heap I (.ref i) (.ref j))(gO:IsPair s.heap O p q)
  (g1:IsIt t i a k s.heap)(g2:IsIt u j b k s.heap)(l1:IsSq t a xs s.heap)(l2:IsSq u b ys s.heap)(hend:xs[k]?=none\/ys[k]?=none)
  (hE:∀h' e,(∀c o,c≠z->c≠O->c≠i->c≠j->s.heap.get? c=some o->h'.get? c=some o)->(∃o,h'.get? e=some o/\o.cls=.type "StopIteration")->E (.ref e) {s with heap:=h'}):
  wpAny (model prog w) A (Builtin.«zip.__next__» ⟨[.ref z],[]⟩) Q E s:=by
 show wpAny _ _ (field (.ref z) 2 >>= _) _ _ _;refine wpAny_bind (wpAny_field gz rfl (x:=.bool false) rfl ?_);show wpAny _ _ (field (.ref z) 3 >>= _) _ _ _;refine wpAny_bind (wpAny_field gz rfl (x:=.ref I) rfl (wpAny_bind (wpAny_seqItems gI rfl ?_)));show wpAny _ _ (Builtin.SmallTypes.ownedTupleIsFree (.ref z) >>= _) _ _ _;refine wpAny_bind ?_;unfold Builtin.SmallTypes.ownedTupleIsFree;refine wpAny_bind (wpAny_field gz rfl (x:=.none) rfl (wpAny_pure ?_));simp only[if_true];refine wpAny_bind (wpAny_rule (wpAny_bind (wpAny_field gz rfl (x:=.ref O) rfl (wpAny_bind (wpAny_setField_rec gz (by simp) fun ha za sa=>?_)))))
 replace za:IsZip ha z I O .ellipsis:=za
 refine wpAny_bind ?_;simp only[List.zipIdx_cons,List.zipIdx_nil,w1o,w3p];refine wpAny_bind (wpAny_bind (wpAny_onRaise ?_));show wpAny _ _ (Builtin.SmallTypes.nextOf (.ref i) >>= _) _ _ _;cases hx:xs[k]? with
 |none=>
  refine wpAny_bind (x6b (s:={s with heap:=ha}) hh (g1.keep fun o e=>sa.extBut _ _ D.iz e) (l1.keep fun o e=>sa.extBut _ _ D.az e) hx fun hb e sb ge=>?_)
  obtain⟨oe,hoe,hce⟩:=ge;have zb:IsZip hb z I O .ellipsis:=sb _ _ D.iz.symm za;have nz:e≠z:=fun x=>by subst x;rw[zb]at hoe;cases hoe;simp at hce
  refine wpAny_setField_rec zb (by simp) fun hc _ sc=>hE hc e (fun c o c1 _ c3 _ x=>sc.extBut _ _ c1 (sb _ _ c3 (sa.extBut _ _ c1 x))) ⟨oe,sc.extBut _ _ nz hoe,hce⟩
 |some x=>
  have hy:ys[k]?=none:=by rcases hend with h|h;rw[hx]at h;cases h;exact h
  refine wpAny_bind (q8i (s:={s with heap:=ha}) (g1.keep fun o e=>sa.extBut _ _ D.iz e) (l1.keep fun o e=>sa.extBut _ _ D.az e) hx fun hb ib sb=>wpAny_pure ?_)
  have Ob:IsPair hb O p q:=sb.extBut _ _ D.Oi (sa.extBut _ _ D.Oz gO);refine wpAny_bind (wpAny_seqItems Ob rfl (wpAny_bind (wpAny_updateSeq_pair Ob fun hc Oc sc=>?_)))
  refine wpAny_bind (wpAny_letGo (wpAny_pure (wpAny_bind (wpAny_bind (wpAny_onRaise ?_)))));show wpAny _ _ (Builtin.SmallTypes.nextOf (.ref j) >>= _) _ _ _;refine wpAny_bind (x6b (s:={s with heap:=hc}) hh (g2.keep fun o e=>sc.extBut _ _ D.Oj.symm (sb.extBut _ _ D.ij.symm (sa.extBut _ _ D.jz e))) (l2.keep fun o e=>sc.extBut _ _ D.bO (sb.extBut _ _ D.bi (sa.extBut _ _ D.bz e))) hy fun hd e sd ge=>?_)
  obtain⟨oe,hoe,hce⟩:=ge;have zd:IsZip hd z I O .ellipsis:=sd _ _ D.jz.symm (sc.extBut _ _ D.Oz.symm (sb.extBut _ _ D.iz.symm za));have nz:e≠z:=fun x=>by subst x;rw[zd]at hoe;cases hoe;simp at hce
  refine wpAny_setField_rec zd (by simp) fun he _ se=>hE he e (fun c o c1 c2 c3 c4 x=>se.extBut _ _ c1 (sd _ _ c4 (sc.extBut _ _ c2 (sb.extBut _ _ c3 (sa.extBut _ _ c1 x))))) ⟨oe,se.extBut _ _ nz hoe,hce⟩
theorem y3f{z I O i j b:Addr}{t u:Bool}{xs:Array Value}{x y p q:Value}{Q:Option Value->Shared->Prop}(D:Apart z I O i j a b)
  (gz:IsZip s.heap z I O .none)(gI:IsPair s.heap I (.ref i) (.ref j))(gO:IsPair s.heap O p q)
  (g1:IsIt t i a k s.heap)(g2:IsIt u j b k s.heap)(l1:IsSq t a xs s.heap)(l2:IsSq u b ys s.heap)(hx:xs[k]?=some x)(hy:ys[k]?=some y)
  (hQ:∀h',IsZip h' z I O (rawInt s.heap.objs.size)->IsPair h' O x y->IsIt t i a (k+1) h'->IsIt u j b (k+1) h'->IsPair h' s.heap.objs.size x y->h'.objs.size=s.heap.objs.size+1 ->
   (∀c o,c≠z->c≠O->c≠i->c≠j->s.heap.get? c=some o->h'.get? c=some o)->Q (some (.ref s.heap.objs.size)) {s with heap:=h'}):wpAny (model prog w) A (pyNext (.ref z)) Q E s:=by
 have hT:s.TypeIs (.ref z) "zip":=⟨_,gz,rfl⟩;unfold pyNext;exact wpAny_bind (wpAny_attempt (wpAny_callSpecial?_slot (name:=Str.ofString "__next__") hT F.slot_zip_next (wpAny_call_entry F.slot_zip_next hT F.entry_zip_next (y3e D gz gI gO g1 g2 l1 l2 hx hy fun h' a1 a2 a3 a4 a5 a6 a7=>wpAny_pure (hQ h' a1 a2 a3 a4 a5 a6 a7)) (F.args_zip_next_1 _))))
theorem y3g{z I O i j b:Addr}{t u:Bool}{xs:Array Value}{p q:Value}{Q:Option Value->Shared->Prop}(hh:A.handled=none)(D:Apart z I O i j a b)
  (gz:IsZip s.heap z I O .none)(gI:IsPair s.heap I (.ref i) (.ref j))(gO:IsPair s.heap O p q)
  (g1:IsIt t i a k s.heap)(g2:IsIt u j b k s.heap)(l1:IsSq t a xs s.heap)(l2:IsSq u b ys s.heap)(hend:xs[k]?=none\/ys[k]?=none)
  (hQ:∀h',(∀c o,c≠z->c≠O->c≠i->c≠j->s.heap.get? c=some o->h'.get? c=some o)->Q none {s with heap:=h'}):wpAny (model prog w) A (pyNext (.ref z)) Q E s:=by
 have hT:s.TypeIs (.ref z) "zip":=⟨_,gz,rfl⟩;unfold pyNext;refine wpAny_bind (wpAny_attempt (wpAny_callSpecial?_slot (name:=Str.ofString "__next__") hT F.slot_zip_next (wpAny_call_entry F.slot_zip_next hT F.entry_zip_next (y7q hh D gz gI gO g1 g2 l1 l2 hend fun h' e hk he=>?_) (F.args_zip_next_1 _))))
 obtain⟨o,ho,hc⟩:=he;exact wpAny_bind (wpAny_isInstance (T:="StopIteration") (b:=true) ⟨o,ho,hc⟩ isSubtype_stop (wpAny_pure (hQ _ hk)))
end
noncomputable def itT(t:Bool):String:=if t=true then "tuple_iterator" else "list_iterator"
noncomputable abbrev zq1(t:Bool)(h:Heap)(a:Addr):Heap:=h.push {cls:=.type (itT t),data:=.fields #[.ref a,.int 0 0]}
noncomputable abbrev zq2(t u:Bool)(h:Heap)(a b:Addr):Heap:=(zq1 t h a).push {cls:=.type (itT u),data:=.fields #[.ref b,.int 0 0]}
noncomputable abbrev zq3(t u:Bool)(h:Heap)(a b:Addr):Heap:=(zq2 t u h a b).push {cls:=.type "tuple", data:=.seq #[.ref h.objs.size,.ref (zq1 t h a).objs.size]}
noncomputable abbrev zq4(t u:Bool)(h:Heap)(a b:Addr):Heap:=(zq3 t u h a b).push {cls:=.type "tuple", data:=.seq #[.none,.none]}
noncomputable abbrev zq5(t u:Bool)(h:Heap)(a b:Addr):Heap:=(zq4 t u h a b).push {cls:=.type "zip", data:=.fields #[.none,.bool false,.bool false,.ref (zq2 t u h a b).objs.size,.ref (zq3 t u h a b).objs.size]}
theorem y7r(t u:Bool)(a b:Addr)(xs ys:Array Value):
  Meets (Builtin.«zip.__new__» ⟨[.type "zip", .ref a,.ref b],[]⟩) (fun _ R s=>IsSq t a xs s.heap/\IsSq u b ys s.heap/\R (.ok (.ret (.ref (zq4 t u s.heap a b).objs.size))) {s with heap:=zq5 t u s.heap a b}):=
 .of_wp fun prog w A R s hyp=>by
  obtain⟨hp,g,d,tk,os⟩:=s;obtain⟨g1,g2,h⟩:=hyp;have hsub:=sub_zip;have q2:IsSq u b ys (zq1 t hp a):=g2.keep fun o e=>Heap.get?_push_of_some _ e
  cases t with
  |false=>
   have p1:Heap.IsList (Shared.heap ⟨hp,g,d,tk,os⟩) a xs:=g1;cases u with
   |false=>
    have p2:Heap.IsList (Shared.heap ⟨hp.push {cls:=.type "list_iterator", data:=.fields #[.ref a,.int 0 0]},g,d,tk,os⟩) b ys:=q2
    wp_walk using wpAny_pyIter_list p1,wpAny_pyIter_list p2
    exact⟨_,rfl,h⟩
   |true=>
    have p2:Heap.IsTuple (Shared.heap ⟨hp.push {cls:=.type "list_iterator", data:=.fields #[.ref a,.int 0 0]},g,d,tk,os⟩) b ys:=q2
    wp_walk using wpAny_pyIter_list p1,wpAny_pyIter_tuple p2
    exact⟨_,rfl,h⟩
  |true=>
   have p1:Heap.IsTuple (Shared.heap ⟨hp,g,d,tk,os⟩) a xs:=g1;cases u with
   |false=>
    have p2:Heap.IsList (Shared.heap ⟨hp.push {cls:=.type "tuple_iterator", data:=.fields #[.ref a,.int 0 0]},g,d,tk,os⟩) b ys:=q2
    wp_walk using wpAny_pyIter_tuple p1,wpAny_pyIter_list p2
    exact⟨_,rfl,h⟩
   |true=>
    have p2:Heap.IsTuple (Shared.heap ⟨hp.push {cls:=.type "tuple_iterator", data:=.fields #[.ref a,.int 0 0]},g,d,tk,os⟩) b ys:=q2
    wp_walk using wpAny_pyIter_tuple p1,wpAny_pyIter_tuple p2
    exact⟨_,rfl,h⟩
section
variable{prog:Program}{w:World}{E:Value->Shared->Prop}
theorem x0o{t:Bool}{j:Addr}{o:Obj}(e:h.get? j=some o)(c:o.cls=.type (itT t))(d:o.data=.fields #[.ref a,.int 0 0]):IsIt t j a 0 h:=by
 cases t with
 |true=>exact(show h.IsTupleIter j a 0 from⟨o,e,c,d⟩)
 |false=>exact(show h.IsListIter j a 0 from⟨o,e,c,d⟩)
theorem x6c{t u:Bool}{b:Addr}{xs:Array Value}{Q:Value->Shared->Prop}(g1:IsSq t a xs s.heap)(g2:IsSq u b ys s.heap)
  (h:∀h',IsZip h' (s.heap.objs.size+4) (s.heap.objs.size+2) (s.heap.objs.size+3) .none->IsPair h' (s.heap.objs.size+2) (.ref s.heap.objs.size) (.ref (s.heap.objs.size+1)) ->
   IsPair h' (s.heap.objs.size+3) .none .none->IsIt t s.heap.objs.size a 0 h'->IsIt u (s.heap.objs.size+1) b 0 h'->(∀c o,s.heap.get? c=some o->h'.get? c=some o)->Q (.ref (s.heap.objs.size+4)) {s with heap:=h'}):
  wpAny (model prog w) A (call (.type "zip") [.ref a,.ref b]) Q E s:=by
 refine callType_new F.called_zip (by decide) (F.typeCall_zip_2 _ _) (F.newCall_zip_2 _ _) (fun obj=>F.args_object_init_3 obj _ _) F.entry_zip_new (y7r t u a b xs ys) ⟨g1,g2,?_⟩
 have n1:(zq1 t s.heap a).objs.size=s.heap.objs.size+1:=Heap.size_push ..;have n2:(zq2 t u s.heap a b).objs.size=s.heap.objs.size+2:=by rw[Heap.size_push,n1]
 have n3:(zq3 t u s.heap a b).objs.size=s.heap.objs.size+3:=by rw[Heap.size_push,n2]
 have n4:(zq4 t u s.heap a b).objs.size=s.heap.objs.size+4:=by rw[Heap.size_push,n3]
 have k5:(zq5 t u s.heap a b).get? (zq4 t u s.heap a b).objs.size=some _:=Heap.get?_push_size _ rfl;have k4:(zq5 t u s.heap a b).get? (zq3 t u s.heap a b).objs.size=some _:=Heap.get?_push_of_some _ (Heap.get?_push_size _ rfl);have k3:(zq5 t u s.heap a b).get? (zq2 t u s.heap a b).objs.size=some _:=Heap.get?_push_of_some _ (Heap.get?_push_of_some _ (Heap.get?_push_size _ rfl));have k2:(zq5 t u s.heap a b).get? (zq1 t s.heap a).objs.size=some _:=Heap.get?_push_of_some _ (Heap.get?_push_of_some _ (Heap.get?_push_of_some _ (Heap.get?_push_size _ rfl)));have k1:(zq5 t u s.heap a b).get? s.heap.objs.size=some _:=Heap.get?_push_of_some _ (Heap.get?_push_of_some _ (Heap.get?_push_of_some _ (Heap.get?_push_of_some _ (Heap.get?_push_size _ rfl))));have up:∀c o,s.heap.get? c=some o->(zq5 t u s.heap a b).get? c=some o:=fun c o e=>Heap.get?_push_of_some _ (Heap.get?_push_of_some _ (Heap.get?_push_of_some _ (Heap.get?_push_of_some _ (Heap.get?_push_of_some _ e))))
 show _/\_;rw[n2,n3,n4]at k5;rw[n1,n2]at k3;rw[n3]at k4;rw[n1]at k2;rw[n4];exact⟨⟨_,k5,rfl⟩,h _ k5 k3 k4 (x0o k1 rfl rfl) (x0o k2 rfl rfl) up⟩
end
section
variable{e1 e2:Expr}{pt:Pos}
def SqG(K:PySem.W.Frag)(t:Bool)(H:Hp)(a:Addr)(xs:List V):Prop:=if t=true then SqT K H a xs else SqL K H a xs
theorem q42{t:Bool}(I:Inv X pins σ H s)(h:SqG X.K t H a xs):∃its:List Value,Vals xs its/\IsSq t a its.toArray s.heap:=by
 cases t with
 |true=>
  obtain⟨its,r,p,_⟩:=I.tuple h;exact⟨its,r,(show s.heap.IsTuple a its.toArray from p)⟩
 |false=>
  obtain⟨its,r,p,_⟩:=I.list h;exact⟨its,r,p.isList⟩
theorem x6d{t:Bool}{ys:List V}(I:Inv X pins σ H s)(h:SqG X.K t H a xs)(h':SqG X.K t H a ys):xs=ys:=by
 cases t with
 |true=>exact I.tuple_inj h h'
 |false=>exact I.list_inj h h'
theorem IsSq.obj{t:Bool}(x:IsSq t a vs h):∃o,h.get? a=some o/\o.cls=.type (if t=true then "tuple" else "list"):=by
 cases t with
 |true=>obtain⟨o,ho,c,_⟩:=(show h.IsTuple a vs from x);exact⟨o,ho,c⟩
 |false=>obtain⟨o,ho,c,_⟩:=(show h.IsList a vs from x);exact⟨o,ho,c⟩
theorem x1r{t':Nat}{fp:List Addr}(I:Inv X pins σ H s)(k:∀b o,b∉fp->s.heap.get? b=some o->h'.get? b=some o)(hf:∀b∈fp,FpOk X pins H b):Inv X pins σ H {s with heap:=h',toks:=t'}:=by
 have nfp:∀c u,H c=some u->c∉fp:=fun c u e z=>by rw[(hf c z).1]at e;cases e
 refine I.step (g':=s.gens) (d':=s.drawn) (ch:=fp) (fun c hc=>?_) (fun c o _ _ hc e _=>k c o hc e) (fun c o _ _ hc e _=>⟨o.slots,k c o hc e⟩) (fun c o _ e n=>n)
  (fun c o hc e=>⟨o,k c o hc e⟩) (fun c xs e=>e) (fun c o u e=>e) (fun c ps e=>⟨#[],by rw[e];simp⟩) (fun m hm=>?_) (fun c u e=>?_) I.bare
 ·obtain⟨f0,f1,f2,f3,f4,f5⟩:=hf c hc;exact⟨f3,f1,f4,f5⟩
 ·obtain⟨o,es,ep,ho,r⟩:=hm;exact⟨o,es,ep,k _ o (fun z=>(hf _ z).2.1 rfl) ho,r⟩
 ·refine(I.hok c u e).stay (fun d v hd q=>k d v ?_ q) (fun d q=>q) fun d xs _ q=>q
  rcases hd with z|z
  ·rw[z];exact nfp c u e
  ·exact nfp d _ z
noncomputable def Itz(K:PySem.W.Frag)(t u:Bool)(a b:Addr):It:=
  ⟨fun i H=>∃xs ys x y,SqG K t H a xs/\SqG K u H b ys/\xs[i]?=some x/\ys[i]?=some y,
   fun i H v H'=>∃c x y,v=.ref c/\H c=none/\(∀xs,SqG K t H a xs->xs[i]?=some x)/\(∀ys,SqG K u H b ys->ys[i]?=some y)/\H'=upd H c (.tup [x,y]),
   fun i H=>∃xs ys,SqG K t H a xs/\SqG K u H b ys/\(xs.length<=i\/ys.length<=i)⟩
theorem x87{w:World}(t u:Bool)(a b z I O i j:Addr)(D:Apart z I O i j a b):
  Turn P w K (.Tuple elts kt pt) (Itz K t u a b) [z,I,O,i,j] z (fun k h=>IsZip h z I O .none/\IsPair h I (.ref i) (.ref j)/\(∃p q,IsPair h O p q)/\IsIt t i a k h/\IsIt u j b k h) where
 mem:=by simp
 obj:=fun k h ⟨s1,s2,⟨p,q,s3⟩,s4,s5⟩ c hc=>by
  simp only[w0j,w2e,or_false]at hc;rcases hc with rfl|rfl|rfl|rfl|rfl
  ·exact⟨_,s1,fun v z=>by cases z⟩
  ·exact⟨_,s2,fun v z=>by cases z⟩
  ·exact⟨_,s3,fun v z=>by cases z⟩
  ·exact s4.obj
  ·exact s5.obj
 keep:=fun k h h' ⟨s1,s2,⟨p,q,s3⟩,s4,s5⟩ f=>⟨f z (by simp) _ s1,f I (by simp) _ s2,⟨p,q,f O (by simp) _ s3⟩,s4.keep fun o e=>f i (by simp) o e,s5.keep fun o e=>f j (by simp) o e⟩
 item:=by
  intro X hP hw hK hc k pins s σ H E Iv hf st hg;subst hP hw hK;obtain⟨s1,s2,⟨p,q,s3⟩,s4,s5⟩:=st;obtain⟨xs,ys,x,y,q1,q2,hx,hy⟩:=hg;obtain⟨is1,r1,p1⟩:=q42 Iv q1;obtain⟨is2,r2,p2⟩:=q42 Iv q2;obtain⟨ux,hux,rux⟩:=r1.get hx;obtain⟨uy,huy,ruy⟩:=r2.get hy;refine y3f D s1 s2 s3 s4 s5 p1 p2 (x:=ux) (y:=uy) (by simpa using hux) (by simpa using huy) fun h1 z1 o1 i1 j1 t1 n1 k1=>⟨_,rfl,?_⟩
  refine wpAny_letOwnedTupleGo_zip z1 fun h2 z2 b2=>?_
  have b2:Heap.SameBut z h1 h2:=b2;have zlt:z<s.heap.objs.size:=Heap.lt_size s1;have hfr:H s.heap.objs.size=none:=Iv.hok.fresh (w0i _);have t2:IsPair h2 s.heap.objs.size ux uy:=(b2.2 _ (w3i zlt)).trans t1;have I1:IsPair h1 I (.ref i) (.ref j):=k1 I _ D.Iz D.IO D.Ii D.Ij s2;refine⟨.ref s.heap.objs.size,upd H s.heap.objs.size (.tup [x,y]),?_,rfl,⟨_,x,y,rfl,hfr,fun xs' h'=>by rw[x6d Iv h' q1];exact hx,fun ys' h'=>by rw[x6d Iv h' q2];exact hy,rfl⟩,⟨z2,(b2.2 _ D.Iz).trans I1,⟨ux,uy,(b2.2 _ D.Oz).trans o1⟩,i1.keep fun o e=>(b2.2 _ D.iz).trans e,j1.keep fun o e=>(b2.2 _ D.jz).trans e⟩,fun c hc=>?_⟩
  ·show L2.Inv X pins σ _ {s with heap:=h2,toks:=s.toks};refine x56 (fp:=[z,I,O,i,j]) Iv (fun c o hc q=>?_) hf (w0i _) ⟨?_,[ux,uy],.cons rux (.cons ruy .nil),⟨_,t2,rfl,?_⟩,⟨_,t2,rfl⟩⟩
   ·simp only[w0j,w2e,or_false,not_or]at hc;exact(b2.2 c hc.1).trans (k1 c o hc.1 hc.2.2.1 hc.2.2.2.1 hc.2.2.2.2 q)
   ·rw[sizeLine_eq];simp
   ·exact⟨_,rfl⟩
  ·have:c≠s.heap.objs.size:=by
    obtain⟨o,q,_⟩:∃o,s.heap.get? c=some o/\True:=by
     simp only[w0j,w2e,or_false]at hc;rcases hc with rfl|rfl|rfl|rfl|rfl
     ·exact⟨_,s1,trivial⟩
     ·exact⟨_,s2,trivial⟩
     ·exact⟨_,s3,trivial⟩
     ·obtain⟨o,e,_⟩:=s4.obj;exact⟨o,e,trivial⟩
     ·obtain⟨o,e,_⟩:=s5.obj;exact⟨o,e,trivial⟩
    exact w0q (Heap.lt_size q)
   rw[q0b this];exact(hf c hc).1
 done:=by
  intro X hP hw hK hc k pins s σ H E Iv hf st hg;subst hP hw hK;obtain⟨s1,s2,⟨p,q,s3⟩,s4,s5⟩:=st;obtain⟨xs,ys,q1,q2,hlen⟩:=hg;obtain⟨is1,r1,p1⟩:=q42 Iv q1;obtain⟨is2,r2,p2⟩:=q42 Iv q2;have l1:=r1.length;have l2:=r2.length;refine y3g (Iv.ok.hd hc) D s1 s2 s3 s4 s5 p1 p2 (by rcases hlen with h|h;left;simp;omega;right;simp;omega) fun h' k1=>⟨rfl,?_⟩
  have hfp:∀c∈[z,I,O,i,j],FpOk X pins H c:=hf;refine x1r (fp:=[z,I,O,i,j]) (t':=s.toks) Iv (fun c o hc q=>?_) hfp
  simp only[w0j,w2e,or_false,not_or]at hc;exact k1 c o hc.1 hc.2.2.1 hc.2.2.2.1 hc.2.2.2.2 q
 self:=fun _ _ _ _ _ ⟨s1,_⟩ h=>wpAny_pyIter_zip s1 h
end
theorem x6e(n a b:Nat)(ha:a<n)(hb:b<n):Apart (n+4) (n+2) (n+3) n (n+1) a b where
 Iz:=by show ¬(n+2:Nat)=n+4;omega
 Oz:=by show ¬(n+3:Nat)=n+4;omega
 iz:=by show ¬(n:Nat)=n+4;omega
 jz:=by show ¬(n+1:Nat)=n+4;omega
 IO:=by show ¬(n+2:Nat)=n+3;omega
 Ii:=by show ¬(n+2:Nat)=n;omega
 Ij:=by show ¬(n+2:Nat)=n+1;omega
 Oi:=by show ¬(n+3:Nat)=n;omega
 Oj:=by show ¬(n+3:Nat)=n+1;omega
 ij:=by show ¬(n:Nat)=n+1;omega
 az:=by show ¬(a:Nat)=n+4;omega
 aO:=by show ¬(a:Nat)=n+3;omega
 ai:=by show ¬(a:Nat)=n;omega
 aj:=by show ¬(a:Nat)=n+1;omega
 bz:=by show ¬(b:Nat)=n+4;omega
 bO:=by show ¬(b:Nat)=n+3;omega
 bi:=by show ¬(b:Nat)=n;omega
 bj:=by show ¬(b:Nat)=n+1;omega
section
variable{a1 a2:Expr}{pt:Pos}
def iZip(K:PySem.W.Frag)(ta:TA):TI:=fun σ H R=>ta σ H fun vs H1=>∃t u a b,vs=[.ref a,.ref b]/\(∃xs,SqG K t H1 a xs)/\(∃ys,SqG K u H1 b ys)/\R (Itz K t u a b) H1
theorem y7s{ta:TA}{p:Pos}(hg:Gl X "zip")(hm:X.mg "zip"=none)(ha:PA X [a1,a2] ta)(hs:starEach [a1,a2] X.env=[(false,eval a1 X.env),(false,eval a2 X.env)]:=by rfl)(hs2:starEach [a2] X.env=[(false,eval a2 X.env)]:=by rfl):
  PI X (.Tuple elts kt pt) (.Call (.Name "zip" p) [a1,a2] [] pos) (iZip X.K ta):=by
 intro pins s σ H R I h;refine PyProof.Rows.Call_ (q4w I hg hm PyProof.Rows.boot_zip (PyProof.Rows.callWith_type1 (thn (ha pos pins s σ H _ I h) fun us s1 ⟨vs,H1,I1,r1,q1⟩=>?_) (by rw[hs,hs2]) (by rw[hs2];rfl)))
 obtain⟨t,u,a,b,e,⟨xs,hx⟩,⟨ys,hy⟩,q⟩:=q1;subst e;cases r1 with
 |cons r rr=>
  cases rr with
  |cons r' rr=>
   cases rr;cases r;cases r';obtain⟨is1,v1,p1⟩:=q42 I1 hx;obtain⟨is2,v2,p2⟩:=q42 I1 hy;obtain⟨oa,ea,_⟩:=p1.obj;obtain⟨ob,eb,_⟩:=p2.obj;have la:=Heap.lt_size ea;have lb:=Heap.lt_size eb;refine x6c p1 p2 fun h' z1 i1 o1 k1 k2 up=>?_
   refine wpAny_pyIter_zip z1 ?_
   have D:Apart (s1.heap.objs.size+4) (s1.heap.objs.size+2) (s1.heap.objs.size+3) s1.heap.objs.size (s1.heap.objs.size+1) a b:=by
    have la':(a:Nat)<s1.heap.objs.size:=la;have lb':(b:Nat)<s1.heap.objs.size:=lb;generalize s1.heap.objs.size=n at la' lb';exact x6e n a b la' lb'
   refine⟨s1.heap.objs.size+4,[s1.heap.objs.size+4,s1.heap.objs.size+2,s1.heap.objs.size+3,s1.heap.objs.size,s1.heap.objs.size+1],_,_,H1,rfl,I1.kept (t':=s1.toks) up,x87 t u a b _ _ _ _ _ D,⟨z1,i1,⟨_,_,o1⟩,k1,k2⟩,fun c hc=>?_,q⟩
   simp only[w0j,w2e,or_false]at hc;rcases hc with rfl|rfl|rfl|rfl|rfl<;>exact I1.fpOk (by omega) (I1.hok.fresh (by omega))
noncomputable def srcZ(dA:Den (List W)):Den (List (W×W)):=fun e=>(dA e).bind fun ws e1=>match ws with
 |[x,y]=>match seqW x,seqW y with
  |some us,some vs=>.ok (us.zip vs) e1
  |_,_=>.no
 |_=>.no
theorem x2o(h:seqW w=some us)(p:Rep K G w v):∃t a xs,v=.ref a/\SqG K t G a xs/\Reps K G us xs:=by
 cases w with
 |tup l=>
  cases h;obtain⟨a,xs,rfl,hq,rp⟩:=p;exact⟨true,a,xs,rfl,hq,rp⟩
 |lst l=>
  cases h;obtain⟨a,xs,rfl,hq,rp⟩:=p;exact⟨false,a,xs,rfl,hq,rp⟩
 |_=>cases h
theorem q1i{t:Bool}(s:Same G H)(h:SqG K t G a xs):SqG K t H a xs:=by
 cases t with
 |true=>exact s.tup h
 |false=>exact s.seq h
theorem x6f{t u:Bool}{b:Addr}{vs:List W}{ys:List V}(r1:Reps K G1 us xs)(r2:Reps K G1 vs ys)(h1:SqG K t G1 a xs)(h2:SqG K u G1 b ys):Walk2 K G1 (Itz K t u a b) (us.zip vs):=by
 have l1:=r1.length;have l2:=r2.length;have lz:(us.zip vs).length=min us.length vs.length:=List.length_zip ..;refine⟨fun i G H s s' h=>⟨xs,ys,xs[i]'(by omega),ys[i]'(by omega),q1i s' (q1i s h1),q1i s' (q1i s h2),by simp,by simp⟩,fun i G H x H' s s' hy p q h=>?_,fun i G H s s' h=>⟨xs,ys,q1i s' (q1i s h1),q1i s' (q1i s h2),by omega⟩⟩
 obtain⟨c,x1,y1,rfl,hn,hx1,hy1,rfl⟩:=hy;obtain⟨hu,hv⟩:=w2y.mp h;obtain⟨w1,hw1,pw1⟩:=r1.getV (hx1 xs (q1i s' (q1i s h1)));obtain⟨w2,hw2,pw2⟩:=r2.getV (hy1 ys (q1i s' (q1i s h2)));rw[hu]at hw1;rw[hv]at hw2;cases hw1;cases hw2;exact⟨Grow.hid s' hn _,fun m n σ Q hQ=>⟨c,[x1,y1],rfl,SqT.of q0g,rfl,x1,[y1],rfl,y1,[],rfl,rfl,hQ _ _ (Rep.mono s _ pw1) (Rep.mono s _ pw2)⟩⟩
theorem y7t{p:Pos}(hm:X.mg "zip"=none)(ha:DA Z X EE [a1,a2] dA)(hg:Gl X "zip":=by rfl)(hs:starEach [a1,a2] X.env=[(false,eval a1 X.env),(false,eval a2 X.env)]:=by rfl)(hs2:starEach [a2] X.env=[(false,eval a2 X.env)]:=by rfl):
  DI Z X EE (.Tuple elts kt pt) (.Call (.Name "zip" p) [a1,a2] [] pos) (srcZ dA):=by
 refine PI.mono (y7s hg hm ha hs hs2) ?_;rintro σ H RR ⟨G,e,rel,h⟩;simp only[srcZ,R.holds_bind]at h;refine⟨G,e,rel,h.imp (fun ws e1 h G1 vs H1 r1 s1 p1=>?_) fun _ _ h=>h⟩
 split at h
 ·rename_i w1 w2;split at h
  ·rename_i us ws hu hw;obtain⟨y1,r,rfl,q1,y2,r',rfl,q2,q3⟩:=p1;cases(show r'=[]from q3);obtain⟨t,a,xs,rfl,hx,rx⟩:=x2o hu q1;obtain⟨u,b,ys,rfl,hy,ry⟩:=x2o hw q2;exact⟨t,u,a,b,rfl,⟨xs,q1i r1.sub hx⟩,⟨ys,q1i r1.sub hy⟩,h _ _ _ r1 s1 (x6f rx ry hx hy)⟩
  ·exact h.elim
 ·exact h.elim
end
section
variable{vs:List W}
noncomputable def srcZW(e:List S):List W->R (List (W×W))
 |[x,y]=>match seqW x,seqW y with
  |some us,some vs=>.ok (us.zip vs) e
  |_,_=>.no
 |_=>.no
theorem y7u:srcZ dA e=(dA e).bind fun ws e1=>srcZW e1 ws:=by
 unfold srcZ;congr 1
theorem x88:srcZW e [.tup us,.tup vs]=.ok (us.zip vs) e:=rfl
theorem x89:srcZW e [.lst us,.lst vs]=.ok (us.zip vs) e:=rfl
theorem x9a:srcZW e [.tup us,.lst vs]=.ok (us.zip vs) e:=rfl
theorem x9b:srcZW e [.lst us,.tup vs]=.ok (us.zip vs) e:=rfl
end
noncomputable def dMut0(i:Nat)(f:List W->List W):List S->SR:=fun e=>match e[i]? with
 |some (.own b ws)=>.nx (e.set i (.own b (f ws)))
 |_=>.no
theorem Reps.rev:∀{ws:List W}{xs:List V},Reps K G ws xs->Reps K G ws.reverse xs.reverse
 |[],xs,h=>by cases(show xs=[]from h);exact rfl
 |w::ws,xs,h=>by
  obtain⟨v,vs,rfl,p,r⟩:=h;rw[w2m,w2m];exact(Reps.rev r).append (.one p)
section
variable{p:Pos}
theorem y7v(i:Nat){apos cpos:Pos}(hN:X.N[i]?=some x:=by rfl)(hv:Vis X.env.scope x:=by walk_at "1")(hd:(x==("__debug__":Str))=false:=by decide)(hcd:(x==("__classdict__":Str))=false:=by decide)
  (hbase:attributeBase (.Name x p) "reverse" X.env (eval (.Name x p) X.env)=eval (.Name x p) X.env:=by rfl)(hline:(apos.endLine==cpos.line)=true:=by rfl)(hsw:swapsWith (.Call (.Attribute (.Name x p) "reverse" apos) [] [] cpos) none pos.line X.env=pure false:=by rfl):
  DS Z X EE (.Expr (.Call (.Attribute (.Name x p) "reverse" apos) [] [] cpos) pos) (dMut0 i List.reverse):=by
 refine PS.mono (q4x (x5b PySem.F.plainAttrs_list PySem.F.slot_list_reverse PySem.F.type_list_reverse x3n (pv i hN hv hd hcd) hbase hline) hsw) ?_;rintro D σ H ⟨G,e,rel,h⟩;unfold dMut0 at h;split at h
 ·rename_i b ws he;obtain⟨a,xs,h1,h2,h3,h4,h5⟩:=rel.own he;refine⟨.ref a,h1,.inl ⟨rfl,xs,SqL.of h2⟩,a,xs,rfl,rfl,h2,?_⟩;exact h G σ _ (rel.mut he h1 (Reps.rev h5)) (.refl _)
 ·exact h.elim
end
section
variable{o e a b c:Expr}{dc:Den W}{p1 p2 p3:Pos}
noncomputable def dChain(f g:W->W->Option W)(da db dc:Den W):Den W:=fun e=>(da e).bind fun x e1=>(db e1).bind fun y e2=>(ofOpt (f x y) e2).bind fun z e3=>match z with
 |.bl true=>(dc e3).bind fun v e4=>ofOpt (g y v) e4
 |.bl false=>.ok (.bl false) e3
 |_=>.no
theorem x30{r r':R2}{g:W->W->Option W}(hf:Op2 K r f)(hg:Op2 K r' g):∀σ H Q,liftE K Z EE (dChain f g da db dc) σ H Q->tChain r r' (liftE K Z EE da) (liftE K Z EE db) (liftE K Z EE dc) σ H Q:=by
 rintro σ H Q ⟨G,e,rel,h⟩;simp only[dChain,R.holds_bind,ofOpt_holds]at h;refine⟨G,e,rel,h.imp (fun x e1 h G1 v1 H1 r1 s1 p1=>?_) fun _ _ h=>h⟩
 refine⟨G1,e1,r1,h.imp (fun y e2 h G2 v2 H2 r2 s2 p2=>?_) fun _ _ h=>XH.trans s1 h⟩
 obtain⟨w,hw,h⟩:=h;refine hf G2 H2 v1 v2 x y w _ r2.sub (Rep.mono s2 x p1) p2 hw fun G' v H' gr p=>?_
 split at h
 ·cases(show v=V.bl true from p);refine⟨true,rfl,?_⟩;rw[if_pos rfl];simp only[R.holds_bind,ofOpt_holds]at h;refine⟨G',e2,r2.grow gr,h.imp (fun z e3 h G3 v3 H3 r3 s3 p3=>?_) fun _ _ h=>XH.trans ((s1.trans s2).trans gr.gg) h⟩
  obtain⟨w',hw',h⟩:=h;exact hg G3 H3 v2 v3 y z w' Q r3.sub (Rep.mono (gr.gg.trans s3) y p2) p3 hw' fun G4 v4 H4 g4 p4=>h G4 v4 H4 (r3.grow g4) ((((s1.trans s2).trans gr.gg).trans s3).trans g4.gg) p4
 ·cases(show v=V.bl false from p);refine⟨false,rfl,?_⟩;rw[if_neg (by decide)];exact h G' _ H' (r2.grow gr) ((s1.trans s2).trans gr.gg) rfl
 ·exact h.elim
theorem y3h(ha:DE Z X EE a da)(hb:DE Z X EE b db)(hc:DE Z X EE c dc)(hm:lastMarks [.LtE,.Lt] [b,c]=false:=by with_unfolding_all rfl):DT Z X EE (.Compare a [.LtE,.Lt] [b,c] pos) (dTest (dChain leW ltW da db dc)):=PT.mono (x75 y0z x3k ha hb hc hm) fun σ H Q h=>x30 y02 x3q σ H _ (q4m h)
noncomputable def dSet2(i j:Nat)(d:Den W):List S->SR:=fun e=>(d e).stm fun w e1=>match w with
 |.tup [u,v]=>.nx ((e1.set i (.fr u)).set j (.fr v))
 |_=>.no
theorem y3i(i j:Nat)(hN:X.N.Nodup)(hc:X.calm=true)(he:DE Z X EE e d)
  (hi:X.N[i]?=some x:=by rfl)(hx:Loc X.env.scope x:=by walk_at "3")(hf:X.fn x=true\/X.env.scope.names.lookup x=some .local:=by walk_at "2")
  (hj:X.N[j]?=some y:=by rfl)(hy:Loc X.env.scope y:=by walk_at "3")(hf':X.fn y=true\/X.env.scope.names.lookup y=some .local:=by walk_at "2")
  (hn:(assignEach [.Name x p1,.Name y p2] X.env).length=2:=by rfl)(hst:(assignEach [.Name x p1,.Name y p2] X.env).findIdx? (·.1)=none:=by rfl)
  (g1:(assignEach [.Name x p1,.Name y p2] X.env).map (·.2)=assign (.Name x p1) X.env::(assignEach [.Name y p2] X.env).map (·.2):=by rfl)(g2:(assignEach [.Name y p2] X.env).map (·.2)=assign (.Name y p2) X.env::(assignEach [] X.env).map (·.2):=by rfl)
  (hs:swapsWithSole [.Tuple [.Name x p1,.Name y p2] kt p3] e pos.line X.env=pure false:=by rfl)(hw:swappedStores [.Tuple [.Name x p1,.Name y p2] kt p3] e X.env=pure none:=by rfl)
  (h1:(assignEach [.Tuple [.Name x p1,.Name y p2] kt p3] X.env).map (·.2)=[assign (.Tuple [.Name x p1,.Name y p2] kt p3) X.env]:=by rfl):
  DS Z X EE (.Assign [.Tuple [.Name x p1,.Name y p2] kt p3] e pos) (dSet2 i j d):=by
 refine PS.mono (y5p he (q93 hc (q3j (q27 i hN hi hx hf) (q3j (q27 j hN hj hy hf') q8c g2) g1) hn hst) hs hw h1) ?_;rintro D σ H ⟨G,e,rel,h⟩;refine⟨G,e,rel,(q0r h).imp (fun w e1 h G1 v1 H1 r1 q1 p1=>?_) fun _ _ h=>h⟩
 split at h
 ·rename_i u v;obtain⟨c,ys,rfl,hq,y1,z1,rfl,p1,y2,z2,rfl,p2,rfl⟩:=p1;exact⟨c,[y1,y2],rfl,r1.sub.tup hq,rfl,y1,[y2],rfl,y2,[],rfl,rfl,h G1 _ H1 ((r1.set p1).set p2) q1⟩
 ·exact h.elim
end
noncomputable def mut0K(i:Nat)(f:List W->List W)(e:List S):Option S->SR
 |some (.own b ws)=>.nx (e.set i (.own b (f ws)))
 |_=>.no
theorem y3j{f:List W->List W}:dMut0 i f e=mut0K i f e e[i]?:=by
 unfold dMut0 mut0K;cases e[i]? with
 |none=>rfl
 |some s=>cases s<;>rfl
theorem x9c{f:List W->List W}{b:Option Nat}:mut0K i f e (some (.own b ws))=.nx (e.set i (.own b (f ws))):=rfl
noncomputable def chainK(g:W->W->Option W)(dc:Den W)(y:W)(e:List S):W->R W
 |.bl true=>(dc e).bind fun v e4=>ofOpt (g y v) e4
 |.bl false=>.ok (.bl false) e
 |_=>.no
theorem x9d{g:W->W->Option W}{dc:Den W}:dChain f g da db dc e=(da e).bind fun x e1=>(db e1).bind fun y e2=>(ofOpt (f x y) e2).bind fun z e3=>chainK g dc y e3 z:=by
 unfold dChain;congr 1
theorem x9e{g:W->W->Option W}{dc:Den W}{y:W}:chainK g dc y e (.bl b)=if b=true then(dc e).bind fun v e4=>ofOpt (g y v) e4 else .ok (.bl false) e:=by cases b<;>rfl
noncomputable def set2K(i j:Nat)(e:List S):W->SR
 |.tup [u,v]=>.nx ((e.set i (.fr u)).set j (.fr v))
 |_=>.no
theorem y3k:dSet2 i j d e=(d e).stm fun w e1=>set2K i j e1 w:=by
 unfold dSet2;congr 1
theorem y7w{u v:W}:set2K i j e (.tup [u,v])=.nx ((e.set i (.fr u)).set j (.fr v)):=rfl
theorem x2p:∀ns:List Int,intsW (ns.map .int)=some ns
 |[]=>rfl
 |n::ns=>by rw[w0v];show(intsW (ns.map .int)).map (n::·)=_;rw[x2p ns];rfl
noncomputable def hide1:S->S
 |.own _ ws=>.fr (.lst ws)
 |.dic kvs=>.fr (.dic kvs)
 |.thr us ws vs=>.fr (.tup (us++.lst ws::vs))
 |.nest wss=>.fr (.lst (wss.map W.lst))
 |.x (.old w)=>.fr w
 |.x (.new w)=>.fr w
 |.x (.acc ws)=>.fr (.lst ws)
 |.x (.thro us ws vs)=>.fr (.tup (us++.lst ws::vs))
 |.x (.tn us wss)=>.fr (.tup (us++[.lst (wss.map W.lst)]))
 |.x (.pt _ _ _)=>.no
 |.x (.fz w)=>.fr w
 |.x (.fzo w)=>.fr w
 |.dw sh ks ws=>.fr (.dw false sh ks ws)
 |s=>s
theorem NestIn.reps{G':Hp}(sg:Same G G')(hf:∀l o ys,FzAt Z G H l o ys->G' l=some (.frz o (.lst ys))):∀{ls:List Addr}{wss:List (List W)},NestIn K Z G H ls wss->Reps K G' (wss.map W.lst) (ls.map V.ref)
 |[],[],_=>rfl
 |l::ls,ws::wss,⟨⟨o,ys,h1,h4⟩,h⟩=>⟨.ref l,ls.map V.ref,rfl,⟨l,ys,rfl,.inl (.inr ⟨o,hf l o ys h1⟩),Reps.mono sg ws h4⟩,h.reps sg hf⟩
 |[],_::_,h=>h.elim
 |_::_,[],h=>h.elim
noncomputable def hideS(e:List S):List S:=e.map hide1
noncomputable def borrowR(e:List S):R W->R W
 |.ok w _=>if scalW w=true then .ok w e else .no
 |.ex c _=>.ex c e
 |.no=>.no
noncomputable def dBorrow(d:Den W):Den W:=fun e=>borrowR e (d (hideS e))
noncomputable def borrowT(e:List S):R Bool->R Bool
 |.ok b _=>.ok b e
 |.ex c _=>.ex c e
 |.no=>.no
noncomputable def dBorrowT(d:Den Bool):Den Bool:=fun e=>borrowT e (d (hideS e))
theorem Rel.hide(r:Rel K Z G σ H e):Rel K ⟨H,H,[]⟩ H σ H (hideS e):=by
 have g:∀(i:Nat)(s:S),(hideS e)[i]?=some s->∃s0,e[i]?=some s0/\s=hide1 s0:=fun i s h=>by
  unfold hideS at h;rw[w0f]at h;obtain⟨s0,h1,h2⟩:=w0b.mp h;exact⟨s0,h1,h2.symm⟩
 refine⟨.refl _,fun i s h=>?_,by unfold hideS;rw[w0c];exact r.len,fun i j b b' ws ws' a h1 _ _ _=>?_,fun a o h _=>h,(fun a h=>nomatch h),fun a _=>rfl⟩
 ·obtain⟨s0,h0,rfl⟩:=g i s h;have q:=r.slot i s0 h0;cases s0 with
  |no=>trivial
  |fr w=>
   obtain⟨u,q1,q2⟩:=q;exact⟨u,q1,Rep.mono r.sub w q2⟩
  |own b ws=>
   obtain⟨a,xs,q1,q2,q3,q4,q5⟩:=q;exact⟨.ref a,q1,a,xs,rfl,SqL.of q2,Reps.mono r.sub ws q5⟩
  |dic kvs=>
   obtain⟨a,q1,q2,_⟩:=q;exact⟨.ref a,q1,a,rfl,q2⟩
  |thr us ws vs=>
   obtain⟨t,l,o,xs,ys,zs,q1,q2,q3,_,_,q6,q7,q8⟩:=q;exact⟨.ref t,q1,t,_,rfl,SqT.of (r.sub _ _ q2),(Reps.mono r.sub us q6).append ⟨.ref l,zs,rfl,⟨l,ys,rfl,.inl (.inr ⟨o,q3⟩),Reps.mono r.sub ws q7⟩,Reps.mono r.sub vs q8⟩⟩
  |nest wss=>
   obtain⟨a,ls,q1,q2,_,q4⟩:=q;exact⟨.ref a,q1,a,_,rfl,SqL.of (r.sub _ _ q2),q4.reps r.sub fun l o ys z=>z.1⟩
  |x k=>
   cases k with
   |old w=>obtain⟨u,q1,_,q2⟩:=q;exact⟨u,q1,Rep.mono r.sub w q2⟩
   |new w=>obtain⟨u,q1,q2⟩:=q;exact⟨u,q1,Rep.mono r.sub w (RepN.rep w q2)⟩
   |acc ws=>obtain⟨a,o,xs,q1,q2,q3⟩:=q;exact⟨.ref a,q1,a,xs,rfl,.inl (.inr ⟨o,q2.1⟩),Reps.mono r.sub ws (RepNs.reps ws q3)⟩
   |thro us ws vs=>
    obtain⟨t,l,o,xs,ys,zs,q1,_,q2,q3,_,q6,q7,q8⟩:=q;exact⟨.ref t,q1,t,_,rfl,SqT.of (r.sub _ _ q2),(Reps.mono r.sub us q6).append ⟨.ref l,zs,rfl,⟨l,ys,rfl,.inl (.inr ⟨o,q3.1⟩),Reps.mono r.sub ws q7⟩,Reps.mono r.sub vs q8⟩⟩
   |tn us wss=>
    obtain⟨t,l,o,ls,xs,q1,q2,q3,_,q5,q6⟩:=q;exact⟨.ref t,q1,t,_,rfl,SqT.of (r.sub _ _ q2),(Reps.mono r.sub us q5).append ⟨.ref l,[],rfl,⟨l,_,rfl,.inl (.inr ⟨o,q3.1⟩),q6.reps r.sub fun l o ys z=>z.1⟩,rfl⟩⟩
   |pt _ _ _=>trivial
   |fz w=>obtain⟨u,as,q1,_,q3⟩:=q;exact⟨u,q1,RepF.rep r.sub (fun l o ys z=>z.1) w q3⟩
   |fzo w=>obtain⟨u,as,q1,_,_,q3⟩:=q;exact⟨u,q1,RepF.rep r.sub (fun l o ys z=>z.1) w q3⟩
  |dw sh ks ws=>
   obtain⟨a,kvs,kas,q1,q2,_,_,q5,q6,q7⟩:=q;exact⟨.ref a,q1,a,kvs,kas,rfl,q2,q5,q6.mono r.sub,Reps.mono r.sub ws q7.reps⟩
 ·obtain⟨s0,_,h2⟩:=g i _ h1;cases s0 with
  |x k=>cases k<;>cases h2
  |_=>cases h2
theorem Rel.back{G2 H2:Hp}{e2:List S}(r:Rel K Z G σ H e)(r2:Rel K ⟨H,H,[]⟩ G2 σ H2 e2):Rel K Z G σ H2 e:=by
 have hh:Same H H2:=fun a o h=>r2.ent a o h (fun z=>nomatch z)
 exact r.grow ⟨hh,.refl _,fun a o h=>hh a o (r.sub a o h),fun _ _=>rfl⟩
theorem x0p{G':Hp}(h:scalW w=true)(p:Rep K G w v):Rep K G' w v:=by
 cases w with
 |non=>exact p
 |bl b=>exact p
 |int b=>exact p
 |str b=>exact p
 |_=>cases h
section
variable{e:Expr}
theorem q4n(he:∀Z',DE Z' X EE e d):DE Z X EE e (dBorrow d):=by
 intro pins s σ H Q I hq;obtain⟨G,e0,rel,h⟩:=hq;refine he ⟨H,H,[]⟩ pins s σ H Q I ⟨H,hideS e0,rel.hide,?_⟩;unfold dBorrow borrowR at h;cases q:d (hideS e0)with
 |ok w e2=>
  rw[q]at h;dsimp only at h;split at h
  ·rename_i hs;intro G2 v H2 r2 s2 p;exact h G v H2 (rel.back r2) (.refl _) (x0p hs p)
  ·exact h.elim
 |ex k e2=>
  rw[q]at h;intro G2 H2 r2 s2;exact h G H2 (rel.back r2) (.refl _)
 |no=>rw[q]at h;exact h.elim
theorem q4o(he:∀Z',DT Z' X EE e c):DT Z X EE e (dBorrowT c):=by
 intro pins s σ H Q I hq;obtain⟨G,e0,rel,h⟩:=hq;refine he ⟨H,H,[]⟩ pins s σ H Q I ⟨H,hideS e0,rel.hide,?_⟩;unfold dBorrowT borrowT at h;cases q:c (hideS e0)with
 |ok w e2=>
  rw[q]at h;intro G2 H2 r2 s2;exact h G H2 (rel.back r2) (.refl _)
 |ex k e2=>
  rw[q]at h;intro G2 H2 r2 s2;exact h G H2 (rel.back r2) (.refl _)
 |no=>rw[q]at h;exact h.elim
end
section
variable{e':List S}{v:Value}{k:Bool}{s:S}{p:Prop} [Decidable p]
theorem x6g:dBorrow d e=borrowR e (d (hideS e)):=rfl
theorem x31{d:Den Bool}:dBorrowT d e=borrowT e (d (hideS e)):=rfl
theorem x6h:borrowR e (.ok w e')=if scalW w=true then .ok w e else .no:=rfl
theorem x6i:borrowR e (.ex v e')=.ex v e:=rfl
theorem x32:borrowT e (.ok k e')=.ok k e:=rfl
theorem x33:borrowT e (.ex v e')=.ex v e:=rfl
theorem x34{x y:R W}:borrowR e (if p then x else y)=if p then borrowR e x else borrowR e y:=by split<;>rfl
theorem x1s{x y:R Bool}:borrowT e (if p then x else y)=if p then borrowT e x else borrowT e y:=by split<;>rfl
theorem x9f:hideS []=[]:=rfl
theorem x6j:hideS (s::e)=hide1 s::hideS e:=rfl
theorem x9g{b:Option Nat}:hide1 (.own b ws)=.fr (.lst ws):=rfl
theorem y3l:hide1 (.fr w)=.fr w:=rfl
theorem y3m:hide1 .no=.no:=rfl
end
end D
namespace L2
open PySem PySem.Spec PyProof.Rows
structure FlyA(outer:List Env)(H H':Hp)(h h':Heap)(e:Addr)(cls:Value)(B:Heap):Prop where
 stay:B.StaysIn h'
 bare:B.get? e=none
 ff:h'.FunFrames B outer
 tr:∃a0 fl,h'.TracedAtW B e cls a0 fl
 old:∀b o,h.get? b=some o->H b=none->b∉frs outer->B.get? b=some o
 trk:∀b u o,H' b=some u->h'.get? b=some o->B.get? b=some o
 all:∀b o,h.get? b=some o->b∈frs outer\/∃o',B.get? b=some o'
 new:h.get? e=none
end L2
namespace D
open PySem L2
variable{e:List S}
noncomputable def compX(c:Den Bool)(d:Den W)(pe:List S):List W->Option (Value ⊕ List W)
 |[]=>some (.inr [])
 |w::ws=>match c (.fr w::pe)with
  |.ok true e1=>match d e1 with
   |.ok y _=>(compX c d pe ws).map (Sum.map id (y::·))
   |.ex k _=>some (.inl k)
   |.no=>none
  |.ok false _=>compX c d pe ws
  |.ex k _=>some (.inl k)
  |.no=>none
noncomputable def compXR(e:List S):Option (Value ⊕ List W)->R (List W)
 |some (.inr out)=>.ok out e
 |some (.inl k)=>.ex k e
 |none=>.no
noncomputable def compKX(js:List Nat)(c:Den Bool)(d:Den W)(ws:List W)(e1:List S):R (List W):=
 if ws.length<=16777216 then compXR (frzs js e1) (compX c d (pjS js (frzs js e1)) ws)else .no
theorem x9h{js:List Nat}{cc:Den Bool}{d:Den W}{ws:List W}:compKX js cc d ws e=if ws.length<=16777216 then compXR (frzs js e) (compX cc d (pjS js (frzs js e)) ws)else .no:=rfl
theorem x6k{out:List W}:compXR e (some (.inr out))=.ok out e:=rfl
theorem x6l{k:Value}:compXR e (some (.inl k))=.ex k e:=rfl
section
variable{X:Cx}{Z:Zt}{EE:L2.St->XK}{elt iter a b:Expr}{ifs:List Expr}{scope sc:Scope}{pos pt:Pos}{x:Str}{Nf N:List Str}{js:List Nat}{di:Den W}{dA:Den (List W)}{c:Den Bool}{d:Den W}
theorem y7x{ws:List W}{P:List W->List S->Prop}{Ex:Value->List S->Prop}{e1:List S}(h:(compKX js c d ws e1).holds P Ex):ws.length<=16777216/\∃out,compX c d (pjS js (frzs js e1)) ws=some out/\Sum.elim (fun k=>Ex k (frzs js e1)) (fun o=>P o (frzs js e1)) out:=by
 unfold compKX at h;split at h
 ·rename_i hl;cases ho:compX c d (pjS js (frzs js e1)) ws with
  |none=>rw[ho]at h;exact h.elim
  |some out=>rw[ho]at h;exact⟨hl,out,rfl,by cases out<;>exact h⟩
 ·exact h.elim
end
end D
namespace L2
open PySem PySem.Spec PyProof.Rows
variable{A:Around}{prog:Program}{s:Shared}{E:Value->Shared->Prop}{w:World}
def Rise(t:SetTable):Prop:=t.place.toList.Pairwise (·<·)/\t.dummies=#[]
noncomputable def valI:Value->Int
 |.int n _=>n
 |_=>0
structure SetData(prog:Program)(w:World)(es:Array (Int×Value))(t:SetTable)(S:List Int):Prop where
 el:ElemsOf (intKind prog w) es.toList
 sz:es.size<scanBound
 fit:t.fits es.size=true
 rise:Rise t
 led:t.led=!w.params.followText "set-order"
 whole:∀e∈es.toList,∃n k,e.2=Value.int n k
 perm:(es.toList.map fun e=>valI e.2).Perm S
noncomputable def stepD(S:List Int)(k:Int):List Int:=if k∈S then S else S++[k]
theorem fold_len:∀(ns S:List Int),(ns.foldl stepD S).length<=S.length+ns.length
 |[],S=>by simp
 |n::ns,S=>by
  have:=fold_len ns (stepD S n);have h2:(stepD S n).length<=S.length+1:=by unfold stepD;split<;>simp
  simp only[w1s,w0p];omega
namespace SI
theorem own:Manifest.owners.lookup (String.ofList ['r','o','t','a','r','e','t','i','_','t','e','s'].reverse)=some Manifest.sig_set_iterator:=by kernel_rfl
theorem next:Slot "set_iterator" "__next__" "set_iterator.__next__":=.of (owner:="set_iterator") (n:="__next__") (by rw[typeLookup_type,builtinLookup_eq_fast];kernel_rfl) (by decide +kernel) (by decide +kernel) (by decide +kernel) (by first|exact .inl (by decide +kernel)|exact .inr (by decide +kernel)) (by rw[isSubtype_type];kernel_rfl)
theorem iter:Slot "set_iterator" "__iter__" "set_iterator.__iter__":=.of (owner:="set_iterator") (n:="__iter__") (by rw[typeLookup_type,builtinLookup_eq_fast];kernel_rfl) (by decide +kernel) (by decide +kernel) (by decide +kernel) (by first|exact .inl (by decide +kernel)|exact .inr (by decide +kernel)) (by rw[isSubtype_type];kernel_rfl)
end SI
open PySem PySem.Spec PyProof.Rows
end L2
namespace D
open PySem L2
variable{X:Cx}{dA:Den (List W)}{a e:Expr}{EE:L2.St->XK}{p pos:Pos}{Z:Zt}
mutual
noncomputable def toD:W->Option PyData
 |.non=>some .none
 |.bl b=>some (.bool b)
 |.int i=>some (.int i)
 |.str x=>some (.str x)
 |.tup ws=>(toDs ws).map .tuple
 |.lst ws=>(toDs ws).map .list
 |.exc _=>none
 |.dic _=>none
 |.dw _ _ _ _=>none
 |.fn _ _ _=>none
noncomputable def toDs:List W->Option (List PyData)
 |[]=>some []
 |w::ws=>match toD w,toDs ws with
  |some d,some ds=>some (d::ds)
  |_,_=>none
end
section
variable{pins:List (Addr×Obj)}{σ:St}{H G:Hp}{s:Shared}
mutual
theorem q59(I:Inv X pins σ H s)(sg:Same G H):∀(w:W){v:V}{u:Value}{d:PyData},Rep X.K G w v->RelV v u->toD w=some d->∃as,Reads s.heap u d as
 |.non,v,u,d,p,r,h=>by
  cases(show v=.non from p);cases(show u=Value.none from r);cases h;exact⟨_,.none⟩
 |.bl b,v,u,d,p,r,h=>by
  cases(show v=.bl b from p);cases(show u=Value.bool b from r);cases h;exact⟨_,.bool b⟩
 |.int i,v,u,d,p,r,h=>by
  cases(show v=.int i from p);obtain⟨t,rfl⟩:=(show ∃t,u=Value.int i t from r);cases h;exact⟨_,.int i t⟩
 |.str x,v,u,d,p,r,h=>by
  cases(show v=.str x from p);obtain⟨t,rfl⟩:=(show ∃t,u=Value.str x t from r);cases h;exact⟨_,.str x t⟩
 |.tup ws,v,u,d,p,r,h=>by
  obtain⟨a,xs,rfl,hq,rp⟩:=p;cases(show u=Value.ref a from r);obtain⟨ds,h1,rfl⟩:=w0b.mp (show(toDs ws).map PyData.tuple=some d from h);obtain⟨its,rv,⟨o,ho,hc,n,hd⟩,_⟩:=I.tuple (sg.tup hq);obtain⟨as,ra⟩:=q5l I sg ws rp rv h1;exact⟨_,.tuple ho hc hd (by simpa using ra)⟩
 |.lst ws,v,u,d,p,r,h=>by
  obtain⟨a,xs,rfl,hq,rp⟩:=p;cases(show u=Value.ref a from r);obtain⟨ds,h1,rfl⟩:=w0b.mp (show(toDs ws).map PyData.list=some d from h);obtain⟨its,rv,pl,_⟩:=I.list (sg.seq hq);obtain⟨o,ho,hc,n,hd⟩:=pl.isList;obtain⟨as,ra⟩:=q5l I sg ws rp rv h1;exact⟨_,.list ho hc hd (by simpa using ra)⟩
 |.exc c,v,u,d,p,r,h=>by cases h
 |.dic c,v,u,d,p,r,h=>by cases h
 |.dw _ _ _ _,v,u,d,p,r,h=>by cases h
 |.fn _ _ _,v,u,d,p,r,h=>by cases h
theorem q5l(I:Inv X pins σ H s)(sg:Same G H):∀(ws:List W){xs:List V}{its:List Value}{ds:List PyData},Reps X.K G ws xs->Vals xs its->toDs ws=some ds->∃as,ReadsAll s.heap its ds as
 |[],xs,its,ds,p,r,h=>by
  cases(show xs=[]from p);cases r;cases h;exact⟨_,.nil⟩
 |w::ws,xs,its,ds,p,r,h=>by
  obtain⟨x,xr,rfl,p1,p2⟩:=p;cases r with
  |cons r1 r2=>
   unfold toDs at h;split at h
   ·rename_i d0 ds0 h1 h2;cases h;obtain⟨as,q1⟩:=q59 I sg w p1 r1 h1;obtain⟨bs,q2⟩:=q5l I sg ws p2 r2 h2;exact⟨_,.cons q1 q2⟩
   ·cases h
end
end
theorem noDicts:∀(w:W){d:PyData},toD w=some d->d.hasDict=false
 |.non,d,h=>by cases h;rfl
 |.bl b,d,h=>by cases h;rfl
 |.int i,d,h=>by cases h;rfl
 |.str x,d,h=>by cases h;rfl
 |.tup ws,d,h=>by
  obtain⟨ds,h1,rfl⟩:=w0b.mp (show(toDs ws).map PyData.tuple=some d from h);exact go ws h1
 |.lst ws,d,h=>by
  obtain⟨ds,h1,rfl⟩:=w0b.mp (show(toDs ws).map PyData.list=some d from h);exact go ws h1
 |.exc c,d,h=>by cases h
 |.dic c,d,h=>by cases h
 |.dw _ _ _ _,d,h=>by cases h
 |.fn _ _ _,d,h=>by cases h
where
 go:∀(ws:List W){ds:List PyData},toDs ws=some ds->PyData.hasDictAll ds=false
 |[],ds,h=>by cases h;rfl
 |w::ws,ds,h=>by
  unfold toDs at h;split at h
  ·rename_i d0 ds0 h1 h2;cases h;show(PyData.hasDict d0||PyData.hasDictAll ds0)=false;rw[noDicts w h1,go ws h2];rfl
  ·cases h
theorem x35(hu:X.A.units+150<cLine)(hg:X.A.guards=some []):CallR X (.builtin "repr") (fun xs H Q=>∃x w d G,xs=[x]/\Same G H/\Rep X.K G w x/\(∃a,x=.ref a)/\toD w=some d/\d.showable=true/\d.depth<=100/\d.shown.length<=sizeLine/\Q (.str d.shown) H):=by
 intro pins s σ H xs us Q I r h;obtain⟨x,w,d,G,rfl,sg,p,⟨a,rfl⟩,hd,h1,h2,h3,q⟩:=h;obtain⟨u,rfl,rx⟩:=vals1 r;obtain⟨as,rr⟩:=q59 I sg w p rx hd;cases(show u=Value.ref a from rx);refine repr_of_reads' rr h1 (PyData.noDict_hsm (noDicts w hd)) hg (by omega) (fun _ _ e=>e) (fun h' u' tk hk=>?_) h3
 exact⟨.str d.shown,H,I.kept (t':=tk) hk,⟨u',rfl⟩,q⟩
noncomputable def repr1:List W->Option W
 |[.tup ws]=>(toD (.tup ws)).bind fun d=>if d.showable=true/\d.depth<=100/\d.shown.length<=16777216 then some (.str d.shown)else none
 |[.lst ws]=>(toD (.lst ws)).bind fun d=>if d.showable=true/\d.depth<=100/\d.shown.length<=16777216 then some (.str d.shown)else none
 |_=>none
theorem y3n{K:PySem.W.Frag}:OpN K (fun xs H Q=>∃x w d G,xs=[x]/\Same G H/\Rep K G w x/\(∃a,x=.ref a)/\toD w=some d/\d.showable=true/\d.depth<=100/\d.shown.length<=sizeLine/\Q (.str d.shown) H) repr1:=by
 intro G H xs ws w Q s pr hf h;unfold repr1 at hf;split at hf
 ·obtain⟨x,r,rfl,px,pr⟩:=pr;cases(show r=[]from pr);obtain⟨d,hd,hf⟩:=w1v.mp hf;split at hf
  ·rename_i hc;cases hf;exact⟨x,_,d,G,rfl,s,px,(by obtain⟨a,_,e,_⟩:=px;exact⟨a,e⟩),hd,hc.1,hc.2.1,by rw[sizeLine_eq];exact hc.2.2,h G _ H (.refl s) rfl⟩
  ·cases hf
 ·obtain⟨x,r,rfl,px,pr⟩:=pr;cases(show r=[]from pr);obtain⟨d,hd,hf⟩:=w1v.mp hf;split at hf
  ·rename_i hc;cases hf;exact⟨x,_,d,G,rfl,s,px,(by obtain⟨a,_,e,_⟩:=px;exact⟨a,e⟩),hd,hc.1,hc.2.1,by rw[sizeLine_eq];exact hc.2.2,h G _ H (.refl s) rfl⟩
  ·cases hf
 ·cases hf
mutual
noncomputable def plainW:W->Bool
 |.non=>true
 |.bl _=>true
 |.int i=>decide (0<=i/\i<32)
 |.tup ws=>plainWs ws
 |.lst ws=>plainWs ws
 |_=>false
noncomputable def plainWs:List W->Bool
 |[]=>true
 |w::ws=>plainW w&&plainWs ws
end
mutual
noncomputable def wgt:W->Nat
 |.int i=>(PyData.int i).weight
 |.tup ws=>wgts ws
 |.lst ws=>wgts ws
 |_=>0
noncomputable def wgts:List W->Nat
 |[]=>0
 |w::ws=>wgt w+1+wgts ws
end
theorem x6m:∀n:Fin 32,(PyData.int ((n.val:Nat):Int)).weight<=8:=by decide +kernel
theorem q6n{n:Nat}(h:n<32):wgt (.int (n:Int))<=8:=x6m ⟨n,h⟩
theorem q88:∀n:Fin 32,PyData.showable (.int ((n.val:Nat):Int))=true/\PyData.leavesShort 8 (.int ((n.val:Nat):Int))=true:=by decide +kernel
mutual
theorem q7a:∀(w:W),plainW w=true->∃d,toD w=some d/\d.showable=true/\d.leavesShort 8=true/\d.depth=depW w/\d.weight=wgt w
 |.non,_=>⟨.none,rfl,rfl,rfl,rfl,rfl⟩
 |.bl b,_=>⟨.bool b,rfl,rfl,rfl,rfl,rfl⟩
 |.tup ws,h=>by
  obtain⟨ds,h1,h2,h3,h4,h5⟩:=q5m ws h;exact⟨.tuple ds,by show(toDs ws).map _=_;rw[h1];rfl,h2,h3,by show PyData.depthAll ds+1=_;rw[h4];rfl,by show PyData.weightAll ds=_;rw[h5];rfl⟩
 |.lst ws,h=>by
  obtain⟨ds,h1,h2,h3,h4,h5⟩:=q5m ws h;exact⟨.list ds,by show(toDs ws).map _=_;rw[h1];rfl,h2,h3,by show PyData.depthAll ds+1=_;rw[h4];rfl,by show PyData.weightAll ds=_;rw[h5];rfl⟩
 |.int i,h=>by
  have h:decide (0<=i/\i<32)=true:=h;have h:=of_decide_eq_true h;obtain⟨n,rfl⟩:∃n:Fin 32,i=((n.val:Nat):Int):=⟨⟨i.toNat,by omega⟩,by simp;omega⟩;exact⟨.int _,rfl,(q88 n).1,(q88 n).2,rfl,rfl⟩
 |.str i,h=>by cases h
 |.exc i,h=>by cases h
 |.dic i,h=>by cases h
 |.dw _ _ _ _,h=>by cases h
 |.fn _ _ _,h=>by cases h
theorem q5m:∀(ws:List W),plainWs ws=true->∃ds,toDs ws=some ds/\PyData.showableAll ds=true/\PyData.leavesShortAll 8 ds=true/\PyData.depthAll ds=depWs ws/\PyData.weightAll ds=wgts ws
 |[],_=>⟨[],rfl,rfl,rfl,rfl,rfl⟩
 |w::ws,h=>by
  have h:(plainW w&&plainWs ws)=true:=h;rw[w1k]at h;obtain⟨d,d1,d2,d3,d4,d5⟩:=q7a w h.1;obtain⟨ds,h1,h2,h3,h4,h5⟩:=q5m ws h.2;refine⟨d::ds,?_,?_,?_,?_,?_⟩
  ·unfold toDs;rw[d1,h1]
  ·show(PyData.showable d&&PyData.showableAll ds)=true;rw[d2,h2];rfl
  ·show(PyData.leavesShort 8 d&&PyData.leavesShortAll 8 ds)=true;rw[d3,h3];rfl
  ·show max d.depth (PyData.depthAll ds)=_;rw[d4,h4];rfl
  ·show d.weight+1+PyData.weightAll ds=_;rw[d5,h5];rfl
end
theorem q3s:∀bs:List Bool,plainWs (bs.map .bl)=true/\depWs (bs.map .bl)=0/\wgts (bs.map .bl)=bs.length
 |[]=>⟨rfl,rfl,rfl⟩
 |b::bs=>by
  obtain⟨h1,h2,h3⟩:=q3s bs;refine⟨h1,?_,?_⟩
  ·show max 0 (depWs (bs.map .bl))=0;omega
  ·show 0+1+wgts (bs.map .bl)=_;rw[h3,w0p];omega
theorem x2q{l:List Int}{i:Nat}(h:i<l.length):l.getD i 0=l[i]:=by
 unfold List.getD;rw[w0d h];rfl
open PySem L2 PySem.Spec PyProof.Rows
end D
namespace L2
open PySem PySem.Spec PyProof.Rows
section
variable{κ:Type} [DecidableEq κ]
noncomputable def valV(kvs:List (κ×V))(k:κ):Option V:=(kvs.find? fun kv=>decide (kv.1=k)).map (·.2)
noncomputable def putK(kvs:List (κ×V))(k:κ)(v:V):List (κ×V):=
 if(kvs.any fun kv=>decide (kv.1=k))=true then kvs.map (fun kv=>if kv.1=k then(kv.1,v)else kv)else kvs++[(k,v)]
theorem q4d{p:κ×V}{r:List (κ×V)}{k:κ}(e:p.1=k):valV (p::r) k=some p.2:=by simp[valV,w1x,e]
theorem q3o{p:κ×V}{r:List (κ×V)}{k:κ}(e:¬p.1=k):valV (p::r) k=valV r k:=by simp[valV,w1x,e]
theorem q7b(k:κ):∀kvs:List (κ×V),(kvs.any fun kv=>decide (kv.1=k))=(valV kvs k).isSome
 |[]=>rfl
 |p::r=>by
  rw[w3v]
  by_cases e:p.1=k
  ·simp only[q4d e,decide_eq_true e,Bool.true_or,w3w]
  ·rw[q3o e,decide_eq_false e,Bool.false_or];exact q7b k r
theorem q6v(kvs:List (κ×V))(k:κ)(v:V):(putK kvs k v).length<=kvs.length+1:=by
 unfold putK;split
 ·rw[w0c];omega
 ·rw[w1b,w0p,w3l];omega
theorem x0q{kvs:List (κ×V)}{k:κ}(v:V)(h:valV kvs k=none):putK kvs k v=kvs++[(k,v)]:=by
 unfold putK;rw[q7b,h];exact if_neg (by decide)
theorem RelO.isSome_eq{o:Option V}{u:Option Value}(r:RelO o u):o.isSome=u.isSome:=by
 cases o with
 |none=>cases u with
  |none=>rfl
  |some _=>exact(show False from r).elim
 |some _=>cases u with
  |none=>exact(show False from r).elim
  |some _=>rfl
theorem KV.val{kvs:List (κ×V)}{vs:List (κ×Value)}(r:KV kvs vs)(k:κ):RelO (valV kvs k) (valueAt vs k):=by
 unfold KV at r
 induction r with
 |nil=>exact True.intro
 | @cons p q ps qs h t ih=>
  obtain⟨h1,h2⟩:=h
  by_cases e:p.1=k
  ·have e':q.1=k:=h1.symm.trans e;have b:valueAt (q::qs) k=some q.2:=by simp[valueAt,w1x,e']
   rw[q4d e,b];exact h2
  ·have e':¬q.1=k:=fun z=>e (h1.trans z)
   have b:valueAt (q::qs) k=valueAt qs k:=by simp[valueAt,w1x,e']
   rw[q3o e,b];exact ih
theorem KV.any{kvs:List (κ×V)}{vs:List (κ×Value)}(r:KV kvs vs)(k:κ):(kvs.any fun kv=>decide (kv.1=k))=vs.any fun kv=>decide (kv.1=k):=by
 unfold KV at r
 induction r with
 |nil=>rfl
 |cons h t ih=>rw[w3v,w3v,ih,h.1]
theorem KV.repl{kvs:List (κ×V)}{vs:List (κ×Value)}(r:KV kvs vs)(k:κ){y:V}{u:Value}(ry:RelV y u):
  KV (kvs.map fun kv=>if kv.1=k then(kv.1,y)else kv) (vs.map fun kv=>if kv.1=k then(kv.1,u)else kv):=by
 unfold KV at r |-
 induction r with
 |nil=>exact .nil
 | @cons p q ps qs h t ih=>
  rw[w0v,w0v];refine .cons ?_ ih;obtain⟨h1,h2⟩:=h
  by_cases e:p.1=k
  ·rw[if_pos e,if_pos (h1.symm.trans e)];exact⟨h1,ry⟩
  ·rw[if_neg e,if_neg (fun z=>e (h1.trans z))];exact⟨h1,h2⟩
theorem KV.put{kvs:List (κ×V)}{vs:List (κ×Value)}(r:KV kvs vs)(k:κ){y:V}{u:Value}(ry:RelV y u):KV (putK kvs k y) (stored vs k u):=by
 unfold putK stored;rw[r.any k]
 by_cases e:(vs.any fun kv=>decide (kv.1=k))=true
 ·rw[if_pos e,if_pos e];exact r.repl k ry
 ·rw[if_neg e,if_neg e];exact Paired.snoc r ⟨rfl,ry⟩
theorem KV.keys{kvs:List (κ×V)}{vs:List (κ×Value)}(r:KV kvs vs):kvs.map (·.1)=vs.map (·.1):=by
 unfold KV at r
 induction r with
 |nil=>rfl
 |cons h t ih=>rw[w0v,w0v,ih,h.1]
theorem KV.length{kvs:List (κ×V)}{vs:List (κ×Value)}(r:KV kvs vs):kvs.length=vs.length:=Paired.length r
end
variable{a b:Addr}{A:Around}{X:Cx}{H H':Hp}{k:Key}{pins:List (Addr×Obj)}{xs:List (Kx×Addr×Value)}{kvs:List (Kx×V)}{kas:List Addr}{pos:Pos}{P:Program}{sh:Sh}{s:Shared}{σ:St}{y:V}{u:Value}{E:Value->Shared->Prop}{w:World}
theorem q9v(r:RelV (kV k) u):(mixKind P w).is k u=true:=by
 cases k with
 |inl i=>obtain⟨t,e⟩:=(show ∃t,u=Value.int i t from r);subst e;exact x1o P w i t
 |inr x=>obtain⟨t,e⟩:=(show ∃t,u=Value.str x t from r);subst e;exact x1p P w x t
abbrev KT(sh:Sh)(H:Hp):List (Kx×V)->List (Kx×Addr×Value)->Prop:=Paired fun p q=>p.1=q.1/\(KRep H p.1 (.ref q.2.1)/\Conf p.1 sh/\p.1.depth<=7)/\RelV p.2 q.2.2
theorem KT.val(r:KT sh H kvs xs)(k:Kx):RelO (valV kvs k) ((atKey xs k).map (·.2)):=by
 induction r with
 |nil=>exact True.intro
 | @cons p q ps qs h t ih=>
  obtain⟨h1,_,h2⟩:=h
  by_cases e:p.1=k
  ·have e':q.1=k:=h1.symm.trans e;have b:atKey (q::qs) k=some q.2:=by simp[atKey,w1x,e']
   rw[q4d e,b];exact h2
  ·have e':¬q.1=k:=fun z=>e (h1.trans z)
   have b:atKey (q::qs) k=atKey qs k:=by simp[atKey,w1x,e']
   rw[q3o e,b];exact ih
theorem KT.repl(r:KT sh H kvs xs)(k:Kx)(ry:RelV y u):
  KT sh H (kvs.map fun kv=>if kv.1=k then(kv.1,y)else kv) (xs.map (putAt k u)):=by
 induction r with
 |nil=>exact .nil
 | @cons p q ps qs h t ih=>
  rw[w0v,w0v];refine .cons ?_ ih;obtain⟨h1,h2,h3⟩:=h;unfold putAt
  by_cases e:p.1=k
  ·rw[if_pos e,if_pos (h1.symm.trans e)];exact⟨h1,h2,ry⟩
  ·rw[if_neg e,if_neg (fun z=>e (h1.trans z))];exact⟨h1,h2,h3⟩
theorem KT.put(r:KT sh H kvs xs)(k:Kx)(hb:KRep H k (.ref b)/\Conf k sh/\k.depth<=7)(ry:RelV y u):
  KT sh H (putK kvs k y) (storedH xs k b u):=by
 have e:(kvs.any fun kv=>decide (kv.1=k))=(atKey xs k).isSome:=by
  rw[q7b,(r.val k).isSome_eq,w2n]
 unfold putK storedH;rw[e]
 by_cases q:(atKey xs k).isSome=true
 ·rw[if_pos q,if_pos q];exact r.repl k ry
 ·rw[if_neg q,if_neg q];exact Paired.snoc r ⟨rfl,hb,ry⟩
noncomputable def putAd(kvs:List (Kx×V))(kas:List Addr)(k:Kx)(b:Addr):List Addr:=if(valV kvs k).isSome=true then kas else kas++[b]
theorem KT.putAd(r:KT sh H kvs xs)(ka:xs.map (·.2.1)=kas)(k:Kx):(storedH xs k b u).map (·.2.1)=L2.putAd kvs kas k b:=by
 unfold storedH L2.putAd;rw[(r.val k).isSome_eq,w2n]
 by_cases q:(atKey xs k).isSome=true
 ·rw[if_pos q,if_pos q,w1u,<- ka];refine w3s fun x _=>?_
  show(putAt k u x).2.1=x.2.1;unfold putAt;split<;>rfl
 ·rw[if_neg q,if_neg q,w0t,ka];rfl
theorem KT.keeps(r:KT sh H kvs xs)(ht:∀b u,TupLike u->H b=some u->H' b=some u):KT sh H' kvs xs:=
 Paired.mapP r fun _ _ z=>⟨z.1,⟨KRep.keeps ht _ z.2.1.1,z.2.1.2⟩,z.2.2⟩
section
variable{h:Heap}
theorem q9w{u:HO}(ok:HOk P w H h)(e:Rd H a u):ObjOk P w H h a u:=e.ok ok
theorem q5n{kvs:List (Key×V)}(ok:HOk P w H h)(e:Rd H a (.dK kvs)):kvs.length<=sizeLine/\(a==sysModules)=false/\∃vs,KV kvs vs/\h.DictOf (mixKind P w) a vs:=
 show ObjOk P w H h a (.dK kvs)from q9w ok e
theorem y1b{kvs:List (Key×V)}(ok:HOk P w H h)(e:H a=some (.dK kvs)):kvs.length<=sizeLine/\(a==sysModules)=false/\∃vs,KV kvs vs/\h.DictOf (mixKind P w) a vs:=q5n ok (.inl e)
theorem IsTup.seq{h:Heap}{its:List Value}(p:IsTup h a its.toArray):∃o n,h.get? a=some o/\o.cls=.type "tuple" /\ o.data=.seq its.toArray n:=by
 obtain⟨o,h1,h2,n,h3⟩:=p;exact⟨o,n,h1,h2,h3⟩
mutual
theorem KRep.is(ok:HOk P w H h):∀(k:Kx){x:V}{v:Value},KRep H k x->RelV x v->KIs h k v
 |.non,x,v,e,r=>by cases(show x=.non from e);exact r
 |.bl b,x,v,e,r=>by cases(show x=.bl b from e);exact r
 |.int b,x,v,e,r=>by cases(show x=.int b from e);exact r
 |.str b,x,v,e,r=>by cases(show x=.str b from e);exact r
 |.tup ks,x,v,e,r=>by
  obtain⟨a,xs,rfl,q,rs⟩:=e;cases(show v=Value.ref a from r);obtain⟨_,its,rv,p,_⟩:=(show ObjOk P w H h a (.tup xs)from Rd.ok q ok);obtain⟨o,n,h1,h2,h3⟩:=IsTup.seq p;exact⟨a,o,its.toArray,n,rfl,h1,h2,h3,by simpa using KReps.are ok ks rs rv⟩
theorem KReps.are(ok:HOk P w H h):∀(ks:List Kx){xs:List V}{vs:List Value},KReps H ks xs->Vals xs vs->KAre h ks vs
 |[],xs,vs,e,r=>by
  cases(show xs=[]from e);cases r;rfl
 |k::ks,xs,vs,e,r=>by
  obtain⟨x,r0,rfl,h1,h2⟩:=e;cases r with
  |cons q t=>exact⟨_,_,rfl,KRep.is ok k h1 q,KReps.are ok ks h2 t⟩
end
theorem q6a{k:Kx}(ok:HOk P w H h)(e:KRep H k (.ref a)/\Conf k sh/\k.depth<=7):(treeKind P w sh).is h k a:=⟨KRep.is ok k e.1 rfl,e.2⟩
theorem q6o(ok:HOk P w H h)(e:Rd H a (.dT sh kvs kas)):kvs.length<=sizeLine/\(a==sysModules)=false /\
  ∃xs,KT sh H kvs xs/\xs.map (·.2.1)=kas/\h.DictOfH (treeKind P w sh) a xs:=by
 obtain⟨z,y,xs,r,ka,o,es,ep,h1,h2,h3,h4,h5⟩:=(show ObjOk P w H h a (.dT sh kvs kas)from q9w ok e);refine⟨z,y,xs,r,ka,o,es,ep,h1,h2,h3,h4,fun x hx=>?_,h5⟩
 have all:∀{l:List (Kx×V)}{m:List (Kx×Addr×Value)},KT sh H l m->∀x∈m,(treeKind P w sh).is h x.1 x.2.1:=by
  intro l m q
  induction q with
  |nil=>intro x hx;exact nomatch hx
  | @cons p q ps qs hq t ih=>
   intro x hx;rcases w0j.mp hx with e|hx
   ·subst e;exact q6a ok (by rw[<- hq.1];exact hq.2.1)
   ·exact ih x hx
 exact all r x hx
theorem y95(ok:HOk P w H h)(e:H a=some (.dT sh kvs kas)):kvs.length<=sizeLine/\(a==sysModules)=false /\
  ∃xs,KT sh H kvs xs/\xs.map (·.2.1)=kas/\h.DictOfH (treeKind P w sh) a xs:=q6o ok (.inl e)
end
def DGet(H:Hp)(a:Addr)(y:V)(r:Option V):Prop:=
 (∃kvs k,Rd H a (.dK kvs)/\y=kV k/\r=valV kvs k)\/∃sh kvs kas k b,Rd H a (.dT sh kvs kas)/\y=.ref b/\(KRep H k (.ref b)/\Conf k sh/\k.depth<=7)/\r=valV kvs k
def DPut(H:Hp)(a:Addr)(y v:V)(H':Hp):Prop:=
 (∃kvs k,H a=some (.dK kvs)/\y=kV k/\kvs.length<sizeLine/\H'=upd H a (.dK (putK kvs k v))) \/
 ∃sh kvs kas k b,H a=some (.dT sh kvs kas)/\y=.ref b/\(KRep H k (.ref b)/\Conf k sh/\k.depth<=7)/\kvs.length<sizeLine/\H'=upd H a (.dT sh (putK kvs k v) (putAd kvs kas k b))
theorem DGet.t{k:Kx}(e:Rd H a (.dT sh kvs kas))(eb:KRep H k (.ref b)/\Conf k sh/\k.depth<=7):DGet H a (.ref b) (valV kvs k):=.inr ⟨sh,kvs,kas,k,b,e,rfl,eb,rfl⟩
theorem DPut.t{k:Kx}{v:V}(e:H a=some (.dT sh kvs kas))(eb:KRep H k (.ref b)/\Conf k sh/\k.depth<=7)(hl:kvs.length<sizeLine):
  DPut H a (.ref b) v (upd H a (.dT sh (putK kvs k v) (putAd kvs kas k b))):=.inr ⟨sh,kvs,kas,k,b,e,rfl,eb,hl,rfl⟩
section
variable{v:V}{r:Value}{o:Option V}
theorem Inv.big(I:Inv X pins σ H s):sysModules<s.heap.objs.size:=by
 have h:mainGlobals<s.heap.objs.size:=(I.mod.glob.keeps I.bk).lt;exact Nat.lt_trans (by decide) h
theorem q5o(hu:A.units+20<cLine):(treeKind P w sh).room A.in1:=by
 show A.in1.units+8<cLine;rw[Around.in1_units];omega
theorem x6n{Q:Value->Shared->Prop}(hu:A.units+20<cLine)(I:Inv X pins σ H s)(g:DGet H a y (some v))(ry:RelV y u)(h:∀w' s',Inv X pins σ H s'->RelV v w'->Q w' s'):
  wpAny (model X.prog X.w) A (getItem (.ref a) u) Q E s:=by
 rcases g with⟨kvs,k,e,ey,l⟩|⟨sh,kvs,kas,k,b,e,ey,eb,l⟩
 ·subst ey;obtain⟨z,hd,vs,rel,dd⟩:=q5n I.hok e;obtain⟨w',hw,rw'⟩:=RelO.some_of (v:=v) (o:=valueAt vs k) (by rw[l];exact rel.val k);exact wpAny_getItem_of (q9v ry) dd.mapOf hw (h w' _ (I.tok _) rw')
 ·subst ey;cases(show u=Value.ref b from ry);obtain⟨z,hd,xs,rel,_,dd⟩:=q6o I.hok e;obtain⟨w',hw,rw'⟩:=RelO.some_of (v:=v) (o:=(atKey xs k).map (·.2)) (by rw[l];exact rel.val k);obtain⟨p,hp,hp2⟩:=w0b.mp hw;refine wpAny_getItem_heap (q5o hu) (q6a I.hok eb) dd hp ?_;rw[hp2];exact h w' _ (I.tok _) rw'
theorem d_in{Q:Value->Shared->Prop}(hu:A.units+20<cLine)(I:Inv X pins σ H s)(g:DGet H a y o)(ry:RelV y u)(h:∀s',Inv X pins σ H s'->Q (.bool o.isSome) s'):
  wpAny (model X.prog X.w) A (compareOp .In u (.ref a)) Q E s:=by
 rcases g with⟨kvs,k,e,ey,l⟩|⟨sh,kvs,kas,k,b,e,ey,eb,l⟩
 ·subst ey;obtain⟨z,hd,vs,rel,dd⟩:=q5n I.hok e;refine wpAny_in_of (q9v ry) hd dd.mapOf ?_;rw[<- (rel.val k).isSome_eq,<- l];exact h _ (I.tok _)
 ·subst ey;cases(show u=Value.ref b from ry);obtain⟨z,hd,xs,rel,_,dd⟩:=q6o I.hok e;refine wpAny_in_heap (q5o hu) (q6a I.hok eb) hd dd ?_;have q:=(rel.val k).isSome_eq;rw[w2n]at q;rw[<- q,<- l];exact h _ (I.tok _)
theorem y3o{Q:Value->Shared->Prop}(hu:A.units+20<cLine)(I:Inv X pins σ H s)(g:DGet H a y o)(ry:RelV y u)(h:∀s',Inv X pins σ H s'->Q (.bool (!o.isSome)) s'):
  wpAny (model X.prog X.w) A (compareOp .NotIn u (.ref a)) Q E s:=by
 rcases g with⟨kvs,k,e,ey,l⟩|⟨sh,kvs,kas,k,b,e,ey,eb,l⟩
 ·subst ey;obtain⟨z,hd,vs,rel,dd⟩:=q5n I.hok e;refine wpAny_notIn_of (q9v ry) hd dd.mapOf ?_;rw[<- (rel.val k).isSome_eq,<- l];exact h _ (I.tok _)
 ·subst ey;cases(show u=Value.ref b from ry);obtain⟨z,hd,xs,rel,_,dd⟩:=q6o I.hok e;refine wpAny_notIn_heap (q5o hu) (q6a I.hok eb) hd dd ?_;have q:=(rel.val k).isSome_eq;rw[w2n]at q;rw[<- q,<- l];exact h _ (I.tok _)
theorem x2r{h':Heap}{t':Nat}{ob:HO}(I:Inv X pins σ H s)(mu:Mut (H a))(hs:Heap.SameBut a s.heap h')(he:∃q,h'.get? a=some q)(new:ObjOk X.prog X.w (upd H a ob) h' a ob):
  Inv X pins σ (upd H a ob) {s with heap:=h',toks:=t'}:=
 I.write (x:=a) (e:=a) mu (.inl rfl) (fun b q hb z=>(hs.2 b hb).trans z) he new
theorem y7y{h':Heap}{kvs:List (Key×V)}{vs:List (Key×Value)}(z:kvs.length<=sizeLine)(hd:(a==sysModules)=false)(rel:KV kvs vs)(dd:h'.DictOf (mixKind P w) a vs):
  ObjOk P w H' h' a (.dK kvs):=⟨z,hd,vs,rel,dd⟩
theorem x6o{Q:Unit->Shared->Prop}(hu:A.units+20<cLine)(I:Inv X pins σ H s)(g:DPut H a y v H')(ry:RelV y u)(rv:RelV v r)(h:∀s',Inv X pins σ H' s'->Q () s'):
  wpAny (model X.prog X.w) A (setItem (.ref a) u r) Q E s:=by
 rcases g with⟨kvs,k,e,ey,l,eH⟩|⟨sh,kvs,kas,k,b,e,ey,eb,l,eH⟩
 ·subst ey eH;obtain⟨z,hd,vs,rel,dd⟩:=y1b I.hok e;have hz:vs.length<=sizeLine:=by rw[<- rel.length];exact z
  have hl:(putK kvs k v).length<=sizeLine:=by have:=q6v kvs k v;omega
  refine wpAny_setItem_pairs (hsz:=hz) (q9v ry) dd fun h' dd' hs=>h _ ?_
  have he:∃q,h'.get? a=some q:=let ⟨q,_,_,hq,_⟩:=dd';⟨q,hq⟩;exact x2r I (by rw[e];exact True.intro) hs he (y7y hl hd (rel.put k rv) dd')
 ·subst ey eH;cases(show u=Value.ref b from ry);obtain⟨z,hd,xs,rel,ka,dd⟩:=y95 I.hok e;have hz:xs.length<=sizeLine:=by rw[<- Paired.length rel];exact z
  have hl:(putK kvs k v).length<=sizeLine:=by have:=q6v kvs k v;omega
  refine wpAny_setItem_heap (hsz:=hz) (q5o hu) (q6a I.hok eb) dd fun h' dd' hs=>h _ ?_
  obtain⟨q,es,ep,hq,h2,h3,h4,_,h5⟩:=dd';refine x2r I (by rw[e];exact True.intro) hs ⟨q,hq⟩ ⟨hl,hd,_,(rel.put k eb rv).keeps fun c u ys ec=>?_,rel.putAd ka k,q,es,ep,hq,h2,h3,h4,h5⟩
  rw[q0b (q0q ec e (fun z=>by subst z;exact ys))]
  exact ec
end
section
variable{kvs:List (Key×V)}
theorem y96{Q:Value->Shared->Prop}(I:Inv X pins σ H s)(e:Rd H a (.dK kvs))(h:∀t s',Inv X pins σ H s'->Q (.int kvs.length t) s'):wpAny (model X.prog X.w) A (call (.builtin "len") [.ref a]) Q E s:=by
 obtain⟨z,hd,vs,rel,dd⟩:=q5n I.hok e;refine call_len_dict hd dd (by rw[<- rel.length];rw[sizeLine_eq]at z;omega) ?_;rw[<- rel.length];exact h _ _ (I.tok _)
end
def NoSl(i:Expr):Prop:=∀ov iv,subscripted i false ov iv=operate [ov,iv] (getItem ov iv)
theorem y3p{prog:Program}{env:Env}{value slice:Expr}{T id:String}{Q:Value->Shared->Prop}
  (hl:typeLookup (.type T) "__getitem__"=pure (some (.builtin id)))(hs:NoSl slice)
  (h:wpAny (model prog w) A (eval value env) (fun o s₁=>wpAny (model prog w) A (eval slice env) (fun i s₂=>s₂.TypeIs o T/\wpAny (model prog w) A (getItem o i) Q E s₂) E s₁) E s):
  wpAny (model prog w) A (eval (.Subscript value slice pos) env) Q E s:=by
 refine Subscript_ (wpAny_mono h (fun o s₁ h₁=>wpAny_mono h₁ (fun i s₂ h₂=>?_) fun _ _ x=>x) fun _ _ x=>x)
 obtain⟨hT,h₂⟩:=h₂;unfold subscriptTail;refine wpAny_bind ?_;rw[getitemInPython_of_ne hT.not_modules];refine wpAny_bind (wpAny_specialOf hT hl ?_)
 have fin:wpAny (model prog w) A (subscripted slice false o i) (fun r s₃=>wpAny (model prog w) A (letTemporaryGo value o r >>= fun _=>pure r) Q E s₃) E s₂:=by
  rw[hs o i];exact wpAny_operating (wpAny_mono h₂ (fun r s₃ h₃=>wpAny_bind (wpAny_letTemporaryGo (wpAny_pure h₃))) fun _ _ x=>x)
 first
  |exact wpAny_pure (wpAny_bind fin)
  |exact wpAny_bind (wpAny_pure (wpAny_bind fin))
  |exact wpAny_bind fin
theorem x1t{o:Option V}(I:Inv X pins σ H s)(g:DGet H a y o):s.TypeIs (.ref a) "dict":=by
 rcases g with⟨kvs,k,e,_,_⟩|⟨sh,kvs,kas,k,b,e,_,_,_⟩
 ·obtain⟨_,_,vs,_,dd⟩:=q5n I.hok e;exact dd.typeIs
 ·obtain⟨_,_,xs,_,_,dd⟩:=q6o I.hok e;exact dd.typeIs
def tDGet(td ty:TE):TE:=fun σ H Q=>td σ H fun x H1=>ty σ H1 fun y H2=>∃a v,x=.ref a/\DGet H2 a y (some v)/\Q v H2
def tDIn(ty td:TE):TE:=fun σ H Q=>ty σ H fun y H1=>td σ H1 fun x H2=>∃a o,x=.ref a/\DGet H2 a y o/\Q (.bl o.isSome) H2
def tDNotIn(ty td:TE):TE:=fun σ H Q=>ty σ H fun y H1=>td σ H1 fun x H2=>∃a o,x=.ref a/\DGet H2 a y o/\Q (.bl (!o.isSome)) H2
def sDPut(td ty tv:TE):TS:=fun D σ H=>tv σ H fun v H1=>td σ H1 fun x H2=>ty σ H2 fun y H3=>∃a H4,x=.ref a/\DPut H3 a y v H4/\D.nx σ H4
section
variable{o i e value:Expr}{pos' tpos:Pos}{td ty tv:TE}
theorem x2s(hu:X.A.units+20<cLine)(ho:PE X o td)(hi:PE X i ty)(hs:NoSl i):PE X (.Subscript o i pos) (tDGet td ty):=by
 intro pins s σ H Q I h;refine y3p PySem.F.slot_dict_getitem.lookup hs (thn (ho pins s σ H _ I h) fun u s1 ⟨x,H1,I1,rx,q1⟩=>thn (hi pins s1 σ H1 _ I1 q1) fun iv s2 ⟨y,H2,I2,ry,a,v,ex,g,q2⟩=>?_)
 subst ex;obtain rfl:u=Value.ref a:=rx;exact⟨x1t I2 g,x6n hu I2 g ry fun w' s3 I3 rw'=>⟨v,H2,I3,rw',q2⟩⟩
theorem y7z(hu:X.A.units+20<cLine)(hi:PE X i ty)(ho:PE X o td):PC X .In i o (tDIn ty td):=by
 intro pins s σ H Q I h;refine thn (hi pins s σ H _ I h) fun iv s1 ⟨y,H1,I1,ry,q1⟩=>thn (ho pins s1 σ H1 _ I1 q1) fun u s2 ⟨x,H2,I2,rx,a,ov,ex,g,q2⟩=>?_
 subst ex;obtain rfl:u=Value.ref a:=rx;exact d_in hu I2 g ry fun s3 I3=>⟨.bl ov.isSome,H2,I3,rfl,q2⟩
theorem x6p(hu:X.A.units+20<cLine)(hi:PE X i ty)(ho:PE X o td):PC X .NotIn i o (tDNotIn ty td):=by
 intro pins s σ H Q I h;refine thn (hi pins s σ H _ I h) fun iv s1 ⟨y,H1,I1,ry,q1⟩=>thn (ho pins s1 σ H1 _ I1 q1) fun u s2 ⟨x,H2,I2,rx,a,ov,ex,g,q2⟩=>?_
 subst ex;obtain rfl:u=Value.ref a:=rx;exact y3o hu I2 g ry fun s3 I3=>⟨.bl (!ov.isSome),H2,I3,rfl,q2⟩
theorem x2t(hu:X.A.units+20<cLine)(ho:PE X o td)(hi:PE X i ty)(hv:PE X value tv)(hs:swapsWith value (some (.Subscript o i pos')) pos.line X.env=pure false):
  PS X (.Assign [.Subscript o i pos'] value pos) (sDPut td ty tv):=by
 intro pins s σ H D I h;refine wpAny_Assign_Subscript (thn (hv pins s σ H _ I h) fun r s1 ⟨v,H1,I1,rv,q1⟩=>thn (ho pins s1 σ H1 _ I1 q1) fun u s2 ⟨x,H2,I2,rx,q2⟩=>thn (hi pins s2 σ H2 _ I2 q2) fun iv s3 ⟨y,H3,I3,ry,a,H4,ex,g,q3⟩=>?_) hs
 subst ex;obtain rfl:u=Value.ref a:=rx;exact x6o hu I3 g ry rv fun s4 I4=>⟨σ,H4,I4,q3⟩
end
theorem x9i(h:Heap)(hb:sysModules<h.objs.size):ObjOk P w H (h.push {cls:=.type "dict", data:=.dict #[]}) h.objs.size (.dT sh [] []):=
 ⟨w0w _,beq_eq_false_iff_ne.mpr (Ne.symm (w0q hb)),[],.nil,rfl,_,#[],0,Heap.get?_push_size _ rfl,⟨rfl,rfl,rfl⟩,rfl,rfl,List.nodup_nil⟩
def tDNewT(sh:Sh):TE:=fun _ H Q=>∀p,H p=none->Q (.ref p) (upd H p (.dT sh [] []))
theorem x9j{sh:Sh}:PE X (.Dict [] [] pos) (tDNewT sh):=fun pins s σ H Q I h=>
 wpAny_Dict_empty ⟨.ref s.heap.objs.size,_,I.laid (a:=s.heap.objs.size) (o:=.dT sh [] []) (t':=s.toks) (fun _ _ q=>Heap.get?_push_of_some _ q) (w0i _) (x9i s.heap I.big),rfl,h _ (I.hok.fresh (w0i _))⟩
section
variable{o:Obj}{kvs:List (Key×V)}
theorem Inv.swapAt{u u':HO}(I:Inv X pins σ H s)(e:H a=some u)(ht:¬TupLike u)(hb:∀ps,u≠.tbl ps)(hf:∀o v,X.H₀ a≠some (.frz o v))(hw:∀x,u≠.own x)(ok:HOk X.prog X.w H s.heap->ObjOk X.prog X.w (upd H a u') s.heap a u'):Inv X pins σ (upd H a u') s:=by
 have up:∀b,H b=none->upd H a u' b=none:=fun b n=>by
  rw[q0b (fun z=>by subst z;rw[e]at n;cases n)];exact n
 refine⟨I.ok,I.os,I.bare,⟨I.base.keep,I.base.slot,fun b ob q n hx=>up b (I.base.free b ob q n hx),I.base.there,fun b xs q=>?_,fun b ob v q=>?_,fun b ps q=>?_⟩,I.loc,I.cell,up _ I.free,fun x c q=>up c (I.freeC x c q),fun p hp=>?_,fun b v q=>?_,I.len⟩
 ·have z:=I.base.tups b xs q
  by_cases hb':b=a
  ·subst hb';rw[e]at z;exact absurd (show TupLike u by rw[Option.some.inj z];exact True.intro) ht
  ·rw[q0b hb'];exact z
 ·by_cases hb':b=a
  ·subst hb';exact absurd q (hf ob v)
  ·rw[q0b hb'];exact I.base.frzs b ob v q
 ·obtain⟨more,z⟩:=I.base.tbls b ps q
  by_cases hb':b=a
  ·subst hb';rw[e]at z;exact absurd (Option.some.inj z) (hb _)
  ·exact⟨more,by rw[q0b hb'];exact z⟩
 ·obtain⟨q1,q2,q3⟩:=I.pin p hp;exact⟨q1,up _ q2,q3⟩
 ·by_cases hb':b=a
  ·subst hb';rw[q0g]at q;cases q;exact ok I.hok
  ·rw[q0b hb']at q;refine(I.hok b v q).stay (fun _ _ _ z=>z) (fun c z=>?_) fun c xs tl z=>?_
   ·rw[q0b (fun y=>by subst y;rw[e]at z;exact hw _ (Option.some.inj z))];exact z
   ·rw[q0b (fun y=>by subst y;rw[e]at z;exact ht ((Option.some.inj z) ▸ tl))];exact z
theorem Inv.freeze(I:Inv X pins σ H s)(e:H a=some (.dK kvs))(q:s.heap.get? a=some o):Inv X pins σ (upd H a (.frz o (.dK kvs))) s:=
 I.swapAt e (fun z=>z) (fun _ z=>nomatch z) (fun ob v z=>by have:=I.base.frzs a ob v z;rw[e]at this;cases this) (fun _ z=>nomatch z) fun ok=>⟨q,(ok a _ e).stay (fun _ _ _ z=>z) (fun c z=>by rw[q0b (q0q z e (fun y=>nomatch y))];exact z) fun c xs tl z=>by rw[q0b (q0q z e (fun y=>by subst y;exact tl))];exact z⟩
end
theorem y97(h:(mixKind P w).is k u=true):RelV (kV k) u:=by
 rcases q1f h with⟨i,t,rfl,rfl⟩|⟨x,t,rfl,rfl⟩
 ·exact⟨t,rfl⟩
 ·exact⟨t,rfl⟩
section
variable{o:Obj}{xs:List V}
theorem Inv.freezeL(I:Inv X pins σ H s)(e:H a=some (.lst xs))(q:s.heap.get? a=some o):Inv X pins σ (upd H a (.frz o (.lst xs))) s:=
 I.swapAt e (fun z=>z) (fun _ z=>nomatch z) (fun ob v z=>by have:=I.base.frzs a ob v z;rw[e]at this;cases this) (fun _ z=>nomatch z) fun ok=>⟨q,(ok a _ e).stay (fun _ _ _ z=>z) (fun c z=>by rw[q0b (q0q z e (fun y=>nomatch y))];exact z) fun c xs tl z=>by rw[q0b (q0q z e (fun y=>by subst y;exact tl))];exact z⟩
theorem Inv.meltL(I:Inv X pins σ H s)(e:H a=some (.frz o (.lst xs)))(hf:∀o v,X.H₀ a≠some (.frz o v)):Inv X pins σ (upd H a (.lst xs)) s:=
 I.swapAt e (fun z=>z) (fun _ z=>nomatch z) hf (fun _ z=>nomatch z) fun ok=>(ok a _ e).2.stay (fun _ _ _ z=>z) (fun c z=>by rw[q0b (q0q z e (fun y=>nomatch y))];exact z) fun c xs tl z=>by rw[q0b (q0q z e (fun y=>by subst y;exact tl))];exact z
end
theorem y3q{l:Expr}{tl:TE}(hl:PE X l tl):PE X l (fun σ H Q=>tl σ H fun v H1=>∃a xs,v=.ref a/\H1 a=some (.lst xs)/\∀o,Q v (upd H1 a (.frz o (.lst xs)))):=by
 intro pins s σ H Q I h;refine thn (hl pins s σ H _ I h) fun v s1 ⟨x,H1,I1,r1,q1⟩=>?_
 obtain⟨a,xs,rfl,e,q⟩:=q1;obtain⟨its,_,⟨o,n,g,_⟩,_⟩:=I1.list (SqL.of e);exact⟨.ref a,_,I1.freezeL e g,r1,q o⟩
theorem x9k{l:Expr}{tl:TE}(hl:PE X l tl):PE X l (fun σ H Q=>tl σ H fun v H1=>∃a o xs,v=.ref a/\H1 a=some (.frz o (.lst xs))/\(∀o v,X.H₀ a≠some (.frz o v))/\Q v (upd H1 a (.lst xs))):=by
 intro pins s σ H Q I h;refine thn (hl pins s σ H _ I h) fun v s1 ⟨x,H1,I1,r1,q1⟩=>?_
 obtain⟨a,o,xs,rfl,e,hf,q⟩:=q1;exact⟨.ref a,_,I1.meltL e hf,r1,q⟩
end L2
namespace D
open PySem L2 PySem.Spec PyProof.Rows
open PyProof.Rows (envOfC)
section
variable{P:Program}{w:World}{K:PySem.W.Frag}{mg:Str->Option Value}{base:Heap}
theorem conZ{x:Str}{st:Stmt}{N ps:List Str}{k:Nat}{F:List W->FR}(A:At K mg x st ps)(sc:FnScope N ps (defScope st))(len:∀ws,F ws≠.no->ws.length=ps.length)
  (hb:∀ws,F ws≠.no->∀(f:Addr)(cdv:Value)(A:Around)(outer:List Env)(s:Shared)(H:Hp)(E:XK)(Z:Zt),Room k (A.deeper (envOfC x (defScope st) s.heap.objs.size f cdv))->(Z.H=H/\Z.io=[]) ->
   ∃d,DSs Z (cxOf (CX1 P w) P w K mg base N x (defScope st) f cdv A outer s H E) (fun _=>E) (defBody st) d/\(d (init N.length ws)).fn=F ws):Cal P w K mg base (k+1) x ps (spF K F):=by
 refine A.cal sc (fun vs H Q E h=>?_) (fun f cdv A outer s H vs Q E hr h=>?_)
 ·obtain⟨G,ws,hn,r⟩:=q7p h;rw[r.length];exact len ws hn
 ·obtain⟨G,ws,sg,rp,h⟩:=h;have hn:F ws≠.no:=fun z=>by rw[z]at h;exact h
  obtain⟨d,hd,he⟩:=hb ws hn f cdv A outer s H E ⟨H,G,[]⟩ hr ⟨rfl,rfl⟩;exact⟨_,hd,G,init N.length ws,q66 sg rp,q8e he h⟩
theorem conFZ{x:Str}{st:Stmt}{N ps:List Str}{k:Nat}{F:List W->FR}{f:Addr}{fd:FuncData}(A:Fun K x x st f fd)(sc:FnScope N ps (defScope st))(len:∀ws,F ws≠.no->ws.length=ps.length)
  (hb:∀ws,F ws≠.no->∀(cdv:Value)(A:Around)(outer:List Env)(s:Shared)(H:Hp)(E:XK)(Z:Zt),Room k (A.deeper (PyProof.Rows.envOfC x (defScope st) s.heap.objs.size f cdv))->(Z.H=H/\Z.io=[]) ->
   ∃d,DSs Z (cxOf (CX1 P w) P w K mg base N x (defScope st) f cdv A outer s H E) (fun _=>E) (defBody st) d/\(d (init N.length ws)).fn=F ws):FnOk P w K mg base (CX1 P w) (k+1) f fd ps (spF K F):=by
 refine A.okX sc (fun vs H Q E h=>?_) (fun cdv A outer s H vs Q E hr h=>?_)
 ·obtain⟨G,ws,hn,r⟩:=q7p h;rw[r.length];exact len ws hn
 ·obtain⟨G,ws,sg,rp,h⟩:=h;have hn:F ws≠.no:=fun z=>by rw[z]at h;exact h
  obtain⟨d,hd,he⟩:=hb ws hn cdv A outer s H E ⟨H,G,[]⟩ hr ⟨rfl,rfl⟩;exact⟨_,hd,G,init N.length ws,q66 sg rp,q8e he h⟩
end
section
variable{X:Cx}{Z:Zt}{EE:L2.St->XK}{a b c e:Expr}{es:List Expr}{da db d:Den W}{dF dA:Den (List W)}{x:Str}{pos p tpos:Pos}
noncomputable def dRetT(da db:Den W)(dF:Den (List W)):List S->SR:=fun e=>(da e).stm fun u e1=>(db e1).stm fun v e2=>(dF e2).stm fun ws e3=>.rt (.thr [u,v] ws []) e3
theorem y3r{x1}(hio:Z.io=[])(ha:DE Z X EE a da)(hb:DE Z X EE b db)(hc:DF Z X EE c dF)
  (h1:starEach [a,b,c] X.env=(false,eval a X.env)::starEach [b,c] X.env:=by rfl)(h2:starEach [b,c] X.env=(false,eval b X.env)::starEach [c] X.env:=by rfl)(h3:starEach [c] X.env=(false,eval c X.env)::starEach [] X.env:=by rfl):
  DS Z X EE (.Return (some (.Tuple [a,b,c] x1 tpos)) pos) (dRetT da db dF):=by
 refine PS.mono (q52 (x47 (q17 ha (q17 hb (q17 (y3q hc) q38 h3) h2) h1))) ?_;rintro D σ H ⟨G,e,rel,h⟩;refine⟨G,e,rel,(q0r h).imp (fun u e1 h G1 v1 H1 r1 s1 p1=>?_) fun _ _ h=>h⟩
 refine⟨G1,e1,r1,(q0r (σ:=σ) h).imp (fun v e2 h G2 v2 H2 r2 s2 p2=>?_) fun _ _ h=>XH.trans s1 h⟩
 refine⟨G2,e2,r2,(q0r (σ:=σ) h).imp (fun ws e3 h G3 l xs H3 r3 s3 q1 q2 q3 q4 p3=>?_) fun _ _ h=>XH.trans (s1.trans s2) h⟩
 refine⟨l,xs,rfl,q1,fun o=>⟨by rw[sizeLine_eq];show 3<=16777216;decide,fun t ht=>?_⟩⟩
 have r4:=r3.mutFree (o:=.frz o (.lst xs)) q2 q3 (by rw[hio];exact fun z=>nomatch z) q4 q1
 have htl:l≠t:=fun z=>by subst z;rw[q0g]at ht;cases ht
 have g:=Grow.laid r4.sub ht (.tup [v1,v2,.ref l]);have s23:=s2.trans s3;refine h _ σ (.ref t) _ (r4.grow g) ((s1.trans s23).trans g.gg) ⟨t,l,o,[v1,v2],xs,[],rfl,q0g,?_,?_,q3,?_,Reps.mono g.gg ws p3,rfl⟩
 ·rw[q0b htl,q0g]
 ·rw[q0b htl];exact q2
 ·exact⟨v1,[v2],rfl,Rep.mono (s23.trans g.gg) u p1,v2,[],rfl,Rep.mono (s3.trans g.gg) v p2,rfl⟩
noncomputable def setT(i:Nat)(e:List S):FR->SR
 |.ok (.thr us ws vs)=>.nx (e.set i (.thr us ws vs))
 |_=>.no
noncomputable def dSetT(i:Nat)(F:List W->FR)(dA:Den (List W)):List S->SR:=fun e=>(dA e).stm fun ws e1=>setT i e1 (F ws)
theorem Rel.setThr{K:PySem.W.Frag}{G H:Hp}{σ:L2.St}{e:List S}(r:Rel K Z G σ H e){i:Nat}{us ws vs:List W}{v:V}(q:SlotOk K Z G H (.thr us ws vs) (some v)):Rel K Z G (σ.set i (some v)) H (e.set i (.thr us ws vs)):=by
 refine⟨r.sub,fun j s z=>?_,by simpa using r.len,fun j k b1 b2 w1 w2 c z1 z2 z3 z4=>?_,r.ent,r.ion,r.gen⟩
 ·by_cases hj:j=i
  ·subst hj
   have hi:j<e.length:=by
    have:=(w0a.mp z).1;simpa using this
   rw[w0g hi]at z;cases z;rw[w0g (by rw[<- r.len];exact hi)];exact q
  ·rw[w0e (fun z=>hj z.symm)]at z |-
   exact r.slot j s z
 ·have old:∀(k:Nat)(bb:Option Nat)(ww:List W),(e.set i (S.thr us ws vs))[k]?=some (.own bb ww)->k≠i/\e[k]?=some (.own bb ww):=fun k bb ww z=>by
   by_cases hk:k=i
   ·subst hk
    have hi:k<e.length:=by
     have:=(w0a.mp z).1;simpa using this
    rw[w0g hi]at z;cases z
   ·rw[w0e (fun z=>hk z.symm)]at z;exact⟨hk,z⟩
  obtain⟨n1,q1⟩:=old _ _ _ z1;obtain⟨n2,q2⟩:=old _ _ _ z2;rw[w0e (fun z=>n1 z.symm)]at z3
  rw[w0e (fun z=>n2 z.symm)]at z4
  exact r.dis _ _ _ _ _ _ _ q1 q2 z3 z4
theorem y3s(i:Nat){f:Str}{k:Nat}{ps:List Str}{F:List W->FR}{np cpos:Pos}(hN:X.N.Nodup)(C:Cal X.prog X.w X.K X.mg X.base k f ps (spF X.K F))(hr:Room k X.A)(hx:PassX (CX1 X.prog X.w) X EE)(ha:DA Z X EE (e::es) dA)(hg:Gl X f:=by rfl)
  (hdb:(f==("__debug__":Str))=false:=by decide)(he:starEach (e::es) X.env=(false,eval e X.env)::starEach es X.env:=by rfl)(hpl:(backTo cpos (starEach es X.env)).any (·.1)=false:=by rfl)
  (hi:X.N[i]?=some x:=by rfl)(hl:Loc X.env.scope x:=by walk_at "3")(hs:swapsWith (.Call (.Name f np) (e::es) [] cpos) (some (.Name x p)) pos.line X.env=pure false:=by rfl)(hf:X.fn x=true\/X.env.scope.names.lookup x=some .local:=by walk_at "2"):
  DS Z X EE (.Assign [.Name x p] (.Call (.Name f np) (e::es) [] cpos) pos) (dSetT i F dA):=by
 refine PS.mono (q7l i hN (q98 C hr hx ha hg hdb he hpl) hi hl hs hf) ?_;rintro D σ H ⟨G,e,rel,h⟩;refine⟨G,e,rel,(q0r h).imp (fun ws e1 h G1 vs H1 r1 s1 p1=>?_) fun _ _ h=>h⟩
 refine⟨G1,ws,r1.sub,by rw[w1r];exact p1,?_⟩;cases q:F ws with
 |ok s=>
  rw[q]at h;intro G' H' v g sl;cases s with
  |thr us ws' vs'=>
   have r2:=r1.grow g;obtain⟨t,l,o,xs,ys,zs,h1,h2,h3,h4,h5,h6⟩:=sl;cases h1;exact h G' _ H' (r2.setThr ⟨t,l,o,xs,ys,zs,rfl,h2,h3,h4,q23 r1 h5,h6⟩) (s1.trans g.gg)
  |_=>exact h.elim
 |ex c=>rw[q]at h;exact h.elim
 |no=>rw[q]at h;exact h.elim
noncomputable def isT:S->Bool
 |.thr _ _ _=>true
 |.nest _=>true
 |.x (.acc _)=>true
 |.x (.thro _ _ _)=>true
 |.x (.tn _ _)=>true
 |.x (.pt _ _ _)=>true
 |.x (.fz _)=>true
 |.x (.fzo _)=>true
 |_=>false
theorem Rel.mutL{K:PySem.W.Frag}{G H:Hp}{σ:L2.St}{e:List S}{l:Addr}{o:Obj}{ys:List V}{u:HO}(r:Rel K Z G σ H e)(hl:H l=some (.frz o (.lst ys)))(hg:G l=none)(hz:Z.H l=none)(hT:∀s∈e,isT s=false):Rel K Z G σ (upd H l u) e:=by
 refine⟨fun c u z=>?_,fun j s z=>?_,r.len,r.dis,fun c u z n=>?_,fun c z=>?_,r.gen⟩
 ·rw[q0b (q0l z hg)];exact r.sub c u z
 ·have y:=r.slot j s z;cases s with
  |no=>trivial
  |fr w=>exact y
  |own b2 w2=>
   obtain⟨c,ys,y1,y2,y3,y4,y5⟩:=y;refine⟨c,ys,y1,?_,y3,y4,y5⟩;rw[q0b (q0q y2 hl (fun z=>nomatch z))];exact y2
  |dic kvs=>
   obtain⟨c,y1,y2,y3,y4⟩:=y;refine⟨c,y1,?_,y3,y4⟩;rw[q0b (q0q y2 hl (q3r rfl))];exact y2
  |thr us ws vs=>have:=hT _ (w0y z);cases this
  |nest _=>have:=hT _ (w0y z);cases this
  |x k=>
   have hk:=hT _ (w0y z);cases k with
   |old _=>exact y
   |new _=>exact y
   |_=>cases hk
  |dw sh ks ws=>exact DwOk.move y (.refl _) fun l o ys k1 k2 k3=>⟨by rw[q0b (q0q k1 hl (q3a rfl))];exact k1,k2,k3⟩
 ·rw[q0b (q0l z hz)];exact r.ent c u z n
 ·by_cases hc:c=l
  ·subst hc;rw[q0g];exact fun z=>nomatch z
  ·rw[q0b hc];exact r.ion c z
end
variable{X:Cx}{dA:Den (List W)}{σ:L2.St}{EE:L2.St->XK}{e:List S}{i:Nat}{K:PySem.W.Frag}{Z:Zt}
mutual
noncomputable def flatW:W->Bool
 |.non=>true
 |.bl _=>true
 |.int _=>true
 |.str _=>true
 |.tup ws=>flatWs ws
 |_=>false
noncomputable def flatWs:List W->Bool
 |[]=>true
 |w::ws=>flatW w&&flatWs ws
end
noncomputable def keepT:HO->Bool
 |.tup _=>true
 |.frz _ (.tup _)=>true
 |_=>false
theorem x9l{sh:Sh}{kvs:List (Kx×V)}{kas:List Addr}:keepT (dwO sh kvs kas)=false:=by unfold dwO;split<;>rfl
noncomputable def lentG(Z:Zt)(G H:Hp):Hp:=fun a=>match Z.H a with
 |some _=>G a
 |none=>H a
section
variable{e:Expr}{d:Den (List W)}{G H:Hp}{e0:List S}
theorem Rel.lent(r:Rel K Z G σ H e0)(hio:Z.io=[]):Rel K ⟨H,lentG Z G H,[]⟩ (lentG Z G H) σ H (hideS e0):=by
 have sg:Same G (lentG Z G H):=fun a o h=>by
  unfold lentG;cases q:Z.H a with
  |none=>exact r.sub a o h
  |some _=>exact h
 have fresh:∀a o,Z.H a=none->H a=some o->lentG Z G H a=some o:=fun a o h1 h2=>by
  unfold lentG;rw[h1];exact h2
 have g:∀(i:Nat)(s:S),(hideS e0)[i]?=some s->∃s0,e0[i]?=some s0/\s=hide1 s0:=fun i s h=>by
  unfold hideS at h;rw[w0f]at h;obtain⟨s0,h1,h2⟩:=w0b.mp h;exact⟨s0,h1,h2.symm⟩
 refine⟨fun a o h=>?_,fun i s h=>?_,by unfold hideS;rw[w0c];exact r.len,fun i j b b' ws ws' a h1 _ _ _=>?_,fun a o h _=>h,(fun a h=>nomatch h),fun a _=>rfl⟩
 ·unfold lentG at h;cases q:Z.H a with
  |none=>rw[q]at h;exact h
  |some _=>rw[q]at h;exact r.sub a o h
 ·obtain⟨s0,h0,rfl⟩:=g i s h;have q:=r.slot i s0 h0;cases s0 with
  |no=>trivial
  |fr w=>
   obtain⟨u,q1,q2⟩:=q;exact⟨u,q1,Rep.mono sg w q2⟩
  |own b ws=>
   obtain⟨a,xs,q1,q2,q3,q4,q5⟩:=q
   have hz:Z.H a=none:=by
    cases b with
    |none=>exact q4
    |some j=>have q4:a∈Z.io:=w0y q4;rw[hio]at q4;cases q4
   exact⟨.ref a,q1,a,xs,rfl,SqL.of (fresh _ _ hz q2),Reps.mono sg ws q5⟩
  |dic kvs=>
   obtain⟨a,q1,q2,_,q4⟩:=q;exact⟨.ref a,q1,a,rfl,fresh _ _ q4 q2⟩
  |thr us ws vs=>
   obtain⟨t,l,o,xs,ys,zs,q1,q2,q3,_,q5,q6,q7,q8⟩:=q;exact⟨.ref t,q1,t,_,rfl,SqT.of (sg _ _ q2),(Reps.mono sg us q6).append ⟨.ref l,zs,rfl,⟨l,ys,rfl,.inl (.inr ⟨o,fresh _ _ q5 q3⟩),Reps.mono sg ws q7⟩,Reps.mono sg vs q8⟩⟩
  |nest wss=>
   obtain⟨a,ls,q1,q2,_,q4⟩:=q;exact⟨.ref a,q1,a,_,rfl,SqL.of (sg _ _ q2),q4.reps sg fun l o ys z=>fresh _ _ z.2.2 z.1⟩
  |x k=>
   cases k with
   |old w=>obtain⟨u,q1,_,q2⟩:=q;exact⟨u,q1,Rep.mono sg w q2⟩
   |new w=>obtain⟨u,q1,q2⟩:=q;exact⟨u,q1,Rep.mono sg w (RepN.rep w q2)⟩
   |acc ws=>obtain⟨a,o,xs,q1,q2,q3⟩:=q;exact⟨.ref a,q1,a,xs,rfl,.inl (.inr ⟨o,fresh _ _ q2.2.2 q2.1⟩),Reps.mono sg ws (RepNs.reps ws q3)⟩
   |thro us ws vs=>
    obtain⟨t,l,o,xs,ys,zs,q1,_,q2,q3,_,q6,q7,q8⟩:=q;exact⟨.ref t,q1,t,_,rfl,SqT.of (sg _ _ q2),(Reps.mono sg us q6).append ⟨.ref l,zs,rfl,⟨l,ys,rfl,.inl (.inr ⟨o,fresh _ _ q3.2.2 q3.1⟩),Reps.mono sg ws q7⟩,Reps.mono sg vs q8⟩⟩
   |tn us wss=>
    obtain⟨t,l,o,ls,xs,q1,q2,q3,_,q5,q6⟩:=q;exact⟨.ref t,q1,t,_,rfl,SqT.of (sg _ _ q2),(Reps.mono sg us q5).append ⟨.ref l,[],rfl,⟨l,_,rfl,.inl (.inr ⟨o,fresh _ _ q3.2.2 q3.1⟩),q6.reps sg fun l o ys z=>fresh _ _ z.2.2 z.1⟩,rfl⟩⟩
   |pt _ _ _=>trivial
   |fz w=>obtain⟨u,as,q1,_,q3⟩:=q;exact⟨u,q1,RepF.rep sg (fun l o ys z=>fresh _ _ z.2.2 z.1) w q3⟩
   |fzo w=>obtain⟨u,as,q1,_,_,q3⟩:=q;exact⟨u,q1,RepF.rep sg (fun l o ys z=>fresh _ _ z.2.2 z.1) w q3⟩
  |dw sh ks ws=>
   obtain⟨a,kvs,kas,q1,q2,_,q4,q5,q6,q7⟩:=q;exact⟨.ref a,q1,a,kvs,kas,rfl,fresh _ _ q4 q2,q5,q6.mono sg,Reps.mono sg ws q7.reps⟩
 ·obtain⟨s0,_,h2⟩:=g i _ h1;cases s0 with
  |x k=>cases k<;>cases h2
  |_=>cases h2
end
noncomputable def repr1X:List W->Option W
 |[.int i]=>if i.natAbs.log2<1000 then some (.str (Str.ofString (toString i)))else none
 |ws=>repr1 ws
def rReprI:List V->Hp->VK->Prop:=fun xs H Q=>∃i:Int,xs=[.int i]/\i.natAbs.log2<1000/\Q (.str (Str.ofString (toString i))) H
theorem x36:CallR X (.builtin "repr") rReprI:=by
 intro pins s σ H xs us Q I r h;obtain⟨i,rfl,hl,q⟩:=h;obtain⟨u,rfl,rx⟩:=vals1 r;obtain⟨t,rfl⟩:=rx;exact PySem.P.repr_of_int (by omega) ⟨.str (Str.ofString (toString i)),H,I.tok _,⟨_,rfl⟩,q⟩
theorem x9m{f:Value}{r r':List V->Hp->VK->Prop}(h:CallR X f r)(h':CallR X f r'):CallR X f (fun xs H Q=>r xs H Q\/r' xs H Q):=by
 intro pins s σ H xs us Q I v hq;rcases hq with hq|hq
 ·exact h pins s σ H xs us Q I v hq
 ·exact h' pins s σ H xs us Q I v hq
section
variable{e:Expr}{pos p:Pos}
theorem x0r(hu:X.A.units+150<cLine)(hgd:X.A.guards=some [])(hm:X.mg "repr"=none)(ha:DA Z X EE [e] dA)(hg:Gl X "repr":=by rfl)(he:starEach [e] X.env=(false,eval e X.env)::starEach [] X.env:=by rfl)(hpl:(backTo pos (starEach [] X.env)).any (·.1)=false:=by rfl):DE Z X EE (.Call (.Name "repr" p) [e] [] pos) (dFn repr1X dA):=
 q3w (x9m x36 (x35 hu hgd)) (fun G H xs ws w Q s pr hf h=>by
  by_cases hi:∃i,ws=[.int i]
  ·obtain⟨i,rfl⟩:=hi;obtain⟨x,r,rfl,px,pr⟩:=pr;cases(show r=[]from pr);cases(show x=.int i from px);have hf:(if i.natAbs.log2<1000 then some (W.str (Str.ofString (toString i)))else none)=some w:=hf;split at hf
   ·rename_i hl;cases hf;exact .inl ⟨i,rfl,hl,h G _ H (.refl s) rfl⟩
   ·cases hf
  ·have e:repr1X ws=repr1 ws:=by
    unfold repr1X;split
    ·exact absurd ⟨_,rfl⟩ hi
    ·rfl
   rw[e]at hf;exact .inr (y3n G H xs ws w Q s pr hf h)) PyProof.Rows.Boot.«repr» hm ha hg (by decide) (by decide) he hpl
end
section
variable{e':List S}{ws us vs:List W}{v:Value}
theorem y3t{da db:Den W}{dF:Den (List W)}:dRetT da db dF e=(da e).stm fun u e1=>(db e1).stm fun v e2=>(dF e2).stm fun ws e3=>.rt (.thr [u,v] ws []) e3:=rfl
theorem y3u{F:List W->FR}:dSetT i F dA e=(dA e).stm fun ws e1=>setT i e1 (F ws):=rfl
theorem y70:setT i e (.ok (.thr us ws vs))=.nx (e.set i (.thr us ws vs)):=rfl
theorem x6q{wss:List (List W)}:hide1 (.nest wss)=.fr (.lst (wss.map W.lst)):=rfl
theorem x9n:hide1 (.thr us ws vs)=.fr (.tup (us++.lst ws::vs)):=rfl
end
end D
namespace L2
open PySem PySem.Spec PyProof.Rows
end L2
namespace D
open PySem L2 PySem.Spec PyProof.Rows
end D
namespace L2
open PySem PySem.Spec PyProof.Rows
section
variable{X:Cx}{pins:List (Addr×Obj)}{σ:St}{H:Hp}{s:Shared}{a:Addr}{A:Around}{E:Value->Shared->Prop}{sh:Sh}{kvs:List (Kx×V)}{kas:List Addr}
theorem x37{prog:Program}{w:World}{d:Addr}(hd:(d==sysModules)=false):
  MeetsIn prog w (Builtin.«dict.__len__» ⟨[.ref d],[]⟩) (fun _ R s=>∃o es ep,s.heap.get? d=some o/\o.data=.dict es ep/\R (.ok (.ret (.int es.size s.toks))) {s with toks:=s.toks+1}):=
 .of_wp fun A R s ⟨o,es,ep,ho,hdat,h⟩=>by
  show wpAny _ _ (dictSize d >>= _) _ _ s;unfold dictSize;refine wpAny_bind (wpAny_bind (wpAny_dictEntries ho hdat (wpAny_pure ?_)));show wpAny _ _ (Builtin.Dict.pendingCount d >>= _) _ _ s;refine wpAny_bind (wpAny_pendingCount_other hd ?_);refine wpAny_ret_mkInt ?_;rw[Nat.add_zero];exact h
theorem y71{Q:Value->Shared->Prop}(I:Inv X pins σ H s)(e:Rd H a (.dT sh kvs kas))(h:∀t s',Inv X pins σ H s'->Q (.int kvs.length t) s'):wpAny (model X.prog X.w) A (call (.builtin "len") [.ref a]) Q E s:=by
 obtain⟨z,hd,xs,rel,_,dd⟩:=q6o I.hok e;have hT:=dd.typeIs;obtain⟨o,es,ep,ho,_,hdat,hes,_⟩:=dd;have hsz:es.size=kvs.length:=by rw[size_of_entries hes,Paired.length rel]
 rw[sizeLine_eq]at z;refine Calls.call_function_entry kind_len plain_len entry_len (args_len1 _) ?_
 unfold Builtin.«len»;refine wpAny_bind (m:=oneArg "len" _) (wpAny_pure ?_)
 refine wpAny_bind (m:=callSpecial? (.ref a) (Str.ofString "__len__")) (wpAny_callSpecial?_slot (name:=Str.ofString "__len__") hT F.slot_dict_len
  (call_meetsIn F.slot_dict_len hT F.entry_dict_len (F.args_dict_len_1 _) (x37 hd) ⟨o,es,ep,ho,hdat,?_⟩))
 rw[hsz];show wpAny _ _ _ _ _ {s with toks:=s.toks+1};refine wpAny_bind (wpAny_holding (wpAny_pure ?_));refine wpAny_bind (wpAny_letGo ?_);show wpAny _ _ (if((kvs.length:Nat):Int)<0 then _ else _) _ _ _;rw[if_neg (by omega)];show wpAny _ _ (if((kvs.length:Nat):Int)>=2^63 then _ else _) _ _ _;rw[if_neg (by omega)];exact wpAny_bind (wpAny_mkInt (wpAny_pure ⟨_,rfl,h _ _ (I.tok _)⟩))
def rLenT:List V->Hp->VK->Prop:=fun xs H Q=>∃a sh kvs kas,xs=[.ref a]/\Rd H a (.dT sh kvs kas)/\Q (.int kvs.length) H
theorem x6r:CallR X (.builtin "len") rLenT:=by
 intro pins s σ H xs us Q I r h;obtain⟨a,sh,kvs,kas,rfl,e,q⟩:=h;obtain⟨u,rfl,rx⟩:=vals1 r;cases(show u=Value.ref a from rx);exact y71 I e fun t s' I'=>⟨.int kvs.length,H,I',⟨t,rfl⟩,q⟩
theorem Inv.freezeT{o:Obj}(I:Inv X pins σ H s)(e:H a=some (.dT sh kvs kas))(q:s.heap.get? a=some o):Inv X pins σ (upd H a (.frz o (.dT sh kvs kas))) s:=
 I.swapAt e (fun z=>z) (fun _ z=>nomatch z) (fun ob v z=>by have:=I.base.frzs a ob v z;rw[e]at this;cases this) (fun _ z=>nomatch z) fun ok=>⟨q,(ok a _ e).stay (fun _ _ _ z=>z) (fun c z=>by rw[q0b (q0q z e (fun y=>nomatch y))];exact z) fun c xs tl z=>by rw[q0b (q0q z e (fun y=>by subst y;exact tl))];exact z⟩
end
variable{d:Addr}{A:Around}{es:Array DictEntry}{X:Cx}{ep:Nat}{prog:Program}{s:Shared}{E:Value->Shared->Prop}{w:World}
def RawAt(h:Heap)(d:Addr)(es:Array DictEntry)(ep:Nat):Prop:=∃o,h.get? d=some o/\o.ExactDict/\o.data=.dict es ep
section
variable{it:Addr}{i:Nat}
theorem RawAt.typeIs(h:RawAt s.heap d es ep):s.TypeIs (.ref d) "dict":=let ⟨o,ho,hc,_⟩:=h;⟨o,ho,hc.1⟩
theorem x0s{Q:Value->Shared->Prop}(hd:(d==sysModules)=false)(hm:RawAt s.heap d es ep)
  (hQ:Q (.ref s.heap.objs.size) {s with heap:=s.heap.push {cls:=.type "dict_keyiterator", data:=.fields #[.ref d,.int 0 0,.int es.size 0,.int ep 0]}}):wpAny (model prog w) A (pyIter (.ref d)) Q E s:=by
 have hT:=hm.typeIs;obtain⟨o,ho,_,hdat⟩:=hm;refine wpAny_pyIter_slot hT F.slot_dict_iter (wpAny_call_entry F.slot_dict_iter hT F.entry_dict_iter ?_ (F.args_dict_iter_1 _));unfold Builtin.«dict.__iter__»;refine wpAny_bind ?_;unfold Builtin.Dict.dictSlotNone;refine wpAny_bind (wpAny_notOrdered_dict hT ?_);show wpAny _ _ (pure (Value.ref d)) _ _ s;refine wpAny_pure ?_;show wpAny _ _ (Builtin.Dict.showsAll d >>= _) _ _ s;unfold Builtin.Dict.showsAll;rw[if_neg (by rw[hd];exact w0l)];refine wpAny_bind (wpAny_pure (wpAny_bind (wpAny_dictEntries ho hdat (wpAny_bind (wpAny_dictEpoch ho hdat ?_)))));refine wpAny_bind (wpAny_newObj_type (wpAny_pure ⟨_,rfl, "dict_keyiterator", _,⟨_,Heap.get?_push_size _ rfl,rfl⟩,F.slot_dict_keyiterator_next.lookup,?_⟩))
 simpa [rawInt]using hQ
theorem x0t{Q:Option Value->Shared->Prop}(hit:s.heap.IsKeyIter it d i es.size ep)(hm:RawAt s.heap d es ep)(hx:i<es.size)
  (hQ:∀h',h'.IsKeyIter it d (i+1) es.size ep->Heap.SameBut it s.heap h'->Q (some es[i].key) {s with heap:=h'}):wpAny (model prog w) A (pyNext (.ref it)) Q E s:=by
 obtain⟨o,ho,hc,hd⟩:=id hit;obtain⟨od,hod,_,hdd⟩:=hm;unfold pyNext
 refine wpAny_bind (wpAny_attempt (wpAny_callSpecial?_slot (name:=Str.ofString "__next__") hit.typeIs F.slot_dict_keyiterator_next
  (wpAny_call_entry F.slot_dict_keyiterator_next hit.typeIs F.entry_dict_keyiterator_next ?_ (F.args_dict_keyiterator_next_1 _))))
 refine wpAny_bind (wpAny_pure (wpAny_bind (wpAny_bind ?_)))
 first|refine wpAny_bind (wpAny_typeNameOfWhole_keyiter hit.typeIs (wpAny_pure ?_))|refine wpAny_bind (wpAny_typeNameOf_keyiter hit.typeIs (wpAny_pure ?_))
 refine wpAny_bind (wpAny_fieldsOf ho hd ?_);have hown:Builtin.Dict_items.ownsTuple "dict_keyiterator"=false:=by decide
 simp only[hown,w0k,if_false];show wpAny _ _ (if(Value.ref d==Value.none)=true then _ else _) _ _ s;rw[if_neg (show ¬((Value.ref d==Value.none)=true)from w0l)];refine wpAny_bind (wpAny_pure (wpAny_bind (wpAny_dictEntries hod hdd ?_)));rw[if_neg (by simp)];refine wpAny_bind (wpAny_pure (wpAny_bind (wpAny_dictEpoch hod hdd ?_)));rw[if_neg (by simp)];refine wpAny_pure ?_;simp only[show ¬((i:Int)<0)from by omega,if_false,w1t,w1e hx];refine wpAny_bind ?_
 first|refine wpAny_bind (wpAny_typeNameOfWhole_keyiter hit.typeIs (wpAny_pure ?_))|refine wpAny_bind (wpAny_typeNameOf_keyiter hit.typeIs (wpAny_pure ?_))
 refine wpAny_bind (wpAny_isOneOf_keyiter hit.typeIs ?_);show wpAny _ _ (setField (.ref it) 1 (rawInt ((i:Int)+1)) >>= _) _ _ s;refine wpAny_bind (wpAny_setField ho hd (by simp) ?_)
 have hit':(s.heap.update it (Obj.mapFields (·.setIfInBounds 1 (rawInt ((i:Int)+1))))).IsKeyIter it d (i+1) es.size ep:=
  ⟨_,Heap.get?_update_self _ ho (Obj.isFreed_of_fields (Obj.data_mapFields hd _)),(Obj.cls_mapFields ..).trans hc,by rw[Obj.data_mapFields hd];simp[rawInt]⟩
 refine wpAny_bind (wpAny_holding ?_);refine wpAny_bind (wpAny_isOneOf_keyiter (s:={s with heap:=s.heap.update it (Obj.mapFields (·.setIfInBounds 1 (rawInt ((i:Int)+1))))}) hit'.typeIs ?_);show wpAny _ _ (pure es[i].key) _ _ _;exact wpAny_pure (wpAny_pure ⟨_,rfl,wpAny_pure (hQ _ hit' (Heap.SameBut.update ..))⟩)
theorem x2u{Q:Option Value->Shared->Prop}(hh:A.handled=none)(hit:s.heap.IsKeyIter it d i es.size ep)(hm:RawAt s.heap d es ep)(hx:es.size<=i)
  (hQ:∀h',Heap.ExtBut it s.heap h'->Q none {s with heap:=h'}):wpAny (model prog w) A (pyNext (.ref it)) Q E s:=by
 obtain⟨o,ho,hc,hd⟩:=id hit;obtain⟨od,hod,_,hdd⟩:=hm;unfold pyNext
 refine wpAny_bind (wpAny_attempt (wpAny_callSpecial?_slot (name:=Str.ofString "__next__") hit.typeIs F.slot_dict_keyiterator_next
  (wpAny_call_entry F.slot_dict_keyiterator_next hit.typeIs F.entry_dict_keyiterator_next ?_ (F.args_dict_keyiterator_next_1 _))))
 refine wpAny_bind (wpAny_pure (wpAny_bind (wpAny_bind ?_)))
 first|refine wpAny_bind (wpAny_typeNameOfWhole_keyiter hit.typeIs (wpAny_pure ?_))|refine wpAny_bind (wpAny_typeNameOf_keyiter hit.typeIs (wpAny_pure ?_))
 refine wpAny_bind (wpAny_fieldsOf ho hd ?_);have hown:Builtin.Dict_items.ownsTuple "dict_keyiterator"=false:=by decide
 simp only[hown,w0k,if_false];show wpAny _ _ (if(Value.ref d==Value.none)=true then _ else _) _ _ s;rw[if_neg (show ¬((Value.ref d==Value.none)=true)from w0l)];refine wpAny_bind (wpAny_pure (wpAny_bind (wpAny_dictEntries hod hdd ?_)));rw[if_neg (by simp)];refine wpAny_bind (wpAny_pure (wpAny_bind (wpAny_dictEpoch hod hdd ?_)));rw[if_neg (by simp)];refine wpAny_pure ?_;simp only[show ¬((i:Int)<0)from by omega,if_false,w1t,w3g hx];refine wpAny_bind ?_
 first|refine wpAny_bind (wpAny_typeNameOfWhole_keyiter hit.typeIs (wpAny_pure ?_))|refine wpAny_bind (wpAny_typeNameOf_keyiter hit.typeIs (wpAny_pure ?_))
 show wpAny _ _ (setField (.ref it) 0 .none >>= _) _ _ s;refine wpAny_bind (wpAny_setField ho hd (by simp) ?_);show wpAny _ _ (newExc (.type "StopIteration") [] >>= _) _ _ _;refine wpAny_bind ?_;simp only[newExc,newTuple];refine wpAny_bind (wpAny_newObj_type ?_ (by size_fits));refine wpAny_bind (m:=firstArgMember _ _) (wpAny_of_eq (a:=Value.none) (by first|rfl|(simp only[firstArgMember];rfl)) ?_);refine wpAny_newObj_type ?_ (by size_fits);simp only[raiseNew];refine wpAny_bind (wpAny_handled ?_);rw[show A.in1.handled=none from hh];refine wpAny_bind (wpAny_pure (wpAny_throw ?_));refine wpAny_bind (wpAny_isInstance (T:="StopIteration") (b:=true) ⟨_,Heap.get?_push_size _ rfl,rfl⟩ isSubtype_stop ?_);exact wpAny_pure (hQ _ (((Heap.SameBut.update ..).extBut.push _).push _))
end
noncomputable def Itk(d:Addr)(o:Obj)(sh:Sh)(kvs:List (Kx×V))(kas:List Addr):It:=
 ⟨fun i H=>H d=some (.frz o (.dT sh kvs kas))/\i<kas.length,fun i H x H'=>H'=H/\∃b,kas[i]?=some b/\x=.ref b,fun i H=>H d=some (.frz o (.dT sh kvs kas))/\kas.length<=i⟩
theorem x6s{P:Program}{K:PySem.W.Frag}{tg:Expr}{it:Addr}{o:Obj}{sh:Sh}{kvs:List (Kx×V)}{kas:List Addr}(hx:o.ExactDict)(hd:o.data=.dict es ep)(hk:es.toList.map (·.key)=kas.map Value.ref):
  Turn P w K tg (Itk d o sh kvs kas) [it] it (fun i h=>h.IsKeyIter it d i es.size ep) where
 mem:=by simp
 obj:=fun i h st b hb=>by
  have e:b=it:=by simpa using hb
  subst e;obtain⟨o,e,c,d⟩:=st;exact⟨o,e,fun v z=>by rw[d]at z;cases z⟩
 keep:=fun i h h' st k=>by
  obtain⟨o,e,r⟩:=st;exact⟨o,k it (by simp) o e,r⟩
 item:=by
  intro X hP hw hK hc i pins s σ H E I hf st hg;subst hP hw hK;obtain⟨hq,hi⟩:=hg;have hat:RawAt s.heap d es ep:=⟨o,(I.hok d _ hq).1,hx,hd⟩;have hl:es.size=kas.length:=by have:=congrArg List.length hk;simpa using this
  obtain⟨f0,f1,f2,f3,f4,f5⟩:=hf it (by simp);have hi':i<es.size:=by rw[hl];exact hi
  refine x0t st hat hi' fun h' st' sb=>?_
  have I1:Inv X pins σ H {s with heap:=h'}:=I.turned (t':=s.toks) (fun b o hb e=>(sb.2 b hb).trans e) f0 f1 f3 f4 f5
  obtain⟨o',e,c,d'⟩:=id st'
  have hkey:es[i].key=Value.ref kas[i]:=by
   have z:=congrArg (fun l=>l[i]?) hk
   simp only[w0f,w1m,w1e hi',w0d hi,w2t]at z;exact Option.some.inj z
  refine⟨_,rfl,q9t (s:={s with heap:=h'}) e c d' (by decide) ⟨.ref kas[i],H,I1,hkey,⟨rfl,kas[i],w0d hi,rfl⟩,st',fun b hb=>(hf b hb).1⟩⟩
 done:=by
  intro X hP hw hK hc i pins s σ H E I hf st hg;subst hP hw hK;obtain⟨hq,hi⟩:=hg;have hat:RawAt s.heap d es ep:=⟨o,(I.hok d _ hq).1,hx,hd⟩;have hl:es.size=kas.length:=by have:=congrArg List.length hk;simpa using this
  obtain⟨f0,f1,f2,f3,f4,f5⟩:=hf it (by simp);exact x2u (I.ok.hd hc) st hat (by rw[hl];exact hi) fun h' eb=>⟨rfl,I.turned (t':=s.toks) (fun b o hb e=>eb b o hb e) f0 f1 f3 f4 f5⟩
 self:=fun _ _ _ _ _ st h=>wpAny_pyIter_keyiter st h
def iKeys(tl:TE):TI:=fun σ H R=>tl σ H fun x H1=>∃a o sh kvs kas,x=.ref a/\H1 a=some (.frz o (.dT sh kvs kas))/\R (Itk a o sh kvs kas) H1
theorem y3v{tg l:Expr}{tl:TE}(hl:PE X l tl):PI X tg l (iKeys tl):=by
 intro pins s σ H R I h;refine thn (hl pins s σ H _ I h) fun v s1 ⟨x,H1,I1,r1,q1⟩=>?_
 obtain⟨a,o,sh,kvs,kas,e,hq,q⟩:=q1;subst e;cases r1;obtain⟨g0,_⟩:=I1.hok a _ hq;obtain⟨_,hsys,xs,rel,hka,o',es,ep,g1,g2,g3,g4,_⟩:=(I1.hok a _ hq).2;rw[g0]at g1;cases g1
 have hk:es.toList.map (·.key)=kas.map Value.ref:=by
  rw[g4,w1u,<- hka,w1u];rfl
 refine x0s hsys ⟨o,g0,g2,g3⟩ ?_;refine⟨s1.heap.objs.size,[s1.heap.objs.size],_,_,_,rfl,I1.kept (t':=s1.toks) fun b o e=>Heap.get?_push_of_some _ e,x6s (o:=o) (sh:=sh) (kvs:=kvs) (kas:=kas) g2 g3 hk,⟨_,Heap.get?_push_size _ rfl,rfl,rfl⟩,fun b hb=>?_,q⟩
 have e:b=s1.heap.objs.size:=by simpa using hb
 subst e;exact I1.fpOk (w0i _) (I1.hok.fresh (w0i _))
theorem RawAt.keeps{h h':Heap}(x:RawAt h d es ep)(k:∀o,h.get? d=some o->h'.get? d=some o):RawAt h' d es ep:=let ⟨o,ho,r⟩:=x;⟨o,k o ho,r⟩
theorem x6t(hh:A.handled=none)(I:Addr)(hne:d≠I):Walks prog w A I [I,d] [I] es.size (fun i v=>∃e,es[i]?=some e/\v=e.key) (fun i h=>h.IsKeyIter I d i es.size ep/\RawAt h d es ep) where
 sub:=fun b hb=>by simp at hb;simp[hb]
 frame:=fun i h h' st hk=>⟨let ⟨o,ho,r⟩:=st.1;⟨o,hk I (by simp) o ho,r⟩,st.2.keeps fun o e=>hk d (by simp) o e⟩
 item:=fun i s Q E hi st hQ=>x0t st.1 st.2 hi fun h' st' sb=>hQ _ h' s.toks ⟨es[i],w1e hi,rfl⟩ ⟨st',st.2.keeps fun o e=>(sb.2 d hne).trans e⟩ fun b o hb e=>(sb.2 b (fun z=>hb (by simp[z]))).trans e
 done:=fun s Q E st hQ=>x2u hh st.1 st.2 (w0i _) fun h' eb=>hQ h' s.toks fun b o hb e=>eb b o (fun z=>hb (by simp[z])) e
 self:=fun i s Q E st hQ=>wpAny_pyIter_keyiter st.1 hQ
theorem y3w(lo:(d==sysModules)=false):PySem.W.KdlSrc prog w "dict" d d es.size (fun i v=>∃e,es[i]?=some e/\v=e.key) (fun h=>RawAt h d es ep) where
 type:=fun s hm=>hm.typeIs
 there:=fun h hm=>let ⟨o,ho,_⟩:=hm;⟨Heap.lt_size ho,Heap.lt_size ho⟩
 keep:=fun h h' hm hk=>hm.keeps fun o e=>hk d (.inl rfl) o e
 notList:=by decide
 notTuple:=by decide
 hint:=fun A E s Q hm hq=>PySem.W.kdl_hint_dict hm.typeIs hq
 iter:=fun A s hh hm=>⟨_,_,(fun E Q hq=>x0s lo hm hq),x6t hh _ (let ⟨o,ho,_⟩:=hm;w0q (Heap.lt_size ho)),⟨⟨_,Heap.get?_push_size _ rfl,rfl,rfl⟩,hm.keeps fun o e=>Heap.get?_push_of_some _ e⟩⟩
def rListK:List V->Hp->VK->Prop:=fun xs H Q=>∃a sh kvs kas,xs=[.ref a]/\Rd H a (.dT sh kvs kas)/\∀l,H l=none->Q (.ref l) (upd H l (.lst (kas.map V.ref)))
theorem x38(hc:X.calm=true):CallR X (.type "list") rListK:=by
 intro pins s σ H xs us Q I r h;obtain⟨a,sh,kvs,kas,rfl,hq,q⟩:=h;obtain⟨u,rfl,rx⟩:=vals1 r;cases rx;obtain⟨z,lo,ys,rel,hk,o,es,ep,h1,h2,h3,h4,h5⟩:=(show ObjOk X.prog X.w H s.heap a (.dT sh kvs kas)from hq.ok I.hok)
 have hsz:es.size=kas.length:=by
  have e1:=congrArg List.length h4;have e2:=congrArg List.length hk;simp at e1 e2;omega
 have hkl:kas.length<=sizeLine:=by
  have e2:=congrArg List.length hk;have e3:=rel.length;simp at e2;omega
 have hkey:∀(i:Nat)(e:DictEntry),es[i]?=some e->(kas[i]?).map Value.ref=some e.key:=fun i e he=>by
  have e1:es.toList[i]?=some e:=by rw[w1m];exact he
  rw[h4,w0f]at e1;obtain⟨y,hy,rfl⟩:=w0b.mp e1;rw[<- hk,w0f,hy];rfl
 refine PySem.W.kdl_call (y3w (es:=es) (ep:=ep) lo) (I.ok.hd hc) ⟨o,h1,h2,h3⟩ (by rw[hsz];exact hkl) fun h' tk acc' c' kp e hi=>?_
 obtain⟨hi1,hi2⟩:=hi
 have ev:acc'.toList=kas.map Value.ref:=by
  apply w3a;intro i;rw[w1m,w0f]
  by_cases hlt:i<acc'.size
  ·obtain⟨e',he',hv⟩:=hi2 i acc'[i] (w1e hlt);rw[w1e hlt,hv,hkey i e' he']
  ·rw[w3g (w3z.mp hlt),w1w (by omega)];rfl
 have rv:∀l:List Addr,Vals (l.map V.ref) (l.map Value.ref):=fun l=>by
  induction l with
  |nil=>exact .nil
  |cons b l ih=>exact .cons rfl ih
 refine⟨.ref s.heap.objs.size,_,I.laid (t':=tk) kp (w0i _) (show ObjOk X.prog X.w _ h' _ (.lst (kas.map V.ref))from⟨by rw[w0c];exact hkl,kas.map Value.ref,c',rv kas,by rw[<- ev];exact e⟩),rfl,q _ (I.hok.fresh (w0i _))⟩
def rListI:List V->Hp->VK->Prop:=fun xs H Q=>∃a kvs,xs=[.ref a]/\Rd H a (.dK kvs)/\∀l,H l=none->Q (.ref l) (upd H l (.lst (kvs.map fun p=>kV p.1)))
theorem x1u{xs:List V}{us:List Value}(hl:us.length=xs.length)(h:∀(i:Nat)(x:V)(u:Value),xs[i]?=some x->us[i]?=some u->RelV x u):Vals xs us:=by
 induction xs generalizing us with
 |nil=>
  cases us with
  |nil=>exact .nil
  |cons _ _=>simp at hl
 |cons x xs ih=>
  cases us with
  |nil=>simp at hl
  |cons u us=>exact .cons (h 0 x u rfl rfl) (ih (by simpa using hl) fun i y v h1 h2=>h (i+1) y v (by simpa using h1) (by simpa using h2))
theorem x39(hc:X.calm=true):CallR X (.type "list") rListI:=by
 intro pins s σ H xs us Q I r h;obtain⟨a,kvs,rfl,hq,q⟩:=h;obtain⟨u,rfl,rx⟩:=vals1 r;cases rx;obtain⟨z,lo,vs,rel,dd⟩:=q5n I.hok hq;obtain⟨ep,da⟩:=dd.dictAt;have hl:=rel.length;refine PySem.W.kdl_call (PySem.W.kdl_dict (knd:=mixKind X.prog X.w) (kvs:=vs) (ep:=ep) lo) (I.ok.hd hc) da (by rw[<- hl];exact z) fun h' tk acc' c' kp e hi=>?_
 obtain⟨hi1,hi2⟩:=hi
 have rv:Vals (kvs.map fun p=>kV p.1) acc'.toList:=by
  refine x1u (by rw[w0c,hl];simpa using hi1) fun i x u h1 h2=>?_
  rw[w1m]at h2;obtain⟨k,y,e1,e2⟩:=hi2 i u h2;rw[w0f]at h1;obtain⟨p,hp,rfl⟩:=w0b.mp h1;have ek:=congrArg (fun l=>l[i]?) rel.keys
  simp only[w0f,hp,e1,w2t,Option.some.injEq]at ek;rw[ek];exact y97 e2
 refine⟨.ref s.heap.objs.size,_,I.laid (t':=tk) kp (w0i _) (show ObjOk X.prog X.w _ h' _ (.lst (kvs.map fun p=>kV p.1))from⟨by rw[w0c];exact z,acc'.toList,c',rv,e⟩),rfl,q _ (I.hok.fresh (w0i _))⟩
def rLenI:List V->Hp->VK->Prop:=fun xs H Q=>∃a kvs,xs=[.ref a]/\Rd H a (.dK kvs)/\Q (.int kvs.length) H
theorem x6u:CallR X (.builtin "len") rLenI:=by
 intro pins s σ H xs us Q I r h;obtain⟨a,kvs,rfl,e,q⟩:=h;obtain⟨u,rfl,rx⟩:=vals1 r;cases(show u=Value.ref a from rx);exact y96 I e fun t s' I'=>⟨.int kvs.length,H,I',⟨t,rfl⟩,q⟩
end L2
namespace D
open PySem L2 PySem.Spec PyProof.Rows
open Classical
variable{a b:Addr}{fz:Bool}{X:Cx}{d dk:Den W}{G H:Hp}{k:Kx}{σ:L2.St}{EE:L2.St->XK}{ks:List Kx}{e:List S}{ws:List W}{i:Nat}{pos:Pos}{K:PySem.W.Frag}{sh:Sh}{x:Str}{v:V}{w:W}{Z:Zt}
mutual
noncomputable def kxW:W->Option Kx
 |.non=>some .non
 |.bl b=>some (.bl b)
 |.int i=>some (.int i)
 |.str x=>some (.str x)
 |.tup ws=>(kxWs ws).map .tup
 |_=>none
noncomputable def kxWs:List W->Option (List Kx)
 |[]=>some []
 |w::ws=>match kxW w,kxWs ws with
  |some k,some ks=>some (k::ks)
  |_,_=>none
end
def NoTup(K:PySem.W.Frag):Prop:=∀a o,K.lookup a=some o->o.cls≠.type "tuple"
theorem SqT.rd{xs:List V}(hK:NoTup K)(q:SqT K G a xs):Rd G a (.tup xs):=by
 rcases q with q|⟨o,its,n,h1,h2,_⟩
 ·exact q
 ·exact absurd h2 (hK a o h1)
mutual
theorem x6v{K:PySem.W.Frag}{G H:Hp}(hK:NoTup K)(s:Same G H):∀(w:W){k:Kx}{v:V},kxW w=some k->Rep K G w v->KRep H k v
 |.bl b,k,v,e,r=>by cases e;exact r
 |.int b,k,v,e,r=>by cases e;exact r
 |.str b,k,v,e,r=>by cases e;exact r
 |.tup ws,k,v,e,r=>by
  have e:(kxWs ws).map Kx.tup=some k:=e;obtain⟨ks,h1,rfl⟩:=w0b.mp e;obtain⟨a,xs,rfl,q,rs⟩:=r;refine⟨a,xs,rfl,?_,x2v hK s ws h1 rs⟩;rcases SqT.rd hK q with z|⟨o,z⟩
  ·exact .inl (s _ _ z)
  ·exact .inr ⟨o,s _ _ z⟩
 |.non,k,v,e,r=>by cases e;exact r
 |.lst _,k,v,e,r=>by cases e
 |.exc _,k,v,e,r=>by cases e
 |.dic _,k,v,e,r=>by cases e
 |.dw _ _ _ _,k,v,e,r=>by cases e
 |.fn _ _ _,k,v,e,r=>by cases e
theorem x2v{K:PySem.W.Frag}{G H:Hp}(hK:NoTup K)(s:Same G H):∀(ws:List W){ks:List Kx}{vs:List V},kxWs ws=some ks->Reps K G ws vs->KReps H ks vs
 |[],ks,vs,e,r=>by cases e;exact r
 |w::ws,ks,vs,e,r=>by
  have e:(match kxW w,kxWs ws with|some k,some ks=>some (k::ks)|_,_=>none)=some ks:=e;split at e
  ·rename_i k0 ks0 h1 h2;cases e;obtain⟨x,xs,rfl,r1,r2⟩:=r;exact⟨x,xs,rfl,x6v hK s w h1 r1,x2v hK s ws h2 r2⟩
  ·cases e
end
noncomputable def keyT:W->Option Kx
 |.tup ws=>(kxWs ws).map .tup
 |_=>none
theorem q4e(hK:NoTup K)(s:Same G H)(e:keyT w=some k)(r:Rep K G w v):∃b,v=.ref b/\KRep H k (.ref b):=by
 cases w with
 |tup ws=>
  have z:=x6v hK s (.tup ws) e r;obtain⟨a,xs,rfl,q,rs⟩:=r;exact⟨a,rfl,z⟩
 |_=>cases e
def fits(k:Kx)(sh:Sh):Prop:=Conf k sh/\k.depth<=7
mutual
noncomputable def wK:Kx->W
 |.non=>.non
 |.bl b=>.bl b
 |.int i=>.int i
 |.str x=>.str x
 |.tup ks=>.tup (wKs ks)
noncomputable def wKs:List Kx->List W
 |[]=>[]
 |k::ks=>wK k::wKs ks
end
mutual
theorem x0u{K:PySem.W.Frag}{G:Hp}:∀(k:Kx){v:V},KRep G k v->Rep K G (wK k) v
 |.non,_,h=>h
 |.bl _,_,h=>h
 |.int _,_,h=>h
 |.str _,_,h=>h
 |.tup ks,_,h=>by
  obtain⟨a,xs,rfl,q,r⟩:=h;exact⟨a,xs,rfl,.inl q,q7s ks r⟩
theorem q7s{K:PySem.W.Frag}{G:Hp}:∀(ks:List Kx){vs:List V},KReps G ks vs->Reps K G (wKs ks) vs
 |[],_,h=>h
 |k::ks,_,⟨v,r,e,h1,h2⟩=>⟨v,r,e,x0u k h1,q7s ks h2⟩
end
theorem q6b:∀{ks:List Kx}{bs:List Addr},KeysG G ks bs->Reps K G (ks.map wK) (bs.map V.ref)
 |[],[],_=>rfl
 |k::ks,b::bs,h=>⟨.ref b,bs.map V.ref,rfl,x0u k h.1,q6b h.2⟩
 |[],_::_,h=>h.elim
 |_::_,[],h=>h.elim
theorem KeysG.snoc(hk:KRep G k (.ref b)):∀{ks:List Kx}{bs:List Addr},KeysG G ks bs->KeysG G (ks++[k]) (bs++[b])
 |[],[],_=>⟨hk,trivial⟩
 |_::_,_::_,h=>⟨h.1,KeysG.snoc hk h.2⟩
 |[],_::_,h=>h.elim
 |_::_,[],h=>h.elim
noncomputable def lkW:List Kx->List W->Kx->Option W
 |k::ks,w::ws,x=>if k=x then some w else lkW ks ws x
 |_,_,_=>none
theorem q7t{K:PySem.W.Frag}{G:Hp}{x:Kx}:∀{kvs:List (Kx×V)}{ws:List W},Reps K G ws (kvs.map (·.2)) ->
  (∀w,lkW (kvs.map (·.1)) ws x=some w->∃v,valV kvs x=some v/\Rep K G w v)/\(lkW (kvs.map (·.1)) ws x=none->valV kvs x=none)
 |[],ws,r=>by
  cases ws with
  |nil=>exact⟨(fun w z=>nomatch z),fun _=>rfl⟩
  |cons w ws=>obtain⟨_,_,z,_⟩:=r;cases z
 |p::kvs,[],r=>by cases(show _=[]from r)
 |p::kvs,w::ws,r=>by
  obtain⟨v,rr,z,h1,h2⟩:=r;cases z;have ih:=q7t (x:=x) h2
  by_cases e:p.1=x
  ·refine⟨fun w' z=>?_,fun z=>?_⟩
   ·have z:(if p.1=x then some w else lkW (kvs.map (·.1)) ws x)=some w':=z;rw[if_pos e]at z;cases z;exact⟨p.2,q4d e,h1⟩
   ·have z:(if p.1=x then some w else lkW (kvs.map (·.1)) ws x)=none:=z;rw[if_pos e]at z;cases z
  ·refine⟨fun w' z=>?_,fun z=>?_⟩
   ·have z:(if p.1=x then some w else lkW (kvs.map (·.1)) ws x)=some w':=z;rw[if_neg e]at z;rw[q3o e];exact ih.1 w' z
   ·have z:(if p.1=x then some w else lkW (kvs.map (·.1)) ws x)=none:=z;rw[if_neg e]at z;rw[q3o e];exact ih.2 z
theorem DAt.rd{kvs:List (Kx×V)}{kas:List Addr}(s:Same G H)(h:DAt fz G a sh kvs kas):Rd H a (dwO sh kvs kas):=by
 cases fz with
 |true=>obtain⟨o,h⟩:=h;exact .inr ⟨o,s _ _ h⟩
 |false=>exact .inl (s _ _ h)
theorem noI{t:Kx}(kr:KRep H t (.ref b))(hc:fits t sh):sh.isI=false:=by
 cases sh with
 |int=>
  cases t with
  |int i=>exact nomatch (show V.ref b=V.int i from kr)
  |_=>exact hc.1.elim
 |_=>rfl
noncomputable def inT(w d:W):Option W:=match keyT w,d with
 |some k,.dw _ sh ks ws=>if fits k sh then some (.bl (lkW ks ws k).isSome)else none
 |_,_=>none
noncomputable def ninT(w d:W):Option W:=match keyT w,d with
 |some k,.dw _ sh ks ws=>if fits k sh then some (.bl (!(lkW ks ws k).isSome))else none
 |_,_=>none
noncomputable def ixT(d w:W):Option W:=match keyT w,d with
 |some k,.dw _ sh ks ws=>if fits k sh then lkW ks ws k else none
 |_,_=>none
noncomputable def lenT1:List W->Option W
 |[.dw _ _ ks _]=>some (.int ks.length)
 |_=>none
theorem x0v(s:Same G H)(p:Rep K G (.dw fz sh ks ws) v)(kr:KRep H k (.ref b))(hc:fits k sh):
  ∃a o,v=.ref a/\DGet H a (.ref b) o/\(∀w,lkW ks ws k=some w->∃u,o=some u/\Rep K G w u)/\(lkW ks ws k=none->o=none):=by
 obtain⟨a,kvs,kas,rfl,h1,rfl,h3,h4⟩:=p;refine⟨a,_,rfl,DGet.t (by have:=h1.rd s;rwa [q2p (noI kr hc)]at this) ⟨kr,hc⟩,?_⟩;exact q7t h4
theorem y72(hK:NoTup K):Op2 K (fun y x H Q=>∃a o,x=.ref a/\DGet H a y o/\Q (.bl o.isSome) H) inT:=by
 intro G H x y wx wy w Q s px py hf h;unfold inT at hf;split at hf
 ·rename_i k fz sh ks ws hk;split at hf
  ·rename_i hc;cases hf;obtain⟨b,rfl,kr⟩:=q4e hK s hk px;obtain⟨a,o,rfl,g,g1,g2⟩:=x0v s py kr hc;refine⟨a,o,rfl,g,h G _ H (.refl s) ?_⟩;show V.bl o.isSome=V.bl (lkW ks ws k).isSome;cases q:lkW ks ws k with
   |none=>rw[g2 q];rfl
   |some w=>obtain⟨u,hu,_⟩:=g1 w q;rw[hu];rfl
  ·cases hf
 ·cases hf
theorem y3x(hK:NoTup K):Op2 K (fun y x H Q=>∃a o,x=.ref a/\DGet H a y o/\Q (.bl (!o.isSome)) H) ninT:=by
 intro G H x y wx wy w Q s px py hf h;unfold ninT at hf;split at hf
 ·rename_i k fz sh ks ws hk;split at hf
  ·rename_i hc;cases hf;obtain⟨b,rfl,kr⟩:=q4e hK s hk px;obtain⟨a,o,rfl,g,g1,g2⟩:=x0v s py kr hc;refine⟨a,o,rfl,g,h G _ H (.refl s) ?_⟩;show V.bl (!o.isSome)=V.bl (!(lkW ks ws k).isSome);cases q:lkW ks ws k with
   |none=>rw[g2 q];rfl
   |some w=>obtain⟨u,hu,_⟩:=g1 w q;rw[hu];rfl
  ·cases hf
 ·cases hf
theorem y73(hK:NoTup K):Op2 K (fun x y H Q=>∃a v,x=.ref a/\DGet H a y (some v)/\Q v H) ixT:=by
 intro G H x y wx wy w Q s px py hf h;unfold ixT at hf;split at hf
 ·rename_i k fz sh ks ws hk;split at hf
  ·rename_i hc;obtain⟨b,rfl,kr⟩:=q4e hK s hk py;obtain⟨a,o,rfl,g,g1,g2⟩:=x0v s px kr hc;obtain⟨u,rfl,ru⟩:=g1 w hf;exact⟨a,u,rfl,g,h G u H (.refl s) ru⟩
  ·cases hf
 ·cases hf
def rLenW:List V->Hp->VK->Prop:=fun xs H Q=>∃a sh kvs kas,xs=[.ref a]/\Rd H a (dwO sh kvs kas)/\Q (.int kvs.length) H
theorem x6w:CallR X (.builtin "len") rLenW:=by
 intro pins s σ H xs us Q I r h;obtain⟨a,sh,kvs,kas,e1,e2,q⟩:=h;cases hI:sh.isI with
 |false=>rw[q2p hI]at e2;exact x6r pins s σ H xs us Q I r ⟨a,sh,kvs,kas,e1,e2,q⟩
 |true=>
  rw[show dwO sh kvs kas=.dK (kvs.map fun p=>(kxK p.1,p.2))from if_pos hI]at e2
  exact x6u pins s σ H xs us Q I r ⟨a,_,e1,e2,by rw[w0c];exact q⟩
theorem y3y{l:Expr}{tl:TE}(hl:PE X l tl):PE X l (fun σ H Q=>tl σ H fun v H1=>∃a sh kvs kas,v=.ref a/\H1 a=some (dwO sh kvs kas)/\∀o,Q v (upd H1 a (.frz o (dwO sh kvs kas)))):=by
 intro pins s σ H Q I h;refine thn (hl pins s σ H _ I h) fun v s1 ⟨x,H1,I1,r1,q1⟩=>?_
 obtain⟨a,sh,kvs,kas,e1,e2,q⟩:=q1;cases hI:sh.isI with
 |false=>
  rw[q2p hI]at e2 q;obtain⟨_,_,_,_,_,o,_,_,g,_⟩:=I1.hok a _ e2;exact⟨x,_,I1.freezeT e2 g,r1,q o⟩
 |true=>
  rw[show dwO sh kvs kas=.dK (kvs.map fun p=>(kxK p.1,p.2))from if_pos hI]at e2 q
  obtain⟨_,_,_,_,o,_,_,g,_⟩:=y1b I1.hok e2;exact⟨x,_,I1.freeze e2 g,r1,q o⟩
noncomputable def keysV(sh:Sh)(kvs:List (Kx×V))(kas:List Addr):List V:=if sh.isI=true then kvs.map (fun p=>kV (kxK p.1))else kas.map V.ref
def rListW:List V->Hp->VK->Prop:=fun xs H Q=>∃a sh kvs kas,xs=[.ref a]/\Rd H a (dwO sh kvs kas)/\∀l,H l=none->Q (.ref l) (upd H l (.lst (keysV sh kvs kas)))
theorem q7u(hc:X.calm=true):CallR X (.type "list") rListW:=by
 intro pins s σ H xs us Q I r h;obtain⟨a,sh,kvs,kas,e1,e2,q⟩:=h;cases hI:sh.isI with
 |false=>
  rw[q2p hI]at e2;exact x38 hc pins s σ H xs us Q I r ⟨a,sh,kvs,kas,e1,e2,fun l hl=>by have:=q l hl;rwa [show keysV sh kvs kas=kas.map V.ref from if_neg (by rw[hI];exact w0l)]at this⟩
 |true=>
  rw[show dwO sh kvs kas=.dK (kvs.map fun p=>(kxK p.1,p.2))from if_pos hI]at e2
  exact x39 hc pins s σ H xs us Q I r ⟨a,_,e1,e2,fun l hl=>by have:=q l hl;rw[show keysV sh kvs kas=kvs.map (fun p=>kV (kxK p.1))from if_pos hI]at this;rw[w1u];exact this⟩
theorem x4a{kvs:List (Kx×V)}{kas:List Addr}(h:kvs.map (·.1)=ks)(g:KeysS sh G ks kas):Reps K G (ks.map wK) (keysV sh kvs kas):=by
 cases hI:sh.isI with
 |false=>
  rw[show keysV sh kvs kas=kas.map V.ref from if_neg (by rw[hI];exact w0l)];exact q6b (g.g hI)
 |true=>
  rw[show keysV sh kvs kas=kvs.map (fun p=>kV (kxK p.1))from if_pos hI]
  unfold KeysS at g;rw[if_pos hI]at g;subst h
  clear hI
  induction kvs with
  |nil=>exact rfl
  |cons p l ih=>
   obtain⟨i,hi⟩:=g p.1 (by simp);refine⟨_,_,rfl,?_,ih fun k hk=>g k (by simp at hk |-;exact .inr hk)⟩
   show Rep K G (wK p.1) (kV (kxK p.1));rw[hi];exact rfl
theorem y3z:OpN K rLenW lenT1:=by
 intro G H xs ws w Q s pr hf h;unfold lenT1 at hf;split at hf
 ·rename_i fz sh ks vs;cases hf;obtain⟨x,r,rfl,px,pr⟩:=pr;cases(show r=[]from pr);obtain⟨a,kvs,kas,rfl,h1,rfl,h3,h4⟩:=px;refine⟨a,sh,kvs,kas,rfl,h1.rd s,h G _ H (.refl s) ?_⟩;show V.int _=V.int _;rw[w0c]
 ·cases hf
section
variable{a b e k o:Expr}{es:List Expr}{da db:Den W}{dA:Den (List W)}{p tpos:Pos}{body:List Stmt}{s1:List S->SR}
theorem x6x(hK:NoTup X.K)(hu:X.A.units+150<cLine)(ha:DE Z X EE a da)(hb:DE Z X EE b db)(hm:behindInMarks .In b=false:=by rfl):DT Z X EE (.Compare a [.In] [b] pos) (dTest (dOp inT da db)):=
 PT.mono (x4y (y7z (by omega) ha hb) hm) fun σ H Q h=>q3k (y72 hK) σ H _ (q4m h)
theorem y30(hK:NoTup X.K)(hu:X.A.units+150<cLine)(ha:DE Z X EE a da)(hb:DE Z X EE b db)(hm:behindInMarks .NotIn b=false:=by rfl):DT Z X EE (.Compare a [.NotIn] [b] pos) (dTest (dOp ninT da db)):=
 PT.mono (x4y (x6p (by omega) ha hb) hm) fun σ H Q h=>q3k (y3x hK) σ H _ (q4m h)
theorem x6y(hK:NoTup X.K)(hu:X.A.units+150<cLine)(ha:DE Z X EE a da)(hb:DE Z X EE b db)(hs:NoSl b:=by intro _ _;rfl):DE Z X EE (.Subscript a b pos) (dOp ixT da db):=
 PE.mono (x2s (by omega) ha hb hs) (q3k (y73 hK))
theorem x2w(hm:X.mg "len"=none)(ha:DA Z X EE [e] dA)(hg:Gl X "len":=by rfl)(he:starEach [e] X.env=(false,eval e X.env)::starEach [] X.env:=by rfl)(hpl:(backTo pos (starEach [] X.env)).any (·.1)=false:=by rfl):DE Z X EE (.Call (.Name "len" p) [e] [] pos) (dFn lenT1 dA):=
 q3w x6w y3z PySem.boot_len hm ha hg (by decide) (by decide) he hpl
noncomputable def isDw:S->Bool
 |.dw _ _ _=>true
 |.dic _=>true
 |_=>false
theorem Rel.dwX{e:List S}(r:Rel K Z G σ H e)(h:e[i]?=some (.dw sh ks ws)):∃a kvs kas,σ[i]?=some (some (.ref a))/\H a=some (dwO sh kvs kas)/\G a=none/\Z.H a=none/\kvs.map (·.1)=ks/\KeysS sh G ks kas/\RepsX K Z G sh ws (kvs.map (·.2)):=by
 obtain⟨a,kvs,kas,h1,h2,h3,h4,h5,h6,h7⟩:=r.slot i _ h;refine⟨a,kvs,kas,?_,h2,h3,h4,h5,h6,h7⟩;cases q:σ[i]? with
 |none=>rw[q]at h1;cases h1
 |some z=>rw[q]at h1;rw[show z=some (V.ref a)from h1]
theorem Rel.dw{e:List S}(r:Rel K Z G σ H e)(h:e[i]?=some (.dw sh ks ws)):∃a kvs kas,σ[i]?=some (some (.ref a))/\H a=some (dwO sh kvs kas)/\G a=none/\Z.H a=none/\kvs.map (·.1)=ks/\KeysS sh G ks kas/\Reps K G ws (kvs.map (·.2)):=by
 obtain⟨a,kvs,kas,h1,h2,h3,h4,h5,h6,h7⟩:=r.dwX h;exact⟨a,kvs,kas,h1,h2,h3,h4,h5,h6,h7.reps⟩
theorem Rel.setS{e:List S}(r:Rel K Z G σ H e){s:S}(hs:∀b ws,s≠.own b ws)(q:SlotOk K Z G H s (some v)):Rel K Z G (σ.set i (some v)) H (e.set i s):=by
 refine⟨r.sub,fun j t z=>?_,by simpa using r.len,fun j k b1 b2 w1 w2 c z1 z2 z3 z4=>?_,r.ent,r.ion,r.gen⟩
 ·by_cases hj:j=i
  ·subst hj
   have hi:j<e.length:=by
    have:=(w0a.mp z).1;simpa using this
   rw[w0g hi]at z;cases z;rw[w0g (by rw[<- r.len];exact hi)];exact q
  ·rw[w0e (fun z=>hj z.symm)]at z |-
   exact r.slot j t z
 ·have old:∀(k:Nat)(bb:Option Nat)(ww:List W),(e.set i s)[k]?=some (.own bb ww)->k≠i/\e[k]?=some (.own bb ww):=fun k bb ww z=>by
   by_cases hk:k=i
   ·subst hk
    have hi:k<e.length:=by
     have:=(w0a.mp z).1;simpa using this
    rw[w0g hi]at z;cases z;exact absurd rfl (hs _ _)
   ·rw[w0e (fun z=>hk z.symm)]at z;exact⟨hk,z⟩
  obtain⟨n1,q1⟩:=old _ _ _ z1;obtain⟨n2,q2⟩:=old _ _ _ z2;rw[w0e (fun z=>n1 z.symm)]at z3
  rw[w0e (fun z=>n2 z.symm)]at z4
  exact r.dis _ _ _ _ _ _ _ q1 q2 z3 z4
theorem Rel.mutDw{e:List S}(r:Rel K Z G σ H e){ks':List Kx}{ws':List W}{a:Addr}{kvs':List (Kx×V)}{kas':List Addr}(h:e[i]?=some (.dw sh ks ws))(ha:σ[i]?=some (some (.ref a)))(ho:∀s∈e.set i .no,isDw s=false)
  (h5:kvs'.map (·.1)=ks')(h6:KeysS sh G ks' kas')(h7:RepsX K Z G sh ws' (kvs'.map (·.2))):Rel K Z G σ (upd H a (dwO sh kvs' kas')) (e.set i (.dw sh ks' ws')):=by
 obtain⟨a',kvs,kas,h1,h2,h3,h4,_⟩:=r.dw h;rw[ha]at h1;cases h1;have hi:i<e.length:=(w0a.mp h).1;refine⟨fun c o z=>?_,fun j s z=>?_,by simpa using r.len,fun j k b1 b2 w1 w2 c z1 z2 z3 z4=>?_,fun c o z n=>?_,fun c z=>?_,r.gen⟩
 ·rw[q0b (q0l z h3)];exact r.sub c o z
 ·by_cases hj:j=i
  ·subst hj;rw[w0g hi]at z;cases z;exact⟨a,kvs',kas',by rw[ha];rfl,q0g,h3,h4,h5,h6,h7⟩
  ·rw[w0e (fun z=>hj z.symm)]at z
   have y:=r.slot j s z;cases s with
   |no=>trivial
   |fr w=>exact y
   |own b2 w2=>
    obtain⟨c,ys,y1,y2,y3,y4,y5⟩:=y;refine⟨c,ys,y1,?_,y3,y4,y5⟩;rw[q0b (q0q y2 h2 (fun z=>q3a rfl z.symm))];exact y2
   |dic _=>
    have:=ho _ (w0y (i:=j) (by rw[w0e (fun z=>hj z.symm)];exact z))
    cases this
   |thr us w2 vs=>
    obtain⟨t,l,o,xs2,ys,zs,y1,y2,y3,y4,y5,y6⟩:=y;refine⟨t,l,o,xs2,ys,zs,y1,y2,?_,y4,y5,y6⟩;rw[q0b (q0q y3 h2 (fun z=>q3a rfl z.symm))];exact y3
   |nest wss=>exact NestOk.move y (.refl _) fun l o ys k1 k2 k3=>⟨by rw[q0b (q0q k1 h2 (fun z=>q3a rfl z.symm))];exact k1,k2,k3⟩
   |x k=>exact XOk.move y (.refl _) fun l o ys k1 k2 k3=>⟨by rw[q0b (q0q k1 h2 (fun z=>q3a rfl z.symm))];exact k1,k2,k3⟩
   |dw _ _ _=>
    have:=ho _ (w0y (i:=j) (by rw[w0e (fun z=>hj z.symm)];exact z))
    cases this
 ·have old:∀(k:Nat)(bb:Option Nat)(ww:List W),(e.set i (S.dw sh ks' ws'))[k]?=some (.own bb ww)->e[k]?=some (.own bb ww):=fun k bb ww z=>by
   by_cases hk:k=i
   ·subst hk;rw[w0g hi]at z;cases z
   ·rw[w0e (fun z=>hk z.symm)]at z;exact z
  exact r.dis _ _ _ _ _ _ _ (old _ _ _ z1) (old _ _ _ z2) z3 z4
 ·rw[q0b (q0l z h4)];exact r.ent c o z n
 ·by_cases hc:c=a
  ·subst hc;rw[q0g];exact fun z=>nomatch z
  ·rw[q0b hc];exact r.ion c z
noncomputable def dSetW(i:Nat)(sh:Sh):List S->SR:=fun e=>.nx (e.set i (.dw sh [] []))
theorem x2x(i:Nat)(sh:Sh){pos' dpos:Pos}(hN:X.N.Nodup)(hI:sh.isI=false:=by rfl)(hi:X.N[i]?=some x:=by rfl)(hx:Loc X.env.scope x:=by walk_at "3")(hs:swapsWith (.Dict [] [] dpos) (some (.Name x pos')) pos.line X.env=pure false:=by rfl)(hf:X.fn x=true\/X.env.scope.names.lookup x=some .local:=by walk_at "2"):
  DS Z X EE (.Assign [.Name x pos'] (.Dict [] [] dpos) pos) (dSetW i sh):=by
 refine PS.mono (q7l i hN (x9j (sh:=sh)) hi hx hs hf) ?_;rintro D σ H ⟨G,e,rel,h⟩;intro q hq;have g:=Grow.hid rel.sub hq (.dT sh [] []);exact h G _ _ ((rel.grow g).setS (s:=.dw sh [] []) (fun _ _ z=>nomatch z) ⟨q,[],[],rfl,by rw[q2p hI];exact q0g,rel.sub.free hq,q23 rel hq,rfl,.of trivial hI,.nil⟩) (.refl _)
noncomputable def putWC(i:Nat)(w kw:W)(e:List S):Option S->SR
 |some (.dw sh ks ws)=>match keyT kw with
  |some x=>if ks.length<16777216/\(e.set i .no).all (fun s=>!isDw s)=true/\fits x sh/\lkW ks ws x=none/\sh.isN=false then .nx (e.set i (.dw sh (ks++[x]) (ws++[w])))else .no
  |none=>.no
 |_=>.no
noncomputable def putW0(i:Nat)(dk:Den W)(w:W)(e1:List S):Option S->SR
 |some (.dw _ _ _)=>(dk e1).stm fun kw e2=>putWC i w kw e2 e2[i]?
 |_=>.no
noncomputable def dPutW(i:Nat)(d dk:Den W):List S->SR:=fun e=>(d e).stm fun w e1=>putW0 i dk w e1 e1[i]?
theorem y31(i:Nat)(hK:NoTup X.K)(hu:X.A.units+150<cLine)(he:DE Z X EE e d)(hk:DE Z X EE k dk)(hN:X.N[i]?=some x:=by rfl)(hv:Vis X.env.scope x:=by walk_at "1")(hd:(x==("__debug__":Str))=false:=by decide)(hcd:(x==("__classdict__":Str))=false:=by decide)
  (hs:swapsWith e (some (.Subscript (.Name x p) k tpos)) pos.line X.env=pure false:=by rfl):DS Z X EE (.Assign [.Subscript (.Name x p) k tpos] e pos) (dPutW i d dk):=by
 refine PS.mono (x2t (by omega) (pv i hN hv hd hcd) hk he hs) ?_;rintro D σ H ⟨G,e,rel,h⟩;refine⟨G,e,rel,(q0r h).imp (fun w e1 h G1 v1 H1 r1 s1 p1=>?_) fun _ _ h=>h⟩
 unfold putW0 at h;split at h
 ·rename_i sh0 ks0 ws0 he0;obtain⟨a,kvs0,kas0,q1,q2,_⟩:=r1.dw he0;refine⟨.ref a,q1,G1,e1,r1,(q0r (σ:=σ) h).imp (fun kw e2 h G2 v2 H2 r2 s2 p2=>?_) fun _ _ h G' H' r s=>h G' H' r (s1.trans s)⟩
  unfold putWC at h;split at h
  ·rename_i sh ks ws he2;obtain⟨a',kvs,kas,g1,g2,g3,g4,g5,g6,g7⟩:=r2.dw he2;rw[q1]at g1;cases g1;split at h
   ·rename_i t hk1;split at h
    ·rename_i hc;obtain⟨b,rfl,kr⟩:=q4e hK (.refl G2) hk1 p2;have krH:KRep H2 t (.ref b):=KRep.keeps (fun _ _ _ z=>r2.sub _ _ z) t kr
     subst g5;have hI:=noI kr hc.2.2.1;rw[q2p hI]at g2;have hnew:valV kvs t=none:=(q7t g7).2 hc.2.2.2.1;refine⟨a,_,rfl,DPut.t g2 ⟨krH,hc.2.2.1⟩ (by rw[sizeLine_eq];have:=hc.1;rw[w0c]at this;exact this),?_⟩;rw[x0q v1 hnew,show putAd kvs kas t b=kas++[b] by unfold putAd;rw[hnew];rfl,<- q2p hI];refine h G2 σ _ (r2.mutDw (ks':=kvs.map (·.1)++[t]) (ws':=ws++[w]) he2 q1 (fun s hs=>?_) (by rw[w0t];rfl) (.of (KeysG.snoc kr (g6.g hI)) hI) ?_) (s1.trans s2)
     ·have:=w1c.mp hc.2.1 s hs;simpa using this
     ·rw[w0t];exact .of hc.2.2.2.2 (g7.append (.one (Rep.mono s2 w p1)))
    ·exact h.elim
   ·exact h.elim
  ·exact h.elim
 ·exact h.elim
end
noncomputable def maxL:Int->List Int->Int
 |x,[]=>x
 |x,y::ys=>maxL (if x<y then y else x) ys
theorem q8j:∀(ys:List Int)(x:Int),(maxL x ys=x\/maxL x ys∈ys)/\x<=maxL x ys/\∀y∈ys,y<=maxL x ys
 |[],x=>⟨.inl rfl,Int.le_refl _,fun y hy=>nomatch hy⟩
 |y::ys,x=>by
  obtain⟨h1,h2,h3⟩:=q8j ys (if x<y then y else x);have e:maxL x (y::ys)=maxL (if x<y then y else x) ys:=rfl;rw[e];refine⟨?_,?_,fun z hz=>?_⟩
  ·rcases h1 with h|h
   ·by_cases hq:x<y
    ·rw[if_pos hq]at h |-;rw[h];exact .inr (by simp)
    ·rw[if_neg hq]at h |-;exact .inl h
   ·exact .inr (by simp[h])
  ·have:x<=(if x<y then y else x):=by split<;>omega
   omega
  ·rcases w0j.mp hz with rfl|hz
   ·have:z<=(if x<z then z else x):=by split<;>omega
    omega
   ·exact h3 z hz
theorem x6z(hc:X.calm=true):CallR X (.builtin "max") (fun xs H Q=>∃p n ns,xs=[.ref p]/\SqL X.K H p ((n::ns).map V.int)/\Q (.int (maxL n ns)) H):=by
 intro pins s σ H xs us Q I r h;obtain⟨p,n,ns,rfl,hq,q⟩:=h;obtain⟨u,rfl,rx⟩:=vals1 r;cases rx;obtain⟨its,r',pl,hz⟩:=I.list hq;have hl:=pl.isList;have hlt:p<s.heap.objs.size:=by obtain⟨_,e,_⟩:=hl;exact Heap.lt_size e
 have hh:X.A.in1.handled=none:=I.ok.hd hc;have hlen:its.length=(n::ns).length:=by have:=r'.length;rw[w0c]at this;exact this.symm
 have hval:∀(i:Nat)(v:Value),its.toArray[i]?=some v->∃t,v=Value.int ((n::ns).getD i 0) t:=fun i v hv=>by
  have hv':its[i]?=some v:=by simpa using hv
  have hi:i<(n::ns).length:=by rw[<- hlen];exact(w0a.mp hv').1
  obtain⟨u,hu,ru⟩:=r'.get (i:=i) (x:=V.int ((n::ns).getD i 0)) (by rw[w0f,w0d hi,x2q hi];rfl);rw[hv']at hu;cases hu;exact ru
 refine call_max_walk (wpAny_pyIter_list hl ⟨s.heap.objs.size,[s.heap.objs.size,p],[s.heap.objs.size],_,_,_,_,rfl,Walks.list hh s.heap.objs.size p (w0q hlt) its.toArray,⟨⟨_,Heap.get?_push_size _ rfl,rfl,rfl⟩,hl.push _⟩,fun b hb=>?_,by rw[w0h,hlen];simp,CmpOf.ints_gt (fun i=>(n::ns).getD i 0) hval,fun v h' tk hP hk=>?_⟩)
 ·show b<(s.heap.push _).objs.size;rw[Heap.size_push];rcases w0j.mp hb with e|hb
  ·rw[e];exact Nat.lt_succ_self _
  ·rw[w1g.mp hb];exact w2a hlt
 ·obtain⟨t,rfl⟩:=hval _ _ hP;obtain⟨b1,b2⟩:=argBest_gt (fun i=>(n::ns).getD i 0) (its.toArray.size-1)
  have e:(n::ns).getD (argBest (fun i j=>decide ((n::ns).getD i 0>(n::ns).getD j 0)) (its.toArray.size-1)) 0=maxL n ns:=by
   obtain⟨m1,m2,m3⟩:=q8j ns n;have hsz:its.toArray.size=ns.length+1:=by rw[w0h,hlen];simp
   generalize argBest (fun i j=>decide ((n::ns).getD i 0>(n::ns).getD j 0)) (its.toArray.size-1)=k at b1 b2
   have hk:k<(n::ns).length:=by simp;omega
   have ge:(n::ns).getD k 0<=maxL n ns:=by
    rw[x2q hk];rcases w0j.mp (w1l hk)with z|z
    ·rw[z];exact m2
    ·exact m3 _ z
   have le:maxL n ns<=(n::ns).getD k 0:=by
    have:∃j,j<=ns.length/\(n::ns).getD j 0=maxL n ns:=by
     rcases m1 with z|z
     ·exact⟨0,w0w _,by simp[z]⟩
     ·obtain⟨j,hj,ej⟩:=w3o.mp z;exact⟨j+1,by omega,by simp[List.getD,hj,ej]⟩
    obtain⟨j,hj,ej⟩:=this;have:=b2 j (by omega);rw[ej]at this;exact this
   omega
  rw[e];refine⟨.int (maxL n ns),H,I.kept (t':=tk) fun b o hbo=>hk b o (fun z=>?_) (Heap.get?_push_of_some _ hbo),⟨t,rfl⟩,q⟩
  rw[w1g]at z;exact absurd (Heap.lt_size hbo) (by rw[z];exact w1y _)
noncomputable def max1:List W->Option W
 |[.lst ws]=>match intsW ws with
  |some (n::ns)=>some (.int (maxL n ns))
  |_=>none
 |_=>none
theorem y32:OpN K (fun xs H Q=>∃p n ns,xs=[.ref p]/\SqL K H p ((n::ns).map V.int)/\Q (.int (maxL n ns)) H) max1:=by
 intro G H xs ws w Q s pr hf h;unfold max1 at hf;split at hf
 ·obtain⟨x,r,rfl,px,pr⟩:=pr;cases(show r=[]from pr);split at hf
  ·rename_i n ns hns;cases hf;obtain⟨a,cs,rfl,hq,rp⟩:=px;have:=x0m hns rp;subst this;exact⟨a,n,ns,rfl,s.seq hq,h G _ H (.refl s) rfl⟩
  ·cases hf
 ·cases hf
section
variable{e:Expr}{dA:Den (List W)}{p:Pos}
theorem x2y(hc:X.calm=true)(hm:X.mg "max"=none)(ha:DA Z X EE [e] dA)(hg:Gl X "max":=by rfl)(he:starEach [e] X.env=(false,eval e X.env)::starEach [] X.env:=by rfl)(hpl:(backTo pos (starEach [] X.env)).any (·.1)=false:=by rfl):DE Z X EE (.Call (.Name "max" p) [e] [] pos) (dFn max1 dA):=
 q3w (x6z hc) y32 PyProof.Rows.Boot.«max» hm ha hg (by decide) (by decide) he hpl
end
theorem y74{n:Int}{ns:List Int}:max1 [.lst ((n::ns).map .int)]=some (.int (maxL n ns)):=by
 show(match intsW ((n::ns).map .int)with|some (n::ns)=>some (W.int (maxL n ns))|_=>none)=_;rw[x2p]
section
variable{kw dflt:W}{x:Kx}
theorem y33:dSetW i sh e=.nx (e.set i (.dw sh [] [])):=rfl
theorem y34:dPutW i d dk e=(d e).stm fun w e1=>putW0 i dk w e1 e1[i]?:=rfl
theorem y35:putW0 i dk w e (some (.dw sh ks ws))=(dk e).stm fun kw e2=>putWC i w kw e2 e2[i]?:=rfl
theorem y36(hk:keyT kw=some x)(h1:ks.length<16777216)(h2:(e.set i .no).all (fun s=>!isDw s)=true)(h3:fits x sh)(h4:lkW ks ws x=none)(h5:sh.isN=false:=by rfl):putWC i w kw e (some (.dw sh ks ws))=.nx (e.set i (.dw sh (ks++[x]) (ws++[w]))):=by
 show(match keyT kw with|some x=>_|none=>_)=_;rw[hk];exact if_pos ⟨h1,h2,h3,h4,h5⟩
theorem y75(hk:keyT w=some x)(hc:fits x sh):ninT w (.dw fz sh ks ws)=some (.bl (!(lkW ks ws x).isSome)):=by
 unfold ninT;rw[hk];exact if_pos hc
theorem y1c(hk:keyT w=some x)(hc:fits x sh):ixT (.dw fz sh ks ws) w=lkW ks ws x:=by
 unfold ixT;rw[hk];exact if_pos hc
theorem y76:lenT1 [.dw fz sh ks ws]=some (.int ks.length):=rfl
theorem y37:hide1 (.dw sh ks ws)=.fr (.dw false sh ks ws):=rfl
end
noncomputable def tupAt(K:PySem.W.Frag)(a:Addr):Bool:=match K.lookup a with
 |some o=>(match o.cls with
  |.type n=>n=="tuple"
  |_=>false)
 |none=>false
noncomputable def dropT(K:PySem.W.Frag):PySem.W.Frag:=K.filter fun p=>!tupAt K p.1
theorem q3t{q:Addr->Bool}:∀{K:PySem.W.Frag}{o:Obj},(K.filter fun p=>q p.1).lookup a=some o->K.lookup a=some o/\q a=true
 |[],_,h=>by cases h
 |(b,u)::K,o,h=>by
  by_cases hq:q b=true
  ·rw[w2j (p:=fun p:Addr×Obj=>q p.1) (a:=(b,u)) hq]at h
   by_cases e:a=b
   ·subst e;rw[show List.lookup a ((a,u)::(K.filter fun p=>q p.1))=some u by simp[List.lookup]]at h
    refine⟨?_,hq⟩;rw[<- h];simp[List.lookup]
   ·rw[show List.lookup a ((b,u)::(K.filter fun p=>q p.1))=List.lookup a (K.filter fun p=>q p.1) by simp only[List.lookup];rw[beq_eq_false_iff_ne.mpr e]]at h
    obtain⟨h1,h2⟩:=q3t h;refine⟨?_,h2⟩;rw[<- h1];simp only[List.lookup];rw[beq_eq_false_iff_ne.mpr e]
  ·rw[w3e (p:=fun p:Addr×Obj=>q p.1) (a:=(b,u)) hq]at h
   obtain⟨h1,h2⟩:=q3t h;have e:a≠b:=fun z=>hq (by rw[<- z];exact h2)
   refine⟨?_,h2⟩;rw[<- h1];simp only[List.lookup];rw[beq_eq_false_iff_ne.mpr e]
theorem x9o{h:Heap}(X:K.In h):(dropT K).In h:=fun a o e=>X a o (q3t (q:=fun a=>!tupAt K a) e).1
theorem x9p:NoTup (dropT K):=fun a o e z=>by
 obtain⟨h1,h2⟩:=q3t (q:=fun a=>!tupAt K a) e
 unfold tupAt at h2;rw[h1]at h2;simp[z]at h2
theorem q0m{o:Obj}(h:K.lookup a=some o)(t:tupAt K a=false):(dropT K).lookup a=some o:=by
 have gen:∀(l:PySem.W.Frag)(q:Addr->Bool),q a=true->l.lookup a=some o->(l.filter fun p=>q p.1).lookup a=some o:=by
  intro l q hq
  induction l with
  |nil=>intro h;cases h
  |cons p l ih=>
   obtain⟨b,u⟩:=p;intro h
   by_cases e:a=b
   ·subst e;rw[w2j (p:=fun p:Addr×Obj=>q p.1) (a:=(a,u)) hq]
    rw[show List.lookup a ((a,u)::l)=some u by simp[List.lookup]]at h;rw[<- h];simp[List.lookup]
   ·rw[show List.lookup a ((b,u)::l)=List.lookup a l by simp only[List.lookup];rw[beq_eq_false_iff_ne.mpr e]]at h
    by_cases hb:q b=true
    ·rw[w2j (p:=fun p:Addr×Obj=>q p.1) (a:=(b,u)) hb,<- ih h]
     simp only[List.lookup];rw[beq_eq_false_iff_ne.mpr e]
    ·rw[w3e (p:=fun p:Addr×Obj=>q p.1) (a:=(b,u)) hb]
     exact ih h
 exact gen K (fun a=>!tupAt K a) (by rw[t];rfl) h
theorem q0h{r:Option Value}(h:PySem.W.nsIn K a x=some r)(t:tupAt K a=false):PySem.W.nsIn (dropT K) a x=some r:=by
 unfold PySem.W.nsIn at h |-
 cases q:K.lookup a with
 |none=>rw[q]at h;cases h
 |some o=>rw[q0m q t];rw[q]at h;exact h
noncomputable def tupAtV(K:PySem.W.Frag):Value->Bool
 |.ref a=>tupAt K a
 |_=>false
theorem q0o{cd:Value}(h:PySem.W.codeIn K cd x=true)(t:tupAtV K cd=false):PySem.W.codeIn (dropT K) cd x=true:=by
 cases cd with
 |ref a=>
  unfold PySem.W.codeIn at h |-
  dsimp only at h |-
  cases q:K.lookup a with
  |none=>rw[q]at h;cases h
  |some o=>rw[q0m q t];rw[q]at h;exact h
 |_=>cases h
noncomputable def funAt(K:PySem.W.Frag)(a:Addr):Bool:=!tupAt K a&&(match K.lookup a with
 |some ⟨_,_,.func _,_⟩=>true
 |_=>false)
theorem q0p(t:funAt K a=true):keepIn (dropT K) (.ref a)=true:=by
 unfold funAt at t
 rw[w1k]at t;obtain⟨t1,t2⟩:=t;have t1:tupAt K a=false:=by simpa using t1
 unfold keepIn;dsimp only;split at t2
 ·rename_i q;rw[q0m q t1]
 ·cases t2
noncomputable def lk{κ:Type} [DecidableEq κ](kvs:List (κ×Sv))(x:κ):Option Sv:=(kvs.find? fun p=>decide (p.1=x)).map (·.2)
section
variable{kw:W}{kvs:List (Key×Sv)}
theorem x9q{dd:Dd}:hide1 (.dic dd)=.fr (.dic dd):=rfl
end
end D
namespace L2
open PySem PySem.Spec PyProof.Rows
end L2
namespace D
open PySem L2
variable{X:Cx}{dA:Den (List W)}{e:Expr}{EE:L2.St->XK}{es:List Expr}{ps:List Str}{k:Nat}{p pos:Pos}{K:PySem.W.Frag}{x:Str}{Z:Zt}
noncomputable def exprFR:R W->FR
 |.ok w _=>.ok (.fr w)
 |.ex c _=>.ex c
 |.no=>.no
structure LamOk(P:Program)(w:World)(K:PySem.W.Frag)(mg:Str->Option Value)(base:Heap)(n:Nat)(l:Lm)(ps:List Str)(F:List W->FR):Prop where
 sc:LamScope ps l.nf l.scope
 bind:∀(cl:List (Str×Addr))(pm:Value)(c':Addr)(ctv:Value)(us:List Value),us.length=ps.length->bindArgs (PySem.W.kla_fn "<lambda>" l.qual l.params l.body l.scope cl pm (.ref c') ctv) ⟨us,[]⟩=pure (ps.zip us)
 len:∀ws,F ws≠.no->ws.length=ps.length+l.nf.length
 body:∀ws,F ws≠.no->∀(Z:Zt)(f:Addr)(cd:Value)(cl:List (Str×Addr))(A:Around)(outer:List Env)(s:Shared)(H:Hp),Room n (A.deeper (lamEnv l.qual l.scope f cd cl s)) ->
  ∃d,DE Z (cxLam P w K mg base (ps++l.nf) l.qual l.scope f cd cl A outer s H) (fun _=>E0) l.body d/\exprFR (d (ws.map .fr))=F ws
noncomputable def keyOf:W->Option Key
 |.int i=>some (.inl i)
 |.str x=>some (.inr x)
 |_=>none
section
variable{tabs:List (Addr×Str)}{a:Addr}{o:Obj}
theorem x1v(h:noMark K=true):noMark (dropT K)=true:=w1c.mpr fun p hp=>w1c.mp h p (w3h.mp hp).1
end
end D
namespace L2
open PySem PySem.Spec PyProof.Rows
end L2
namespace D
open PySem L2 PySem.Spec PyProof.Rows
open PyProof.Rows (envOfC)
variable{X:Cx}{dA:Den (List W)}{d:Den W}{G H:Hp}{σ:L2.St}{EE:L2.St->XK}{es:List Expr}{e e':List S}{ws:List W}{pos:Pos}{K:PySem.W.Frag}{x:Str}{Z:Zt}
mutual
theorem x60{K:PySem.W.Frag}{Z:Zt}{G:Hp}:∀(w:W){v:V},flatW w=true->Rep K G w v->RepN K Z G w v
 |.non,_,_,p=>p
 |.bl _,_,_,p=>p
 |.int _,_,_,p=>p
 |.str _,_,_,p=>p
 |.tup ws,_,h,⟨a,xs,e,q,r⟩=>⟨a,xs,e,q,q5p ws h r⟩
 |.lst _,_,h,_=>by cases h
 |.exc _,_,h,_=>by cases h
 |.dic _,_,h,_=>by cases h
 |.dw _ _ _ _,_,h,_=>by cases h
 |.fn _ _ _,_,h,_=>by cases h
theorem q5p{K:PySem.W.Frag}{Z:Zt}{G:Hp}:∀(ws:List W){vs:List V},flatWs ws=true->Reps K G ws vs->RepNs K Z G ws vs
 |[],_,_,p=>p
 |w::ws,_,h,⟨x,r,e,p,q⟩=>by
  have h:(flatW w&&flatWs ws)=true:=h;rw[w1k]at h;exact⟨x,r,e,x60 w h.1 p,q5p ws h.2 q⟩
end
theorem RepNs.append:∀{ws us:List W}{xs ys:List V},RepNs K Z G ws xs->RepNs K Z G us ys->RepNs K Z G (ws++us) (xs++ys)
 |[],_,_,_,h,q=>by cases h;exact q
 |w::ws,_,_,_,⟨x,r,e,p,h⟩,q=>by cases e;exact⟨x,_,rfl,p,RepNs.append h q⟩
theorem RepNs.length{xs:List V}(h:RepNs K Z G ws xs):ws.length=xs.length:=(RepNs.reps ws h).length.symm
theorem Rel.drop1(r:Rel K Z G σ H e)(i:Nat):Rel K Z G σ H (e.set i .no):=r.forget (by simp) fun k s z=>by
 by_cases hk:k=i
 ·subst hk
  have hi:k<e.length:=by
   have:=(w0a.mp z).1;simpa using this
  rw[w0g hi]at z;cases z;exact .inl rfl
 ·rw[w0e (fun z=>hk z.symm)]at z;exact .inr z
theorem Rel.give(r:Rel K Z G σ H e){i:Nat}(h:e[i]?=some (.own none ws)):∃a xs,σ[i]?=some (some (.ref a))/\Same G (upd G a (.lst xs))/\Z.H a=none/\Reps K G ws xs/\H a=some (.lst xs)/\Rel K Z (upd G a (.lst xs)) σ H (e.set i .no):=by
 obtain⟨a,xs,h1,h2,h3,h4,h5⟩:=r.own h;have h4:Z.H a=none:=h4
 have fr:Free σ (e.set i .no) a:=fun j b ws' z q=>by
  by_cases hj:j=i
  ·subst hj;have hi:j<e.length:=(w0a.mp h).1;rw[w0g hi]at z;cases z
  ·rw[w0e (fun z=>hj z.symm)]at z
   exact hj (r.dis _ _ _ _ _ _ _ z h q h1)
 obtain⟨sg,r2⟩:=(r.drop1 i).seen h2 h3 h4 fr;exact⟨a,xs,h1,sg,h4,h5,h2,r2⟩
section
variable{a b c e:Expr}{da db:Den W}{dF dN:Den (List W)}{y:Str}{p tpos p1 p2 p3:Pos}
noncomputable def appNK(i j:Nat)(e:List S):Option S->Option S->SR
 |some (.x (.acc us)),some (.own none ws)=>if(us.length<16777216/\flatWs ws=true)/\((e.set j .no).set i .no).all (fun s=>!isT s)=true then .nx ((e.set j .no).set i (.x (.acc (us++[.lst ws]))))else .no
 |_,_=>.no
end
section
variable(K:PySem.W.Frag)(Z:Zt)(EE:L2.St->XK)
def liftN(d:Den W):TE:=fun σ H Q=>AtG K Z σ H fun G e=>(d e).holds (fun w e'=>∀G' v H',Rel K Z G' σ H' e'->Same G G'->RepN K Z G' w v->Q v H') (XH K Z EE σ G)
def liftNA(d:Den (List W)):TA:=fun σ H Q=>AtG K Z σ H fun G e=>(d e).holds (fun ws e'=>∀G' vs H',Rel K Z G' σ H' e'->Same G G'->RepNs K Z G' ws vs->Q vs H') (XH K Z EE σ G)
end
def DN(Z:Zt)(X:Cx)(EE:L2.St->XK)(e:Expr)(d:Den W):Prop:=PE X e (liftN X.K Z EE d)
def DNA(Z:Zt)(X:Cx)(EE:L2.St->XK)(es:List Expr)(d:Den (List W)):Prop:=PA X es (liftNA X.K Z EE d)
section
variable{a b c e:Expr}{da db:Den W}{dF dN:Den (List W)}{y:Str}{p tpos p1 p2 p3:Pos}
noncomputable def nVarK(e:List S):Option S->R W
 |some (.x (.new w))=>.ok w e
 |_=>.no
noncomputable def nOwnK(i:Nat)(e:List S):Option S->R W
 |some (.own none ws)=>if flatWs ws=true then .ok (.lst ws) (e.set i .no)else .no
 |_=>.no
noncomputable def dNOwn(i:Nat):Den W:=fun e=>nOwnK i e e[i]?
theorem y77(i:Nat)(hN:X.N[i]?=some x:=by rfl)(hv:Vis X.env.scope x:=by walk_at "1")(hd:(x==("__debug__":Str))=false:=by decide)(hcd:(x==("__classdict__":Str))=false:=by decide):DN Z X EE (.Name x pos) (dNOwn i):=by
 refine PE.mono (pv i hN hv hd hcd) ?_;rintro σ H Q ⟨G,e,r,h⟩;unfold dNOwn nOwnK at h;split at h
 ·rename_i ws he;split at h
  ·rename_i hfl;obtain⟨a,xs,hv,sg,hz,rps,hH,r2⟩:=r.give he;exact⟨.ref a,hv,h _ (.ref a) H r2 sg ⟨a,xs,rfl,q0g,hz,q5p ws hfl (Reps.mono sg ws rps)⟩⟩
  ·exact h.elim
 ·exact h.elim
noncomputable def dRetNw(d:Den W):List S->SR:=fun e=>(d e).stm fun w e1=>.rt (.x (.new w)) e1
theorem x9r(he:DN Z X EE e d):DS Z X EE (.Return (some e) pos) (dRetNw d):=by
 refine PS.mono (q52 he) ?_;rintro D σ H ⟨G,e,rel,h⟩;exact⟨G,e,rel,(q0r h).imp (fun w e1 h G1 v1 H1 r1 s1 p1=>h G1 σ v1 H1 r1 s1 ⟨v1,rfl,p1⟩) fun _ _ h=>h⟩
noncomputable def dSetNw(i:Nat)(d:Den W):List S->SR:=fun e=>(d e).stm fun w e1=>.nx (e1.set i (.x (.new w)))
theorem x9s(i:Nat){pos':Pos}(hN:X.N.Nodup)(he:DN Z X EE e d)(hi:X.N[i]?=some x:=by rfl)(hx:Loc X.env.scope x:=by walk_at "3")(hs:swapsWith e (some (.Name x pos')) pos.line X.env=pure false:=by rfl)(hf:X.fn x=true\/X.env.scope.names.lookup x=some .local:=by walk_at "2"):
  DS Z X EE (.Assign [.Name x pos'] e pos) (dSetNw i d):=by
 refine PS.mono (q7l i hN he hi hx hs hf) ?_;rintro D σ H ⟨G,e,rel,h⟩;exact⟨G,e,rel,(q0r h).imp (fun w e1 h G1 v1 H1 r1 q1 p1=>h G1 _ H1 (r1.setS (s:=.x (.new w)) (fun _ _ z=>nomatch z) ⟨v1,rfl,p1⟩) q1) fun _ _ h=>h⟩
end
noncomputable def callNK(e:List S):FR->R W
 |.ok (.x (.new w))=>.ok w e
 |.ex c=>.ex c e
 |_=>.no
noncomputable def dCallN(F:List W->FR)(dA:Den (List W)):Den W:=fun e=>(dA e).bind fun ws e1=>callNK e1 (F ws)
section
variable{e body:Expr}{params:Arguments}{lpos p:Pos}{k:Nat}{ps N nf:List Str}{js:List Nat}{sc scope:Scope}{F:List W->FR}
theorem x61(C:Cal X.prog X.w X.K X.mg X.base k x ps (spF X.K F))(hr:Room k X.A)(hx:PassX (CX1 X.prog X.w) X EE)(ha:DA Z X EE (e::es) dA)(hg:Gl X x:=by rfl)
  (hdb:(x==("__debug__":Str))=false:=by decide)(he:starEach (e::es) X.env=(false,eval e X.env)::starEach es X.env:=by rfl)(hpl:(backTo pos (starEach es X.env)).any (·.1)=false:=by rfl):
  DN Z X EE (.Call (.Name x p) (e::es) [] pos) (dCallN F dA):=by
 refine PE.mono (q98 C hr hx ha hg hdb he hpl) ?_;rintro σ H Q ⟨G,e,rel,h⟩;simp only[dCallN,R.holds_bind]at h;refine⟨G,e,rel,h.imp (fun ws e1 h G1 vs H1 r1 s1 p1=>?_) fun _ _ h=>h⟩
 refine⟨G1,ws,r1.sub,by rw[w1r];exact p1,?_⟩;cases q:F ws with
 |ok s=>
  rw[q]at h;intro G' H' v g sl;cases s with
  |x k=>
   cases k with
   |new w=>
    obtain⟨u,h1,h2⟩:=sl;cases h1;exact h G' _ H' (r1.grow g) (s1.trans g.gg) (RepN.move (.refl _) (fun a _ _ z=>q23 r1 z) w h2)
   |_=>exact h.elim
  |_=>exact h.elim
 |ex c=>
  rw[q]at h;exact y01 r1 s1 h
 |no=>rw[q]at h;exact h.elim
end
noncomputable def keepN(h:Option HO)(o:HO):Bool:=keepT o||h.isNone
noncomputable def withN(G G2 H:Hp):Hp:=fun a=>match G a with
 |some o=>some o
 |none=>match G2 a with
  |some o=>if keepN (H a) o=true then some o else none
  |none=>none
section
variable{Z':Zt}{G':Hp}
theorem DAt.via{fz:Bool}{a:Addr}{sh:Sh}{kvs:List (Kx×V)}{kas:List Addr}(q:DAt fz G a sh kvs kas)(h:∀o,G a=some o->G' a=some o):DAt fz G' a sh kvs kas:=by
 cases fz with
 |true=>obtain⟨o,q⟩:=q;exact⟨o,h _ q⟩
 |false=>exact h _ q
mutual
theorem KRep.via(hU:∀a u,keepT u=true->G a=some u->G' a=some u):∀(k:Kx){v:V},KRep G k v->KRep G' k v
 |.non,_,x=>x
 |.bl _,_,x=>x
 |.int _,_,x=>x
 |.str _,_,x=>x
 |.tup ks,_,⟨a,xs,e,q,r⟩=>⟨a,xs,e,q.imp (fun z=>hU _ _ rfl z) (fun⟨o,z⟩=>⟨o,hU _ _ rfl z⟩),KReps.via hU ks r⟩
theorem KReps.via(hU:∀a u,keepT u=true->G a=some u->G' a=some u):∀(ks:List Kx){vs:List V},KReps G ks vs->KReps G' ks vs
 |[],_,x=>x
 |k::ks,_,⟨v,r,e,h1,h2⟩=>⟨v,r,e,KRep.via hU k h1,KReps.via hU ks h2⟩
end
theorem KeysG.via(hU:∀a u,keepT u=true->G a=some u->G' a=some u):∀{ks:List Kx}{bs:List Addr},KeysG G ks bs->KeysG G' ks bs
 |[],[],_=>trivial
 |k::ks,b::bs,h=>⟨KRep.via hU k h.1,KeysG.via hU h.2⟩
 |[],_::_,h=>h.elim
 |_::_,[],h=>h.elim
theorem KeysS.via(hU:∀a u,keepT u=true->G a=some u->G' a=some u){sh:Sh}{ks:List Kx}{bs:List Addr}(h:KeysS sh G ks bs):KeysS sh G' ks bs:=by
 unfold KeysS at h |-
 split at h
 ·rename_i hi;rw[if_pos hi];exact h
 ·rename_i hi;rw[if_neg hi];exact h.via hU
mutual
theorem RepN.via(hT:∀a xs,SqT K G a xs->SqT K G' a xs)(hU:∀a u,keepT u=true->G a=some u->G' a=some u)(hL:∀a o,G a=some o->Z.H a=none->G' a=some o/\Z'.H a=none):∀(w:W){v:V},RepN K Z G w v->RepN K Z' G' w v
 |.non,_,h=>h
 |.bl _,_,h=>h
 |.int _,_,h=>h
 |.str _,_,h=>h
 |.tup ws,_,⟨a,xs,e,q,r⟩=>⟨a,xs,e,hT _ _ q,RepNs.via hT hU hL ws r⟩
 |.lst ws,_,⟨a,xs,e,q,n,r⟩=>⟨a,xs,e,(hL _ _ q n).1,(hL _ _ q n).2,RepNs.via hT hU hL ws r⟩
 |.exc _,_,h=>h.elim
 |.dic _,_,h=>h.elim
 |.dw fz sh ks ws,_,⟨a,kvs,kas,e,q,n,h1,h2,r⟩=>⟨a,kvs,kas,e,q.via (fun o z=>(hL _ o z n).1),(let ⟨_,z⟩:=q.ex;(hL _ _ z n).2),h1,KeysS.via hU h2,RepNs.via hT hU hL ws r⟩
 |.fn _ _ _,_,h=>h.elim
theorem RepNs.via(hT:∀a xs,SqT K G a xs->SqT K G' a xs)(hU:∀a u,keepT u=true->G a=some u->G' a=some u)(hL:∀a o,G a=some o->Z.H a=none->G' a=some o/\Z'.H a=none):∀(ws:List W){vs:List V},RepNs K Z G ws vs->RepNs K Z' G' ws vs
 |[],_,h=>h
 |w::ws,_,⟨x,r,e,p,q⟩=>⟨x,r,e,RepN.via hT hU hL w p,RepNs.via hT hU hL ws q⟩
end
end
section
variable{e:Expr}{e0:List S}
theorem Rel.unlentN{G2 H2:Hp}{e2:List S}(r:Rel K Z G σ H e0)(hio:Z.io=[])(r2:Rel K ⟨H,lentG Z G H,[]⟩ G2 σ H2 e2):Rel K Z (withN G G2 H) σ H2 e0:=by
 have hh:Same H H2:=fun a o h=>r2.ent a o h (fun z=>nomatch z)
 have sg:Same G (withN G G2 H):=fun a o h=>by unfold withN;rw[h]
 have stay:∀a o,H a=some o->G a=none->keepT o=false->withN G G2 H a=none:=fun a o h1 h2 h3=>by
  have z:G2 a=lentG Z G H a:=r2.gen a (by show H a≠none;rw[h1];exact fun z=>nomatch z)
  unfold withN;rw[h2,z];unfold lentG;cases q:Z.H a with
  |none=>simp only[h1,keepN,h3];rfl
  |some _=>simp only[h2]
 refine⟨fun a o h=>?_,fun i s h=>?_,r.len,r.dis,fun a o h n=>hh _ _ (r.ent a o h n),fun a h=>(by rw[hio]at h;cases h),fun a h=>?_⟩
 ·unfold withN at h;cases q:G a with
  |some u=>rw[q]at h;cases h;exact hh _ _ (r.sub _ _ q)
  |none=>
   rw[q]at h;cases q2:G2 a with
   |none=>rw[q2]at h;cases h
   |some u=>
    rw[q2]at h;dsimp only at h;split at h
    ·cases h;exact r2.sub _ _ q2
    ·cases h
 ·have q:=r.slot i s h;cases s with
  |no=>trivial
  |fr w=>
   obtain⟨u,q1,q2⟩:=q;exact⟨u,q1,Rep.mono sg w q2⟩
  |own b ws=>
   obtain⟨a,xs,q1,q2,q3,q4,q5⟩:=q;exact⟨a,xs,q1,hh _ _ q2,stay _ _ q2 q3 rfl,q4,Reps.mono sg ws q5⟩
  |dic kvs=>
   obtain⟨a,q1,q2,q3,q4⟩:=q;exact⟨a,q1,hh _ _ q2,stay _ _ q2 q3 (by cases kvs<;>rfl),q4⟩
  |thr us ws vs=>
   obtain⟨t,l,o,xs,ys,zs,q1,q2,q3,q4,q5,q6,q7,q8⟩:=q;exact⟨t,l,o,xs,ys,zs,q1,sg _ _ q2,hh _ _ q3,stay _ _ q3 q4 rfl,q5,Reps.mono sg us q6,Reps.mono sg ws q7,Reps.mono sg vs q8⟩
  |nest wss=>exact NestOk.move q sg fun l o ys k1 k2 k3=>⟨hh _ _ k1,stay _ _ k1 k2 rfl,k3⟩
  |x k=>exact XOk.move q sg fun l o ys k1 k2 k3=>⟨hh _ _ k1,stay _ _ k1 k2 rfl,k3⟩
  |dw sh ks ws=>exact DwOk.move q sg fun l o ys k1 k2 k3=>⟨hh _ _ k1,stay _ _ k1 k2 x9l,k3⟩
 ·have e:∃o,H a=some o:=by
   cases q:Z.H a with
   |none=>exact absurd q h
   |some o=>exact⟨o,r.ent a o q (by rw[hio];exact fun z=>nomatch z)⟩
  obtain⟨o,ho⟩:=e;rw[<- r.gen a h];unfold withN;cases q:G a with
  |some u=>rfl
  |none=>
   have z:G2 a=lentG Z G H a:=r2.gen a (by show H a≠none;rw[ho];exact fun z=>nomatch z)
   rw[z];unfold lentG;cases q2:Z.H a with
   |none=>exact absurd q2 h
   |some _=>simp only[q]
noncomputable def lendN(e:List S):R W->R W
 |.ok w _=>.ok w e
 |.ex c _=>.ex c e
 |.no=>.no
noncomputable def dLendN(d:Den W):Den W:=fun e=>lendN e (d (hideS e))
theorem y38(hio:Z.io=[])(he:∀Z',DN Z' X EE e d):DN Z X EE e (dLendN d):=by
 intro pins s σ H Q I hq;obtain⟨G,e0,rel,h⟩:=hq;refine he ⟨H,lentG Z G H,[]⟩ pins s σ H Q I ⟨_,hideS e0,rel.lent hio,?_⟩;unfold dLendN lendN at h;cases q:d (hideS e0)with
 |ok w e2=>
  rw[q]at h;dsimp only at h;intro G2 v H2 r2 s2 p
  have kp:∀b o,G2 b=some o->keepN (H b) o=true->withN G G2 H b=some o:=fun b o h1 h2=>by
   unfold withN;cases qq:G b with
   |some u=>
    have h3:G2 b=some u:=s2 b u (by
     unfold lentG;cases q9:Z.H b with
     |none=>exact rel.sub _ _ qq
     |some _=>exact qq)
    rw[h1]at h3;cases h3;rfl
   |none=>simp only[h1,h2];rfl
  refine h (withN G G2 H) v H2 (rel.unlentN hio r2) (fun b o z=>by unfold withN;rw[z]) (RepN.via (fun b ys z=>?_) (fun b u hk z=>kp _ _ z (by unfold keepN;rw[hk];rfl)) (fun b xs h1 h2=>⟨kp _ _ h1 (by have h2:H b=none:=h2;rw[h2];unfold keepN;simp),q23 rel h2⟩) w p)
  rcases z with(z|⟨o,z⟩)|z
  ·exact .inl (.inl (kp _ _ z rfl))
  ·exact .inl (.inr ⟨o,kp _ _ z rfl⟩)
  ·exact .inr z
 |ex k e2=>
  rw[q]at h;intro G2 H2 r2 s2;exact h (withN G G2 H) H2 (rel.unlentN hio r2) (fun b o z=>by unfold withN;rw[z])
 |no=>rw[q]at h;exact h.elim
end
section
variable(K:PySem.W.Frag)(Z:Zt)(EE:L2.St->XK)
def PostW(D:Ends):SR->Prop
 |.nx e'=>∀G' σ' H',Rel K Z G' σ' H' e'->D.nx σ' H'
 |.bk e'=>∀G' σ' H',Rel K Z G' σ' H' e'->D.bk σ' H'
 |.ct e'=>∀G' σ' H',Rel K Z G' σ' H' e'->D.ct σ' H'
 |.rt s e'=>∀G' σ' v H',Rel K Z G' σ' H' e'->SlotOk K Z G' H' s (some v)->D.rt v H'
 |.ex c e'=>∀G' σ' H',Rel K Z G' σ' H' e'->EE σ' c none H'
 |.no=>False
def liftW(d:List S->SR):TS:=fun D σ H=>AtG K Z σ H fun G e=>PostW K Z EE D (d e)
end
def DSsW(Z:Zt)(X:Cx)(EE:L2.St->XK)(sts:List Stmt)(d:List S->SR):Prop:=PSs X sts (liftW X.K Z EE d)
section
variable{st:Stmt}{rest ss:List Stmt}{s1 s2 d:List S->SR}{y:Str}{p:Pos}
theorem PostW.post{D:Ends}{r:SR}(h:PostW K Z EE D r):PostS K Z EE D G r:=by
 cases r with
 |nx e=>exact fun G' σ' H' r _=>h G' σ' H' r
 |bk e=>exact fun G' σ' H' r _=>h G' σ' H' r
 |ct e=>exact fun G' σ' H' r _=>h G' σ' H' r
 |rt s e=>exact fun G' σ' v H' r _ q=>h G' σ' v H' r q
 |ex c e=>exact fun G' σ' H' r _=>h G' σ' H' r
 |no=>exact h
theorem x9t(h1:DS Z X EE st s1):DSsW Z X EE [st] s1:=PSs.mono (q8b h1) fun D σ H ⟨G,e,r,h⟩=>⟨G,e,r,h.post⟩
theorem q1k(h1:DS Z X EE st s1)(h2:DSsW Z X EE rest s2):DSsW Z X EE (st::rest) (dSeq s1 s2):=by
 refine PSs.mono (q63 h1 h2) ?_;rintro D σ H ⟨G,e,rel,h⟩;refine⟨G,e,rel,?_⟩;unfold dSeq at h;cases q:s1 e with
 |nx e'=>rw[q]at h;exact fun G' σ' H' r s=>⟨G',e',r,h⟩
 |bk e'=>rw[q]at h;exact h.post
 |ct e'=>rw[q]at h;exact h.post
 |rt w e'=>rw[q]at h;exact h.post
 |ex c e'=>rw[q]at h;exact h.post
 |no=>rw[q]at h;exact h
noncomputable def toOld:S->S
 |.fr w=>.x (.old w)
 |.thr us ws vs=>.x (.thro us ws vs)
 |.x (.fz w)=>.x (.fzo w)
 |_=>.no
noncomputable def baseR:SR->SR
 |.rt (.fr w) e'=>.rt (.fr w) (e'.map fun _=>.no)
 |_=>.no
noncomputable def dBase(d:List S->SR):List S->SR:=fun e=>baseR (d (e.map toOld))
noncomputable def baseZ(Z:Zt)(G:Hp):Zt:=⟨fun a=>match G a with|some o=>some o|none=>Z.H a,G,[]⟩
theorem q7v{a:Addr}(h1:G a=none)(h2:Z.H a=none):(baseZ Z G).H a=none:=by
 show(match G a with|some o=>some o|none=>Z.H a)=none;rw[h1];exact h2
theorem Rel.base(r:Rel K Z G σ H e)(hio:Z.io=[]):Rel K (baseZ Z G) G σ H (e.map toOld):=by
 refine⟨r.sub,fun i s h=>?_,by rw[w0c];exact r.len,fun i j b b' ws ws' a h1 _ _ _=>?_,fun a o h _=>?_,(fun a h=>nomatch h),fun a _=>rfl⟩
 ·rw[w0f]at h;obtain⟨s0,h0,rfl⟩:=w0b.mp h;have q:=r.slot i s0 h0;cases s0 with
  |fr w=>obtain⟨u,q1,q2⟩:=q;exact⟨u,q1,q2,q2⟩
  |thr us ws vs=>
   obtain⟨t,l,o,xs,ys,zs,h1,h2,h3,h4,h5,h6⟩:=q;exact⟨t,l,o,xs,ys,zs,h1,h2,h2,⟨h3,h4,q7v h4 h5⟩,h6,h6⟩
  |x k=>
   cases k with
   |fz w=>
    obtain⟨u,as,h1,h2,h3⟩:=q;have h4:=RepF.move (K:=K) (Z':=baseZ Z G) (H':=H) (.refl G) w (fun l o ys _ k=>⟨k.1,k.2.1,q7v k.2.1 k.2.2⟩) h3
    exact⟨u,as,h1,h2,h4,h4⟩
   |_=>trivial
  |_=>trivial
 ·rw[w0f]at h1;obtain⟨s0,_,h2⟩:=w0b.mp h1;cases s0 with
  |x k=>cases k<;>cases h2
  |_=>cases h2
 ·have h:(match G a with|some o=>some o|none=>Z.H a)=some o:=h;cases q:G a with
  |some u=>rw[q]at h;cases h;exact r.sub _ _ q
  |none=>rw[q]at h;exact r.ent a o h (by rw[hio];exact fun z=>nomatch z)
theorem Rel.unbase{G' H':Hp}{σ':L2.St}(r':Rel K (baseZ Z G) G' σ' H' e')(r:Rel K Z G σ H e)(hio:Z.io=[]):Rel K Z G' σ' H' (e'.map fun _=>.no):=by
 have hb:∀a o,Z.H a=some o->(baseZ Z G).H a=some o:=fun a o h=>by
  show(match G a with|some o=>some o|none=>Z.H a)=some o;cases q:G a with
  |none=>exact h
  |some u=>
   have h1:=r.sub _ _ q;rw[r.ent a o h (by rw[hio];exact fun z=>nomatch z)]at h1
   exact h1.symm
 refine⟨r'.sub,fun i s h=>?_,by rw[w0c];exact r'.len,fun i j b b' ws ws' a h1 _ _ _=>?_,fun a o h _=>r'.ent a o (hb a o h) (fun z=>nomatch z),fun a h=>(by rw[hio]at h;cases h),fun a h=>?_⟩
 ·rw[w0f]at h;obtain⟨s0,h0,rfl⟩:=w0b.mp h;trivial
 ·rw[w0f]at h1;obtain⟨s0,_,h2⟩:=w0b.mp h1;cases h2
 ·rw[<- r.gen a h];refine r'.gen a ?_;cases q:Z.H a with
  |none=>exact absurd q h
  |some o=>rw[hb a o q];exact fun z=>nomatch z
theorem x9u(hz:Z.H=X.H₀)(hio:Z.io=[])(h:∀Z',(∀a,Z'.H a=none->X.H₀ a=none)->Same Z'.G Z'.H->Z'.io=[]->DSsW Z' X EE ss d):DSs Z X EE ss (dBase d):=by
 intro pins s σ H D I hq;obtain⟨G,e,rel,hp⟩:=hq
 have hs:Same G (baseZ Z G).H:=fun a o z=>by
  show(match G a with|some o=>some o|none=>Z.H a)=some o;rw[z]
 refine h (baseZ Z G) (fun a z=>?_) hs rfl pins s σ H D I ⟨G,e.map toOld,rel.base hio,?_⟩
 ·have z:(match G a with|some o=>some o|none=>Z.H a)=none:=z;rw[<- hz];cases q:G a with
  |some u=>rw[q]at z;cases z
  |none=>rw[q]at z;exact z
 ·unfold dBase baseR at hp;split at hp
  ·rename_i w e' q;rw[q];intro G' σ' v H' r' sl;refine hp G' σ' v H' (r'.unbase rel hio) (fun a o z=>?_) sl
   rw[r'.gen a (by rw[hs a o z];exact fun z=>nomatch z)];exact z
  ·exact hp.elim
noncomputable def rew:S->S
 |.x (.old w)=>.x (.old w)
 |.x (.thro us ws vs)=>.x (.thro us ws vs)
 |.x (.fzo w)=>.x (.fzo w)
 |.fr w=>if scalW w=true then .fr w else .no
 |_=>.no
theorem Rel.rew{H3:Hp}(r:Rel K Z G σ H e)(hG:Same Z.G Z.H)(hio:Z.io=[])(h1:∀c u,Z.H c=some u->H3 c=some u)(h2:∀c o ys,H c=some (.frz o (.lst ys))->H3 c=some (.frz o (.lst ys))):Rel K Z Z.G σ H3 (e.map rew):=by
 refine⟨fun a o z=>h1 _ _ (hG _ _ z),fun i s h=>?_,by rw[w0c];exact r.len,fun i j b b' ws ws' a h1 _ _ _=>?_,fun a o h _=>h1 _ _ h,fun a h=>(by rw[hio]at h;cases h),fun a _=>rfl⟩
 ·rw[w0f]at h;obtain⟨s0,h0,rfl⟩:=w0b.mp h;have q:=r.slot i s0 h0;cases s0 with
  |fr w=>
   show SlotOk K Z Z.G H3 (if scalW w=true then .fr w else .no) _;split
   ·rename_i hs;obtain⟨u,q1,q2⟩:=q;exact⟨u,q1,x0p hs q2⟩
   ·trivial
  |x k=>
   cases k with
   |old w=>obtain⟨u,q1,q2,_⟩:=q;exact⟨u,q1,q2,q2⟩
   |thro us ws vs=>
    obtain⟨t,l,o,xs,ys,zs,k1,k2,k3,⟨k4,k5,k6⟩,k7,_⟩:=q;exact⟨t,l,o,xs,ys,zs,k1,k2,k2,⟨h2 _ _ _ k4,hG.free k6,k6⟩,k7,k7⟩
   |fzo w=>
    obtain⟨u,as,k1,k2,k3,_⟩:=q;have k4:=RepF.move (K:=K) (Z':=Z) (H':=H3) (.refl Z.G) w (fun l o ys _ k=>⟨h2 _ _ _ k.1,k.2.1,k.2.2⟩) k3
    exact⟨u,as,k1,k2,k4,k4⟩
   |_=>trivial
  |_=>trivial
 ·rw[w0f]at h1;obtain⟨s0,_,h2⟩:=w0b.mp h1;cases s0 with
  |fr w=>
   have h2:(if scalW w=true then S.fr w else .no)=.own b ws:=h2;split at h2<;>cases h2
  |x k=>cases k<;>cases h2
  |_=>cases h2
noncomputable def clearTo(i j:Nat)(e:List S):Option S->SR
 |some (.x (.thro us _ _))=>if us.length=j/\(e.set i .no).all (fun s=>!isT s)=true then .nx (e.set i .no)else .no
 |_=>.no
noncomputable def dClearTo(i j:Nat):List S->SR:=fun e=>clearTo i j e e[i]?
theorem x4b(i j:Nat){apos cpos spos:Pos}{kk kp}(hz:∀a,Z.H a=none->X.H₀ a=none)(hN:X.N[i]?=some x:=by rfl)(hv:Vis X.env.scope x:=by walk_at "1")(hd:(x==("__debug__":Str))=false:=by decide)(hcd:(x==("__classdict__":Str))=false:=by decide)
  (hs:PlainIx (.Constant (.int (j:Int)) kk kp):=by intro _ _;rfl)
  (hbase:attributeBase (.Subscript (.Name x p) (.Constant (.int (j:Int)) kk kp) spos) "clear" X.env (eval (.Subscript (.Name x p) (.Constant (.int (j:Int)) kk kp) spos) X.env)=eval (.Subscript (.Name x p) (.Constant (.int (j:Int)) kk kp) spos) X.env:=by rfl)(hline:(apos.endLine==cpos.line)=true:=by rfl)(hsw:swapsWith (.Call (.Attribute (.Subscript (.Name x p) (.Constant (.int (j:Int)) kk kp) spos) "clear" apos) [] [] cpos) none pos.line X.env=pure false:=by rfl):
  DS Z X EE (.Expr (.Call (.Attribute (.Subscript (.Name x p) (.Constant (.int (j:Int)) kk kp) spos) "clear" apos) [] [] cpos) pos) (dClearTo i j):=by
 refine PS.mono (q4x (x5b PySem.F.plainAttrs_list PySem.F.slot_list_clear PySem.F.type_list_clear x78 (x9k (x3m ix_tup (pv i hN hv hd hcd) q92 hs)) hbase hline) hsw) ?_;rintro D σ H ⟨G,e,rel,h⟩;unfold dClearTo clearTo at h;split at h
 ·rename_i us ws vs he;split at h
  ·rename_i hj;obtain⟨t,l,o,xs,ys,zs,h1,_,h2,⟨h3,h4,h5⟩,_,h6,h7,h8⟩:=rel.slot i _ he
   have hv:σ[i]?=some (some (.ref t)):=by
    cases q:σ[i]? with
    |none=>rw[q]at h1;cases h1
    |some z=>rw[q]at h1;rw[show z=some (V.ref t)from h1]
   have hat:atI (xs++V.ref l::zs) (j:Int)=some (.ref l):=by
    refine q2x ?_;rw[<- hj.1,<- h6.length];simp
   have r0:Rel X.K Z G σ H (e.set i .no):=rel.forget (by simp) fun k s z=>by
    by_cases hk:k=i
    ·subst hk;have hi:k<e.length:=(w0a.mp he).1;rw[w0g hi]at z;cases z;exact .inl rfl
    ·rw[w0e (fun z=>hk z.symm)]at z;exact .inr z
   have r1:Rel X.K Z G σ (upd (upd H l (.lst ys)) l (.lst [])) (e.set i .no):=by
    rw[show upd (upd H l (.lst ys)) l (.lst [])=upd H l (.lst [])from by funext c;unfold upd;split<;>rfl]
    exact r0.mutL h3 h4 h5 fun s hs=>by have:=w1c.mp hj.2 s hs;simpa using this
   exact⟨.ref t,hv,t,xs++V.ref l::zs,(j:Int),.ref l,rfl,rfl,SqT.of (rel.sub _ _ h2),hat,l,o,ys,rfl,h3,fun _ _ z=>(by rw[hz _ h5]at z;cases z),.inl ⟨rfl,ys,SqL.of q0g⟩,l,ys,rfl,rfl,q0g,h G σ _ r1 (.refl _)⟩
  ·exact h.elim
 ·exact h.elim
end
section
variable{w u v:W}{us vs:List W}{i j k:Nat}{da:Den W}{F:List W->FR}{l:Lm}{js:List Nat}{caps:List W}{c:Value}{ds:List S->SR}
theorem x9v:flatWs []=true:=rfl
theorem y78{n:Int}:flatW (.int n)=true:=rfl
theorem y39:nVarK e (some (.x (.new w)))=.ok w e:=rfl
theorem y4a:dNOwn i e=nOwnK i e e[i]?:=rfl
theorem y4b:nOwnK i e (some (.own none ws))=if flatWs ws=true then .ok (.lst ws) (e.set i .no)else .no:=rfl
theorem x9w:dRetNw d e=(d e).stm fun w e1=>.rt (.x (.new w)) e1:=rfl
theorem x9x:dSetNw i d e=(d e).stm fun w e1=>.nx (e1.set i (.x (.new w))):=rfl
theorem x9y:dCallN F dA e=(dA e).bind fun ws e1=>callNK e1 (F ws):=rfl
theorem x9z:callNK e (.ok (.x (.new w)))=.ok w e:=rfl
theorem x62:callNK e (.ex c)=.ex c e:=rfl
theorem x90:dLendN d e=lendN e (d (hideS e)):=rfl
theorem x91:lendN e (.ok w e')=.ok w e:=rfl
theorem y4c:dBase ds e=baseR (ds (e.map toOld)):=rfl
theorem x92:baseR (.rt (.fr w) e')=.rt (.fr w) (e'.map fun _=>.no):=rfl
theorem y79:toOld (.fr w)=.x (.old w):=rfl
theorem y4d:toOld (.thr us ws vs)=.x (.thro us ws vs):=rfl
theorem y8a:toOld .no=.no:=rfl
theorem x93:hide1 (.x (.old w))=.fr w:=rfl
theorem x94:hide1 (.x (.new w))=.fr w:=rfl
theorem x95:hide1 (.x (.acc ws))=.fr (.lst ws):=rfl
theorem x63:hide1 (.x (.thro us ws vs))=.fr (.tup (us++.lst ws::vs)):=rfl
theorem y4e:rew (.x (.old w))=.x (.old w):=rfl
theorem x96:rew (.x (.thro us ws vs))=.x (.thro us ws vs):=rfl
theorem y4f:rew (.x (.new w))=.no:=rfl
theorem y4g{n:Int}:rew (.fr (.int n))=.fr (.int n):=rfl
theorem y4h:rew (.fr (.str x))=.fr (.str x):=rfl
theorem y4i:rew (.fr (.lst ws))=.no:=rfl
theorem y8b:rew .no=.no:=rfl
theorem x4c:dClearTo i j e=clearTo i j e e[i]?:=rfl
theorem x64:clearTo i j e (some (.x (.thro us ws vs)))=if us.length=j/\(e.set i .no).all (fun s=>!isT s)=true then .nx (e.set i .no)else .no:=rfl
end
end D
namespace L2
open PySem PySem.Spec PyProof.Rows
variable{A:Around}{b0:Array Keyed}{vs:List Value}{n x:Nat}{P:Program}{s:Shared}{tk:SortKind}{st:SortSt}{E:Value->Shared->Prop}
structure TB(tk:SortKind)(b0:Array Keyed)(st:SortSt):Prop where
 pm:(arrOf st).Perm b0
 kd:kindOf st=tk
 fl:failedOf st=none
 pd:pendingOf st=#[]
theorem TB.sz(t:TB tk b0 st):(arrOf st).size=b0.size:=t.pm.size_eq
section
variable{W:World}{o:KeyKind}
def LtTold(P:Program)(W:World)(A:Around)(s:Shared)(tk:SortKind)(o:KeyKind):Prop:=
 ∀(E:Value->Shared->Prop)(x y:Value)(a b:o.α)(Q:Bool->Shared->Prop),o.keyOf x=some a->o.keyOf y=some b->Q (o.blt a b) s->wpAny (model P W) A (keyLt' tk x y) Q E s
theorem TB.key(t:TB tk b0 st)(hk:KeysOf o b0){i:Nat}(hi:i<b0.size):∃x v,(arrOf st)[i]?=some (x,v)/\o.keyOf x=some (KK o (arrOf st) i):=by
 have hi2:i<(arrOf st).size:=by rw[t.sz];exact hi
 have e:(arrOf st)[i]?=some (arrOf st)[i]:=getElem?_pos _ i hi2;obtain⟨a,ha⟩:=hk (arrOf st)[i] ((Array.perm_iff_toList_perm.mp t.pm).mem_iff.mp (by simp));refine⟨(arrOf st)[i].1,(arrOf st)[i].2,e,?_⟩;have:KK o (arrOf st) i=a:=by unfold KK;rw[e];simp[ha]
 rw[this];exact ha
theorem y4j(hL:LtTold P W A s tk o)(hk:KeysOf o b0)(t:TB tk b0 st){i j:Nat}(hi:i<b0.size)(hj:j<b0.size){Q:Option Bool->SortSt->Prop}
  (q:Q (some (o.blt (KK o (arrOf st) i) (KK o (arrOf st) j))) st):wpS (model P W) A E s (ltAt' i j) Q st:=by
 obtain⟨x,v,e1,k1⟩:=t.key hk hi;obtain⟨y,u,e2,k2⟩:=t.key hk hj;rw[ltAt'_eq];refine wpS_bind (wpS_get ?_);show wpS _ _ _ _ (elem' (arrOf st) i >>= fun p=>elem' (arrOf st) j >>= fun r=>lt' p r) Q st
 rw[elem'_eq,elem'_eq,e1,e2];refine wpS_bind (wpS_pure ?_);refine wpS_bind (wpS_pure ?_);rw[lt'_eq];refine wpS_bind (wpS_get ?_);rw[t.kd];exact wpS_bind (wpS_lift (wpAny_attempt (hL _ x y _ _ _ k1 k2 ⟨rfl,wpS_pure q⟩)))
theorem x4d(o:KeyKind)(xs:Array Keyed){k:Nat}(h:k<=1):SortedToK o xs k:=fun i j hij hj=>by
 have:i=j:=by omega
 rw[this];exact KeyOrd.kle_refl _
theorem x1w{xs:Array Keyed}(hs:SortedToK o xs x)(hx:1<=x)(h:o.blt (KK o xs x) (KK o xs (x-1))=false):SortedToK o xs (x+1):=fun i j hij hj=>by
 rcases Nat.lt_or_ge j x with g|g
 ·exact hs i j hij g
 ·obtain rfl:j=x:=by omega
  rcases Nat.lt_or_ge i j with g2|g2
  ·exact KeyOrd.kle_trans (hs i (j-1) (by omega) (by omega)) h
  ·obtain rfl:i=j:=by omega
   exact KeyOrd.kle_refl _
theorem x97(hL:LtTold P W A s tk o)(hk:KeysOf o b0){c:Nat}(hn:n<=b0.size)(h1:1<=c)(h2:c<=n)(t:TB tk b0 st)(hs:SortedToK o (arrOf st) c){Q:AscSt->SortSt->Prop}
  (q:∀m,c<=m->m<=n->SortedToK o (arrOf st) m->(m=n\/o.klt (KK o (arrOf st) m) (KK o (arrOf st) (m-1)))->Q (none,m) st):wpS (model P W) A E s (ascLoop c n) Q st:=by
 unfold ascLoop;refine wpS_forRange (fun x z u=>z=(none,x)/\u=st/\SortedToK o (arrOf st) x) ?_ ?_ ⟨rfl,rfl,hs⟩
 ·rintro x z u hx hxn ⟨rfl,rfl,hsx⟩;dsimp only;refine wpS_bind (y4j hL hk t (by omega) (by omega) ?_);cases hb:o.blt (KK o (arrOf u) x) (KK o (arrOf u) (x-1))with
  |true=>
   simp only[if_true];exact wpS_pure (q x hx (by omega) hsx (.inr hb))
  |false=>
   simp only[w0k,if_false];exact wpS_pure ⟨rfl,rfl,x1w hsx (by omega) hb⟩
 ·rintro z u ⟨rfl,rfl,hsx⟩;have e:max c n=n:=by omega
  rw[e]at hsx |-
  exact q n h2 (w0i _) hsx (.inl rfl)
theorem TB.none(t:TB tk b0 st):(pendingOf st).back?=Option.none:=by rw[t.pd];rfl
noncomputable def sortHp(h:Heap)(a:Addr)(vs:List Value):Heap:=((h.update a (Obj.mapSeq fun _=>#[])).push (seqObj "tuple" vs.toArray 0)).push (seqObj "list" #[] 0)
theorem x4e{h:Heap}{a b:Addr}{ob:Obj}(hb:b≠a)(e:h.get? b=some ob):(sortHp h a vs).get? b=some ob:=by
 unfold sortHp;exact Heap.get?_push_of_some _ (Heap.get?_push_of_some _ (by rw[Heap.get?_update_ne _ _ _ _ hb];exact e))
noncomputable def sortedHp(h:Heap)(vs:List Value):Heap:=sortHp (((h.push (seqObj "list" #[] 0)).update h.objs.size (Obj.mapSeq (·++vs.toArray))).push (seqObj "list" vs.toArray 0)) (h.objs.size+1) vs
theorem x0w{h:Heap}{b:Addr}{ob:Obj}(e:h.get? b=some ob):(sortedHp h vs).get? b=some ob:=by
 have lb:b<h.objs.size:=Heap.lt_size e;refine x4e (w0q (w2a lb)) (Heap.get?_push_of_some _ ?_);rw[Heap.get?_update_ne _ _ _ _ (w0q lb)];exact Heap.get?_push_of_some _ e
end
section
variable{W:World}
theorem q9n(f:Bool)(x y:Value):keyLt' (tuples' f) x y=(do
  let xs <- Builtin.List.listItems x;let ys <- Builtin.List.listItems y
  for ((p,q),i) in (xs.toList.zip ys.toList).zipIdx do
   if !(<- eqBool p q)then return <- oneLt' (f&&i==0) p q
  return decide (xs.size<ys.size)):=rfl
theorem q6p{y:Nat}{xs ys:List Nat}:decide (x::xs<y::ys)=if x=y then decide (xs<ys)else decide (x<y):=by
 by_cases h:x=y
 ·subst h;rw[if_pos rfl];simp[w3m]
 ·rw[if_neg h];simp[w3m,h]
theorem x98(v:Value):firstOfTuple' v=(do
  if(<- typeOf v) != .type "tuple" then return none
  return (<- Builtin.List.listItems v)[0]?):=rfl
end
theorem q89:∀(f n r:Nat),r<=1->minRun' f n r<=n+r
 |0,n,r,_=>w0i _
 |f+1,n,r,h=>by
  rw[minRun'_succ];split
  ·exact w0i _
  ·have:=q89 f (n / 2) (max r (n%2)) (by omega);omega
section
variable{W:World}{o:KeyKind}
theorem x4f(hL:LtTold P W A s tk o)(hk:KeysOf o b0)(hn:n<=b0.size)(h1:1<=n)(t:TB tk b0 st)(hs:SortedToK o (arrOf st) n){Q:Option Nat->SortSt->Prop}
  (q:Q (some n) st):wpS (model P W) A E s (countRun' 0 n) Q st:=by
 rw[countRun0_eq];refine wpS_bind (x97 hL hk hn (w0i 1) h1 t (x4d o _ (w0i 1)) fun m m1 m2 hsm hstop=>?_)
 dsimp only
 have g:m=n:=by
  rcases hstop with z|z
  ·exact z
  ·rcases w3x m2 with z2|z2
   ·exact absurd z (KeyOrd.not_klt_of_kle (hs (m-1) m (by omega) z2))
   ·exact z2
 rw[if_pos (by simpa using g)];subst g;exact wpS_pure q
theorem x65(hL:LtTold P W A s tk o)(hk:KeysOf o b0)(t:TB tk b0 st)(h2:2<=b0.size)(ha:arrOf st=b0)(hs:SortedToK o b0 b0.size){Q:Unit->SortSt->Prop}
  (q:∀u,arrOf u=b0->failedOf u=none->Q () u):wpS (model P W) A E s sortRuns' Q st:=by
 rw[sortRuns'_eq];refine wpS_bind (wpS_get ?_);dsimp only;have mr:¬b0.size<minRun' b0.size b0.size 0:=by have:=q89 b0.size b0.size 0 (by omega);omega
 simp only[t.sz];refine wpS_bind (wpS_mono (wpS_forRange (fun x z u=>(x=0/\z=(none,0)/\TB tk b0 u/\arrOf u=b0)\/(0<x/\z=(none,b0.size)/\failedOf u=none/\pendingOf u=#[(0,b0.size,0)]/\arrOf u=b0)) (Q:=fun z u=>z=(none,b0.size)/\failedOf u=none/\pendingOf u=#[(0,b0.size,0)]/\arrOf u=b0) ?go ?stop (.inl ⟨rfl,rfl,t,ha⟩)) ?rest)
 case stop=>
  rintro z u (⟨g,_⟩|⟨_,g1,g2⟩)
  ·exact absurd g (by omega)
  ·exact⟨g1,g2⟩
 case go=>
  rintro x z u _ hx (⟨rfl,rfl,hu,hua⟩|⟨g,rfl,hd⟩)
  ·dsimp only;rw[if_neg (by omega)];simp only[Nat.sub_zero,w2x];refine wpS_bind (x4f hL hk (w0i _) (by omega) hu (by rw[hua];exact hs) ?_);dsimp only;rw[if_neg mr];refine wpS_bind (wpS_get ?_);rw[hu.none];refine wpS_bind (wpS_modify (wpS_pure (.inr ⟨by omega,rfl,hu.fl,(show(pendingOf u).push _=_ by rw[hu.pd];rfl),hua⟩)))
  ·dsimp only;rw[if_pos (w0i _)];exact wpS_pure ⟨rfl,hd⟩
 case rest=>
  rintro z u ⟨rfl,d2,d3,d4⟩;dsimp only;refine wpS_bind (wpS_mono (wpS_forRange (fun _ z v=>v=u/\z=(none,())) (Q:=fun z v=>v=u/\z=(none,())) (fun x z v _ _ g=>?_) (fun _ _ g=>g) ⟨rfl,rfl⟩) fun z v g=>?_)
  ·obtain⟨rfl,rfl⟩:=g;refine wpS_bind (wpS_get ?_);rw[if_pos (by rw[d3];exact w0i 1)];exact wpS_pure ⟨rfl,rfl⟩
  ·obtain⟨rfl,rfl⟩:=g;exact wpS_pure (q _ d4 d2)
theorem x66{a:Addr}{R:Fin->Shared->Prop}(ho:s.heap.get? a=some (seqObj "list" vs.toArray n))(hk:KeysOf o (pairsOf vs))(hsz:vs.length<=sizeLine)(hs:SortedToK o (pairsOf vs) (pairsOf vs).size)
  (hT:∀s':Shared,s'={s with heap:=sortHp s.heap a vs}->2<=vs.length->LtTold P W A s' tk o/\∀(E:Value->Shared->Prop)(Q:SortKind->Shared->Prop),Q tk s'->wpAny (model P W) A (keyKind' vs.toArray) Q E s')
  (q:R (.done (.ret .none)) {s with heap:=sortedHeap s.heap a vs ((pairsOf vs).map (·.2))}):
  wpAny (model P W) A (Builtin.«list.sort» ⟨[.ref a],[]⟩) R E s:=by
 rw[list_sort_plain];have la:a<s.heap.objs.size:=Heap.lt_size ho;refine wpAny_bind (listItems_at ho rfl ?_);refine wpAny_bind (listUpdate_at ho rfl ?_);have em:(s.heap.update a (Obj.mapSeq fun _=>#[])).get? a=some (seqObj "list" #[] _):=get?_update_seq ho (fun _=>#[])
 refine wpAny_bind (seqEpoch_at em rfl ?_);refine wpAny_bind (wpAny_newTuple ?_);refine wpAny_bind (wpAny_newList ?_);refine wpAny_holding ?_;have em2:(sortHp s.heap a vs).get? a=some (seqObj "list" #[] _):=Heap.get?_push_of_some _ (Heap.get?_push_of_some _ em);show wpAny (model P W) A _ R E {s with heap:=sortHp s.heap a vs};dsimp only;have ez:vs.toArray.size=vs.length:=by simp
 have ep:(pairsOf vs).size=vs.length:=pairsOf_size vs
 by_cases g:vs.toArray.size<2
 ·rw[if_pos g,if_pos g];refine wpAny_bind (wpAny_pure ?_);rw[StateT.run_pure];refine wpAny_bind (wpAny_pure ?_);dsimp only;refine wpAny_bind (seqEpoch_at em2 rfl ?_);refine wpAny_bind (listUpdate_at em2 rfl ?_ (hsz2:=by rw[Array.size_map];show(pairsOf vs).size<=_;rw[ep];exact w3c hsz));simp only[bne_self_eq_false,w0k,if_false];exact wpAny_pure q
 ·rw[if_neg g,if_neg g];obtain⟨hL,hK⟩:=hT _ rfl (by omega);refine wpAny_bind (hK _ _ ?_);refine wpAny_bind (wpAny_mono (x65 (Q:=fun _ u=>arrOf u=pairsOf vs/\failedOf u=none) hL hk (st:=SortSt.mk' tk (vs.toArray.zip vs.toArray) #[] 7 none) ⟨Array.Perm.refl _,rfl,rfl,rfl⟩ (by omega) rfl hs fun u a1 a2=>⟨a1,a2⟩) ?_ fun _ _ z=>z)
  rintro⟨⟨⟩,u⟩ s' ⟨rfl,d1,d2⟩;dsimp only;refine wpAny_bind (seqEpoch_at em2 rfl ?_);refine wpAny_bind (listUpdate_at em2 rfl ?_ (hsz2:=by rw[Array.size_map,d1,ep];exact w3c hsz));rw[d2,d1];simp only[bne_self_eq_false,w0k,if_false];exact wpAny_pure q
theorem x1x{l:Addr}{Q:Value->Shared->Prop}(hl:s.heap.IsList l vs.toArray)(hk:KeysOf o (pairsOf vs))(hsz:vs.length<=sizeLine)(hs:SortedToK o (pairsOf vs) (pairsOf vs).size)
  (hT:∀s':Shared,(∀b ob,s.heap.get? b=some ob->s'.heap.get? b=some ob)->2<=vs.length->∀A':Around,LtTold P W A' s' tk o/\∀(E:Value->Shared->Prop)(Q:SortKind->Shared->Prop),Q tk s'->wpAny (model P W) A' (keyKind' vs.toArray) Q E s')
  (q:Q (.ref (s.heap.objs.size+1)) {s with heap:=sortedAll s.heap vs ((pairsOf vs).map (·.2))}):
  wpAny (model P W) A (call (.builtin "sorted") [.ref l]) Q E s:=by
 refine Calls.call_function_entry kind_sorted plain_sorted entry_sorted (args_sorted1 _) ?_
 unfold Builtin.«sorted»;refine wpAny_bind (m:=checkCount "sorted" 1 1 _) (wpAny_pure ?_);refine wpAny_bind (collect_list hl ?_);refine wpAny_bind (wpAny_newList ?_)
 have z1:((s.heap.push (seqObj "list" #[] 0)).update s.heap.objs.size (Obj.mapSeq (·++vs.toArray))).objs.size=s.heap.objs.size+1:=by
  rw[Heap.size_update];exact size_push' _ _
 have z2:(((s.heap.push (seqObj "list" #[] 0)).update s.heap.objs.size (Obj.mapSeq (·++vs.toArray))).push (seqObj "list" vs.toArray 0)).get? (s.heap.objs.size+1)=some (seqObj "list" vs.toArray 0):=by
  rw[<- z1];exact Heap.get?_push_size _ rfl
 show wpAny _ _ _ _ _ {s with heap:=((s.heap.push (seqObj "list" #[] 0)).update s.heap.objs.size (Obj.mapSeq (·++vs.toArray))).push (seqObj "list" vs.toArray 0)};rw[z1];refine wpAny_bind (wpAny_holding (wpAny_call_entry slot_list_sort ⟨_,z2,rfl⟩ entry_list_sort (x66 (tk:=tk) (o:=o) z2 hk hsz hs (fun s' e g=>hT s' (fun b ob z=>?_) g _) ⟨_,rfl,?_⟩) (args_list_sort _)))
 ·subst e;exact x0w z
 ·exact wpAny_pure ⟨_,rfl,q⟩
noncomputable def prKey(rd:Value->Option (Nat×Nat)):KeyKind:={PyProof.Rows.strKind with keyOf:=fun v=>(rd v).map fun p=>[p.1,p.2],dflt:=[]}
def PrAt(h:Heap)(v:Value)(p:Nat×Nat):Prop:=∃a ob n t u,v=.ref a/\h.get? a=some ob/\ob.cls=.type "tuple" /\ ob.data=.seq #[Value.int p.1 t,Value.int p.2 u] n
theorem x2z(c:Bool){y:Nat}{t u:Tok}{Q:Bool->Shared->Prop}(h:Q (decide (x<y)) s):wpAny (model P W) A (oneLt' c (.int (x:Int) t) (.int (y:Int) u)) Q E s:=by
 have e:decide ((x:Int)<(y:Int))=decide (x<y):=by simp
 cases c
 ·rw[oneLt'_eq];simp only[w0k,if_false];refine wpAny_bind ((PyProof.Rows.lt_int (?_:_):wpAny (model P W) A (compareOp .Lt (.int (x:Int) t) (.int (y:Int) u)) _ E s));rw[e];exact wpAny_truthy_bool h
 ·exact oneLt_int (by rw[e];exact h)
theorem y98{x y:Value}{p r:Nat×Nat}(f:Bool)(hx:PrAt s.heap x p)(hy:PrAt s.heap y r){Q:Bool->Shared->Prop}(q:Q (decide ([p.1,p.2]<[r.1,r.2])) s):wpAny (model P W) A (keyLt' (tuples' f) x y) Q E s:=by
 obtain⟨a,o,n,t,u,rfl,e1,_,d1⟩:=hx;obtain⟨b,o2,m,t2,u2,rfl,e2,_,d2⟩:=hy;rw[q9n];refine wpAny_bind (listItems_at e1 d1 ?_);refine wpAny_bind (listItems_at e2 d2 ?_);rw[q6p]at q;show wpAny (model P W) A (forIn [((Value.int p.1 t,Value.int r.1 t2),0),((Value.int p.2 u,Value.int r.2 u2),1)] _ _ >>= _) Q E s;rw[w1o];refine wpAny_bind (wpAny_bind (wpAny_bind (SeqAt.EqAt.int_int _ _ _ _ P W _ _ ?_)))
 by_cases g:p.1=r.1
 ·rw[if_pos g,q6p]at q;rw[show((p.1:Int)==(r.1:Int))=true by simp[g]];simp only[w1j,w0k,if_false];refine wpAny_pure ?_;dsimp only;rw[w1o];refine wpAny_bind (wpAny_bind (SeqAt.EqAt.int_int _ _ _ _ P W _ _ ?_))
  by_cases g2:p.2=r.2
  ·rw[if_pos g2]at q;rw[show((p.2:Int)==(r.2:Int))=true by simp[g2]];simp only[w1j,w0k,if_false];refine wpAny_pure ?_;dsimp only;rw[w3p];refine wpAny_pure ?_;exact wpAny_pure q
  ·rw[if_neg g2]at q;rw[show((p.2:Int)==(r.2:Int))=false by simp;omega];simp only[w3q,if_true];refine wpAny_bind (x2z _ ?_);exact wpAny_pure (wpAny_pure (wpAny_pure q))
 ·rw[if_neg g]at q;rw[show((p.1:Int)==(r.1:Int))=false by simp;omega];simp only[w3q,if_true];refine wpAny_bind (x2z _ ?_);exact wpAny_pure (wpAny_pure (wpAny_pure q))
theorem x99{v:Value}{p:Nat×Nat}(hv:PrAt s.heap v p){Q:Option Value->Shared->Prop}(q:∀t,Q (some (Value.int p.1 t)) s):wpAny (model P W) A (firstOfTuple' v) Q E s:=by
 obtain⟨a,o,n,t,u,rfl,e,c,d⟩:=hv;rw[x98];refine wpAny_bind (wpAny_typeOf (T:="tuple") ⟨o,e,c⟩ ?_);rw[if_neg (by simp)];refine wpAny_bind (listItems_at e d ?_);exact wpAny_pure (q t)
def IntAll(l:List (Option Value)):Prop:=∀x∈l,∃(n:Int)(t:Tok),x=some (Value.int n t)
theorem x0x{f:Value->Sem (Option Value)}:∀(l:List Value),(∀x∈l,∀Q:Option Value->Shared->Prop,(∀n t,Q (some (Value.int n t)) s)->wpAny (model P W) A (f x) Q E s)->∀Q:List (Option Value)->Shared->Prop,(∀r,r.length=l.length->IntAll r->Q r s)->wpAny (model P W) A (l.mapM f) Q E s
 |[],_,Q,q=>by rw[List.mapM_nil];exact wpAny_pure (q [] rfl (fun _ z=>nomatch z))
 |x::l,h,Q,q=>by
  rw[List.mapM_cons];refine wpAny_bind (h x (by simp) _ fun n t=>?_)
  refine wpAny_bind (x0x l (fun y hy=>h y (by simp[hy])) _ fun r hr hi=>?_)
  refine wpAny_pure (q _ (by simp[hr]) fun y hy=>?_)
  rcases w0j.mp hy with rfl|hy
  ·exact⟨n,t,rfl⟩
  ·exact hi y hy
theorem x20:∀l:List Value,(∀v∈l,∃n t,v=Value.int n t)->l.mapM typeOf=(pure (l.map fun _=>Value.type "int"):Sem (List Value))
 |[],_=>by simp
 |v::l,h=>by
  obtain⟨n,t,rfl⟩:=h v (by simp);rw[List.mapM_cons,x20 l fun v hv=>h v (by simp[hv])]
  show(pure (Value.type "int") >>= fun x=>pure _ >>= fun xs=>pure (x::xs))=_
  simp
theorem y4k(hl:0<vs.length)(hv:∀v∈vs,∃p,PrAt s.heap v p){Q:SortKind->Shared->Prop}(q:Q (tuples' true) s):wpAny (model P W) A (keyKind' vs.toArray) Q E s:=by
 rw[keyKind'_eq,List.mapM_toArray,bind_map_left];refine wpAny_bind (x0x vs (fun v hm Q' q'=>?_) _ fun r hr hi=>?_)
 ·obtain⟨p,hp⟩:=hv v hm;exact x99 hp fun t=>q' _ t
 ·rw[if_pos (by
   simp only[List.all_toArray,w1c];intro x hx;obtain⟨n,t,rfl⟩:=hi x hx;rfl)]
  refine wpAny_bind (wpAny_rule ?_)
  have hf:∀v∈r.filterMap id,∃n t,v=Value.int n t:=fun v hv=>by
   obtain⟨x,hx,e⟩:=w2g.mp hv;obtain⟨n,t,rfl⟩:=hi x hx;exact⟨n,t,(Option.some.inj e).symm⟩
  have hlen:0<(r.filterMap id).length:=by
   cases r with
   |nil=>simp at hr;omega
   |cons x r=>
    obtain⟨n,t,rfl⟩:=hi x (by simp);simp
  rw[List.filterMap_toArray,oneTypeOnly'_eq,List.mapM_toArray,x20 _ hf];simp only[map_pure,pure_bind]
  have h0:((r.filterMap id).map fun _=>Value.type "int").toArray[0]?=some (Value.type "int"):=by
   cases hq:r.filterMap id with
   |nil=>rw[hq]at hlen;simp at hlen
   |cons v vs=>simp
  rw[h0]
  have ha:(((r.filterMap id).map fun _=>Value.type "int").toArray.all fun x=>x==Value.type "int")=true:=by
   simp only[List.all_toArray,List.all_map,w1c];intro _ _;rfl
  simp only[ha,if_true,pure_bind];exact wpAny_pure q
end
end L2
namespace D
open PySem L2 PySem.Spec PyProof.Rows
open Classical
variable{K:PySem.W.Frag}
def UpP:List (Nat×Nat)->Prop:=List.Pairwise fun a b=>a.1<b.1\/a.1=b.1/\a.2<b.2
noncomputable abbrev Ps:=List (Addr×Nat×Nat)
noncomputable def rdP(cs:Ps):Value->Option (Nat×Nat)
 |.ref a=>(cs.find? fun c=>c.1==a).map (·.2)
 |_=>none
theorem y8c{cs:Ps}{c:Addr×Nat×Nat}(h:c∈cs)(hu:∀c'∈cs,c'.1=c.1->c'.2=c.2):rdP cs (.ref c.1)=some c.2:=by
 show(cs.find? fun d=>d.1==c.1).map (·.2)=_
 cases e:cs.find? (fun d=>d.1==c.1)with
 |none=>
  have:=List.find?_eq_none.mp e c h;simp at this
 |some d=>
  have h1:=List.find?_some e;have h2:=w2z e;simp at h1;simp[hu d h2 h1]
theorem x21{cs:Ps}{v:Value}{r:Nat×Nat}(h:rdP cs v=some r):∃a,v=.ref a/\(a,r)∈cs:=by
 cases v with
 |ref a=>
  have h:(cs.find? fun c=>c.1==a).map (·.2)=some r:=h
  obtain⟨c,h1,h2⟩:=w0b.mp h;have h3:=List.find?_some h1;have h4:=w2z h1;simp at h3;refine⟨a,rfl,?_⟩;rw[<- h2,<- h3];exact h4
 |_=>cases h
theorem valsP:∀{cs:Ps}{its:List Value},Vals (cs.map fun c=>V.ref c.1) its->its=cs.map fun c=>Value.ref c.1
 |[],its,h=>by cases h;rfl
 |c::cs,its,h=>by
  cases h with
  |cons r t=>rw[valsP t];cases r;rfl
theorem refsP:∀cs:Ps,Vals (cs.map fun c=>V.ref c.1) (cs.map fun c=>Value.ref c.1)
 |[]=>.nil
 |c::cs=>.cons rfl (refsP cs)
theorem y4l{p:Nat×Nat}{its:List Value}(h:Vals [V.int p.1,V.int p.2] its):∃t u,its=[Value.int p.1 t,Value.int p.2 u]:=by
 cases h with
 |cons r1 h=>
  cases h with
  |cons r2 h=>
   cases h;obtain⟨t,rfl⟩:=r1;obtain⟨u,rfl⟩:=r2;exact⟨t,u,rfl⟩
def rSortP(K:PySem.W.Frag):List V->Hp->VK->Prop:=fun xs H Q=>∃p,∃cs:Ps,xs=[.ref p]/\SqL K H p (cs.map fun c=>V.ref c.1)/\cs.length<=1000000/\(∀c∈cs,SqT K H c.1 [.int c.2.1,.int c.2.2])/\UpP (cs.map (·.2))/\∀b,H b=none->Q (.ref b) (upd H b (.lst (cs.map fun c=>V.ref c.1)))
theorem x0y{X:Cx}:CallR X (.builtin "sorted") (rSortP X.K):=by
 intro pins s σ H xs us Q I r h;obtain⟨p,cs,rfl,hq,hn,hc,up,q⟩:=h;obtain⟨u,rfl,ru⟩:=vals1 r;cases ru;obtain⟨its,rv,pl,hz⟩:=I.list hq;obtain rfl:=valsP rv
 have uniq:∀c∈cs,∀c'∈cs,c'.1=c.1->c'.2=c.2:=fun c hm c' hm' e=>by
  have h1:=hc c hm;have h2:=hc c' hm';rw[e]at h2;have:=I.tuple_inj h2 h1;simp only[List.cons.injEq,V.int.injEq,and_true]at this;exact Prod.ext (by omega) (by omega)
 have rd:∀c∈cs,rdP cs (.ref c.1)=some c.2:=fun c hm=>y8c hm (uniq c hm)
 have tup:∀c∈cs,∀s':Shared,(∀b ob,s.heap.get? b=some ob->s'.heap.get? b=some ob)->PrAt s'.heap (.ref c.1) c.2:=fun c hm s' k=>by
  obtain⟨jts,r1,⟨o,e,cl,n,d⟩,_⟩:=I.tuple (hc c hm);obtain⟨t,u,rfl⟩:=y4l r1;exact⟨c.1,o,n,t,u,rfl,k _ _ e,cl,d⟩
 have key:∀(i:Nat)(hi:i<cs.length),KK (prKey (rdP cs)) (pairsOf (cs.map fun c=>Value.ref c.1)) i=[cs[i].2.1,cs[i].2.2]:=fun i hi=>by
  unfold KK
  have e:(pairsOf (cs.map fun c=>Value.ref c.1))[i]?=some (Value.ref cs[i].1,Value.ref cs[i].1):=by
   rw[<- w1m,pairsOf_toList,w2y.mpr];simp[hi]
  rw[e];show(((rdP cs (Value.ref cs[i].1)).map fun p=>[p.1,p.2]).getD _)=_
  rw[rd _ (w1l hi)];rfl
 have hsz:(pairsOf (cs.map fun c=>Value.ref c.1)).size=cs.length:=by rw[pairsOf_size,w0c]
 refine x1x (tk:=tuples' true) (o:=prKey (rdP cs)) pl.isList ?_ (by rw[w0c,sizeLine_eq];omega) ?_ ?_ ?_
 ·intro pr hp;rw[pairsOf_toList]at hp;obtain⟨e1,e2⟩:=mem_zip_self hp;obtain⟨c,hm,e3⟩:=w0z.mp e2;refine⟨[c.2.1,c.2.2],?_⟩;show(rdP cs pr.1).map (fun p=>[p.1,p.2])=_
  rw[<- e3,rd c hm];rfl
 ·intro i j hij hj;rw[hsz]at hj;rw[key i (by omega),key j hj];show decide ([cs[j].2.1,cs[j].2.2]<[cs[i].2.1,cs[i].2.2])=false;rcases w3x hij with z|z
  ·have:=List.pairwise_iff_getElem.mp up i j (by simpa using (show i<cs.length by omega)) (by simpa using hj) z;simp only[w2q]at this;rw[q6p,q6p];rcases this with h|⟨h,h'⟩
   ·rw[if_neg (by omega)];simp;omega
   ·rw[if_pos h.symm,if_neg (by omega)];simp;omega
  ·subst z;simp
 ·intro s' k h2 A';refine⟨fun E' x y a b Q' hx hy hq'=>?_,fun E' Q' hq'=>?_⟩
  ·obtain⟨rx,g1,rfl⟩:=w0b.mp (show(rdP cs x).map (fun p=>[p.1,p.2])=some a from hx)
   obtain⟨ry,g2,rfl⟩:=w0b.mp (show(rdP cs y).map (fun p=>[p.1,p.2])=some b from hy)
   obtain⟨ax,rfl,mx⟩:=x21 g1;obtain⟨ay,rfl,my⟩:=x21 g2;exact y98 true (tup _ mx s' k) (tup _ my s' k) hq'
  ·refine y4k (by omega) (fun v hv=>?_) hq'
   obtain⟨c,hm,rfl⟩:=w0z.mp hv;exact⟨c.2,tup c hm s' k⟩
 ·have out:(pairsOf (cs.map fun c=>Value.ref c.1)).map (·.2)=(cs.map fun c=>Value.ref c.1).toArray:=by
   rw[<- Array.toList_inj,Array.toList_map,pairsOf_toList];simp[List.map_snd_zip]
  rw[out];obtain⟨n,hat⟩:=PyProof.Rows.sortedAll_at s.heap (cs.map fun c=>Value.ref c.1) (cs.map fun c=>Value.ref c.1).toArray
  have fr:H (s.heap.objs.size+1)=none:=I.hok.fresh (w4c _);refine⟨.ref (s.heap.objs.size+1),_,I.laid (t':=s.toks) (a:=s.heap.objs.size+1) (o:=.lst (cs.map fun c=>V.ref c.1)) (fun b ob z=>PyProof.Rows.sortedAll_old z) (w4c _) ?_,rfl,q _ fr⟩
  refine⟨by rw[w0c,sizeLine_eq];omega,_,n,refsP cs,hat⟩
noncomputable def prN:W->Option (Nat×Nat)
 |.tup [.int (.ofNat i),.int (.ofNat j)]=>some (i,j)
 |_=>none
noncomputable def prNs:List W->Option (List (Nat×Nat))
 |[]=>some []
 |w::ws=>match prN w,prNs ws with
  |some p,some ps=>some (p::ps)
  |_,_=>none
noncomputable def sortedP1:List W->Option W
 |[.lst ws]=>match prNs ws with
  |some ps=>if ps.length<=1000000/\UpP ps then some (.lst ws)else none
  |none=>none
 |_=>none
theorem y4m{G:Hp}{w:W}{p:Nat×Nat}{v:V}(h:prN w=some p)(r:Rep K G w v):∃a,v=.ref a/\SqT K G a [.int p.1,.int p.2]:=by
 unfold prN at h;split at h
 ·cases h;obtain⟨a,xs,rfl,q,x,xr,rfl,p1,y,yr,rfl,p2,p3⟩:=r;cases(show x=V.int _ from p1);cases(show y=V.int _ from p2);cases(show yr=[]from p3);exact⟨a,rfl,q⟩
 ·cases h
theorem x0z{G:Hp}:∀{ws:List W}{ps:List (Nat×Nat)}{vs:List V},prNs ws=some ps->Reps K G ws vs->∃cs:Ps,cs.map (·.2)=ps/\vs=(cs.map fun c=>V.ref c.1)/\∀c∈cs,SqT K G c.1 [.int c.2.1,.int c.2.2]
 |[],ps,vs,h,r=>by cases h;exact⟨[],rfl,r,fun c hc=>nomatch hc⟩
 |w::ws,ps,vs,h,r=>by
  unfold prNs at h;split at h
  ·rename_i p ps0 h1 h2;cases h;obtain⟨x,ys,rfl,r1,r2⟩:=r;obtain⟨a,rfl,q⟩:=y4m h1 r1;obtain⟨cs,c1,rfl,c3⟩:=x0z h2 r2;refine⟨(a,p)::cs,by rw[w0v,c1],rfl,fun c hc=>?_⟩
   rcases w0j.mp hc with rfl|hc
   ·exact q
   ·exact c3 c hc
  ·cases h
theorem x4g:OpN K (rSortP K) sortedP1:=by
 intro G H xs ws w Q s pr hf h;unfold sortedP1 at hf;split at hf
 ·rename_i us;obtain⟨y,r,rfl,py,pr⟩:=pr;cases(show r=[]from pr);split at hf
  ·rename_i ps hps;split at hf
   ·rename_i hl;cases hf;obtain⟨a,zs,rfl,hq,rp⟩:=py;obtain⟨cs,c1,rfl,c3⟩:=x0z hps rp;subst c1;refine⟨a,cs,rfl,s.seq hq,by have:=hl.1;rw[w0c]at this;exact this,fun c hc=>s.tup (c3 c hc),hl.2,fun b hb=>?_⟩
    have g:=Grow.laid s hb (HO.lst (cs.map fun c=>V.ref c.1))
    exact h _ _ _ g ⟨b,_,rfl,SqL.of q0g,Reps.mono g.gg us rp⟩
   ·cases hf
  ·cases hf
 ·cases hf
section
variable{X:Cx}{Z:Zt}{EE:L2.St->XK}{e:Expr}{dA:Den (List W)}{pos p:Pos}
theorem x4h(hc:X.calm=true)(hm:X.mg "sorted"=none)(ha:DA Z X EE [e] dA)(hg:Gl X "sorted":=by rfl)(he:starEach [e] X.env=(false,eval e X.env)::starEach [] X.env:=by rfl)(hpl:(backTo pos (starEach [] X.env)).any (·.1)=false:=by rfl):DE Z X EE (.Call (.Name "sorted" p) [e] [] pos) (dFn sortedP1 dA):=
 q3w x0y x4g PyProof.Rows.Boot.«sorted» hm ha hg (by decide) (by decide) he hpl
end
theorem x67{ws:List W}{ps:List (Nat×Nat)}(h:prNs ws=some ps)(h1:ps.length<=1000000)(h2:UpP ps):sortedP1 [.lst ws]=some (.lst ws):=by
 show(match prNs ws with|some ps=>if ps.length<=1000000/\UpP ps then some (W.lst ws)else none|none=>none)=_;rw[h];exact if_pos ⟨h1,h2⟩
end D
namespace L2
open PySem PySem.Spec PyProof.Rows
theorem x4i{prog:Program}{w:World}{h₀:Heap}{a:Addr}{o:Obj}{es:Array DictEntry}{n:Nat}{kvs:List (PyData×PyData)}{as bs:List Addr}(h1:h₀.get? a=some o)(h2:o.cls=.type "dict")(h3:o.data=.dict es n)
  (h4:ReadsAll h₀ (es.toList.map (·.key)) (kvs.map (·.1)) as)(h5:ReadsAll h₀ (es.toList.map (·.val)) (kvs.map (·.2)) bs)(hs:(PyData.dict kvs).showable=true)(hd1:PyData.hasDictAll (kvs.map (·.1))=false)(hd2:PyData.hasDictAll (kvs.map (·.2))=false)
  (hsys:(a==sysModules)=false)(hsz:(PyData.dict kvs).shown.length<=sizeLine):ShowsBy prog w h₀ a (.dict kvs) "dict" "dict.__repr__":=by
 have hz':(dictText (PyData.shownKv kvs)).length<=sizeLine:=by simpa only[PyData.shown]using hsz
 obtain⟨hs1,hs2⟩:=PyData.showableKv_split kvs (by simpa [PyData.showable]using hs);obtain⟨b1,hb1,k1⟩:=ReprAllK.of_readsAll (prog:=prog) (w:=w) h4 hs1 (fun z _=>by rw[hd1]at z;cases z) (fun t ht=>let ⟨p,hp,hl⟩:=PyData.shownKv_key_le kvs t ht;w0u hl (w0u (dictText_mem_le hp) hz'))
 obtain⟨b2,hb2,k2⟩:=ReprAllK.of_readsAll (prog:=prog) (w:=w) h5 hs2 (fun z _=>by rw[hd2]at z;cases z) (fun t ht=>let ⟨p,hp,hl⟩:=PyData.shownKv_val_le kvs t ht;w0u hl (w0u (dictText_mem_le hp) hz'))
 have hb:ReadAtMost h₀ (PyData.depthKv kvs) (b1++b2):=(hb1.mono (PyData.depthAll_keys_le kvs)).append (hb2.mono (PyData.depthAll_vals_le kvs));have hna:a∉b1++b2:=not_mem_of_deeper (.dict h1 h2 h3 h4 h5) (by simp only[PyData.depth];omega) hb;refine⟨F.slot_dict_repr,F.slot_dict_str,F.slot_dict_format,fun s hk0=>⟨o,hk0 _ _ h1,h2⟩,fun A E s Q hg hu hk0 hQ=>?_⟩
 simp only[PyData.depth]at hu;simp only[PyData.shown,PyData.shownKv_eq]at hQ
 exact call_dict_reprK h1 h2 h3 hsys hna (ReprEntriesK.of_two es.toList _ _
  (k1.more_le (fun b hb=>w1h _ hb) (PyData.depthAll_keys_le kvs)) (k2.more_le (fun b hb=>w0o _ hb) (PyData.depthAll_vals_le kvs))) hg (fun b _=>Clear.nil b) hu hk0 hQ (by rw[<- PyData.shownKv_eq];exact hz')
end L2
namespace D
open PySem L2 PySem.Spec PyProof.Rows
open Classical
variable{X:Cx}
mutual
noncomputable def kxD:Kx->PyData
 |.non=>.none
 |.bl b=>.bool b
 |.int i=>.int i
 |.str x=>.str x
 |.tup ks=>.tuple (kxDs ks)
noncomputable def kxDs:List Kx->List PyData
 |[]=>[]
 |k::ks=>kxD k::kxDs ks
end
section
variable{pins:List (Addr×Obj)}{σ:L2.St}{H:Hp}{s:Shared}
mutual
theorem x00(I:Inv X pins σ H s):∀(k:Kx){v:V}{u:Value},KRep H k v->RelV v u->∃as,Reads s.heap u (kxD k) as
 |.non,v,u,p,r=>by cases(show v=.non from p);cases(show u=Value.none from r);exact⟨_,.none⟩
 |.bl b,v,u,p,r=>by cases(show v=.bl b from p);cases(show u=Value.bool b from r);exact⟨_,.bool b⟩
 |.int i,v,u,p,r=>by cases(show v=.int i from p);obtain⟨t,rfl⟩:=(show ∃t,u=Value.int i t from r);exact⟨_,.int i t⟩
 |.str x,v,u,p,r=>by cases(show v=.str x from p);obtain⟨t,rfl⟩:=(show ∃t,u=Value.str x t from r);exact⟨_,.str x t⟩
 |.tup ks,v,u,p,r=>by
  obtain⟨a,xs,rfl,q,rs⟩:=p;cases(show u=Value.ref a from r);obtain⟨its,rv,⟨o,ho,hc,n,hd⟩,_⟩:=I.tuple (show SqT X.K H a xs from .inl q);obtain⟨as,ra⟩:=q9a I ks rs rv;exact⟨_,.tuple ho hc hd (by simpa using ra)⟩
theorem q9a(I:Inv X pins σ H s):∀(ks:List Kx){vs:List V}{us:List Value},KReps H ks vs->Vals vs us->∃as,ReadsAll s.heap us (kxDs ks) as
 |[],vs,us,p,r=>by cases(show vs=[]from p);cases r;exact⟨_,.nil⟩
 |k::ks,vs,us,p,r=>by
  obtain⟨x,xr,rfl,p1,p2⟩:=p;cases r with
  |cons r1 r2=>
   obtain⟨as,q1⟩:=x00 I k p1 r1;obtain⟨bs,q2⟩:=q9a I ks p2 r2;exact⟨_,.cons q1 q2⟩
end
mutual
theorem x4j:∀k:Kx,(kxD k).hasDict=false
 |.non=>rfl
 |.bl _=>rfl
 |.int _=>rfl
 |.str _=>rfl
 |.tup ks=>q4v ks
theorem q4v:∀ks:List Kx,PyData.hasDictAll (kxDs ks)=false
 |[]=>rfl
 |k::ks=>by
  show((kxD k).hasDict||PyData.hasDictAll (kxDs ks))=false;rw[x4j k,q4v ks];rfl
end
theorem x01:∀ks:List Kx,kxDs ks=ks.map kxD
 |[]=>rfl
 |k::ks=>by rw[w0v,<- x01 ks];rfl
theorem q7w(I:Inv X pins σ H s){sh:Sh}:∀{kvs:List (Kx×V)}{xs:List (Kx×Addr×Value)}{ws:List W}{ds:List PyData}{G:Hp},Same G H ->
  Paired (fun(p:Kx×V) (q:Kx×Addr×Value)=>p.1=q.1/\(KRep H p.1 (.ref q.2.1)/\Conf p.1 sh/\p.1.depth<=7)/\RelV p.2 q.2.2) kvs xs->Reps X.K G ws (kvs.map (·.2))->toDs ws=some ds ->
  (∃as,ReadsAll s.heap (xs.map fun q=>Value.ref q.2.1) ((kvs.map (·.1)).map kxD) as)/\∃bs,ReadsAll s.heap (xs.map fun q=>q.2.2) ds bs
 |[],xs,ws,ds,G,sg,p,rp,hd=>by
  cases p;cases ws with
  |nil=>cases hd;exact⟨⟨_,.nil⟩,_,.nil⟩
  |cons w ws=>obtain⟨_,_,z,_⟩:=rp;cases z
 |q::kvs,xs,ws,ds,G,sg,p,rp,hd=>by
  cases p with
  |cons h t=>
   cases ws with
   |nil=>cases(show _=[]from rp)
   |cons w ws=>
    obtain⟨v,vr,e,r1,r2⟩:=rp;injection e with e1 e2
    subst e1 e2;unfold toDs at hd;split at hd
    ·rename_i d0 ds0 g1 g2;cases hd;obtain⟨⟨as,i1⟩,bs,i2⟩:=q7w I sg t r2 g2;obtain⟨as0,j1⟩:=x00 I q.1 h.2.1.1 (show RelV (.ref _) (Value.ref _)from rfl);obtain⟨bs0,j2⟩:=q59 I sg w r1 h.2.2 g1;exact⟨⟨_,.cons j1 i1⟩,_,.cons j2 i2⟩
    ·cases hd
end
noncomputable def zipD:List Kx->List PyData->List (PyData×PyData)
 |k::ks,d::ds=>(kxD k,d)::zipD ks ds
 |_,_=>[]
theorem x68:∀{ks:List Kx}{ds:List PyData},ks.length=ds.length->(zipD ks ds).map (·.1)=ks.map kxD
 |[],[],_=>rfl
 |k::ks,d::ds,h=>by show kxD k::(zipD ks ds).map (·.1)=_;rw[x68 (by simpa using h)];rfl
 |[],_::_,h=>nomatch h
 |_::_,[],h=>nomatch h
theorem x69:∀{ks:List Kx}{ds:List PyData},ks.length=ds.length->(zipD ks ds).map (·.2)=ds
 |[],[],_=>rfl
 |k::ks,d::ds,h=>by show d::(zipD ks ds).map (·.2)=_;rw[x69 (by simpa using h)]
 |[],_::_,h=>nomatch h
 |_::_,[],h=>nomatch h
noncomputable def dtD(ks:List Kx)(ws:List W):Option PyData:=(toDs ws).map fun ds=>.dict (zipD ks ds)
theorem x02:∀{ws:List W}{ds:List PyData},toDs ws=some ds->ds.length=ws.length
 |[],ds,h=>by cases h;rfl
 |w::ws,ds,h=>by
  unfold toDs at h;split at h
  ·rename_i d0 ds0 g1 g2;cases h;rw[w0p,w0p,x02 g2]
  ·cases h
theorem x4k{prog:Program}{w:World}{A:Around}{E:Value->Shared->Prop}{s:Shared}{a:Addr}{d:PyData}{Q:Value->Shared->Prop}(hu:A.units+150<cLine)(hg:A.guards=some [])(S:ShowsBy prog w s.heap a d "dict" "dict.__repr__")(hu2:A.units+1+d.depth<cLine)
  (hQ:∀h' u tk,(∀b o,s.heap.get? b=some o->h'.get? b=some o)->Q (.str d.shown u) {s with heap:=h',toks:=tk}):wpAny (model prog w) A (call (.builtin "repr") [.ref a]) Q E s:=
 call_repr_slot (by omega) (S.typeIs s fun _ _ z=>z) S.slotRepr (S.call A.in1 E s _ hg hu2 (fun _ _ z=>z) fun h' u tk hk=>⟨_,_,rfl,hQ h' u tk hk⟩)
def rReprD(K:PySem.W.Frag):List V->Hp->VK->Prop:=fun xs H Q=>∃x fz sh ks ws d G,xs=[x]/\Same G H/\Rep K G (.dw fz sh ks ws) x/\sh.isI=false/\dtD ks ws=some d/\d.showable=true/\d.depth<=100/\d.shown.length<=sizeLine/\Q (.str d.shown) H
theorem x4l(hu:X.A.units+150<cLine)(hg:X.A.guards=some []):CallR X (.builtin "repr") (rReprD X.K):=by
 intro pins s σ H xs us Q I r h;obtain⟨x,fz,sh,ks,ws,d,G,rfl,sg,⟨a,kvs,kas,rfl,h1,rfl,h3,h4⟩,hI,hd,g1,g2,g3,q⟩:=h;obtain⟨u,rfl,rx⟩:=vals1 r;cases(show u=Value.ref a from rx);obtain⟨ds,hds,rfl⟩:=w0b.mp hd;have rd:=h1.rd sg;rw[q2p hI]at rd;obtain⟨_,hy,ys,pr,_,o,es,ep,k1,k2,k3,k4,_⟩:=(show ObjOk X.prog X.w H s.heap a (.dT sh kvs kas)from q9w I.hok rd);obtain⟨⟨as,i1⟩,bs,i2⟩:=q7w I sg pr h4 hds
 have hl:(kvs.map (·.1)).length=ds.length:=by
  have e1:=x02 hds;have e2:=h4.length;rw[w0c]at e2 |-
  omega
 have ek:es.toList.map (·.key)=ys.map fun q=>Value.ref q.2.1:=by rw[k4,w1u];rfl
 have ev:es.toList.map (·.val)=ys.map fun q=>q.2.2:=by rw[k4,w1u];rfl
 obtain⟨kd,e0,e1,e2⟩:∃kd,zipD (kvs.map (·.1)) ds=kd/\kd.map (·.1)=(kvs.map (·.1)).map kxD/\kd.map (·.2)=ds:=⟨_,rfl,x68 hl,x69 hl⟩;rw[e0]at g1 g2 g3 q
 clear e0 hd
 rw[<- e1,<- ek]at i1;rw[<- e2,<- ev]at i2;have d1:PyData.hasDictAll (kd.map (·.1))=false:=by rw[e1,<- x01];exact q4v _
 have d2:PyData.hasDictAll (kd.map (·.2))=false:=by rw[e2];exact noDicts.go ws hds
 have hu2:X.A.units+1+(PyData.dict kd).depth<cLine:=by omega
 have S:=x4i (prog:=X.prog) (w:=X.w) k1 k2.1 k3 i1 i2 g1 d1 d2 hy g3;generalize PyData.dict kd=dd at S hu2 q;exact x4k hu hg S hu2 fun h' u tk hk=>⟨.str _,H,I.kept (t':=tk) hk,⟨u,rfl⟩,q⟩
noncomputable def reprD1:List W->Option W
 |[.dw _ sh ks ws]=>if sh.isI=true then none else(dtD ks ws).bind fun d=>if d.showable=true/\d.depth<=100/\d.shown.length<=16777216 then some (.str d.shown)else none
 |_=>none
theorem y0a{K:PySem.W.Frag}:OpN K (rReprD K) reprD1:=by
 intro G H xs ws w Q s pr hf h;unfold reprD1 at hf;split at hf
 ·rename_i fz sh ks vs;obtain⟨x,r,rfl,px,pr⟩:=pr;cases(show r=[]from pr);split at hf
  ·cases hf
  rename_i hI;obtain⟨d,hd,hf⟩:=w1v.mp hf;split at hf
  ·rename_i hc;cases hf;exact⟨x,fz,sh,ks,vs,d,G,rfl,s,px,by simpa using hI,hd,hc.1,hc.2.1,by rw[sizeLine_eq];exact hc.2.2,h G _ H (.refl s) rfl⟩
  ·cases hf
 ·cases hf
noncomputable def isiD(K:PySem.W.Frag)(cv:Value):W->Option W
 |.dw _ sh _ _=>if sh.isI=true then none else(kitOne K (.type "dict") cv).map .bl
 |_=>none
noncomputable def dIsiD(K:PySem.W.Frag)(cv:Value)(d:Den W):Den W:=fun e=>(d e).bind fun w e1=>ofOpt (isiD K cv w) e1
theorem x03{cv:Value}{c:V}(hc:ClsV c cv):CallR X (.builtin "isinstance") (fun xs H Q=>∃a sh kvs kas b,xs=[.ref a,c]/\Rd H a (.dT sh kvs kas)/\kitOne X.K (.type "dict") cv=some b/\Q (.bl b) H):=by
 intro pins s σ H xs us Q I r h;obtain⟨a,sh,kvs,kas,b,rfl,rd,hi,q⟩:=h;obtain⟨u,u2,rfl,rx,rc⟩:=vals2 r
 have ec:u2=cv:=by
  cases c with
  |ty n=>exact(show u2=Value.type n from rc).trans (show cv=Value.type n from hc).symm
  |ref a=>exact(show u2=Value.ref a from rc).trans (show cv=Value.ref a from hc).symm
  |_=>exact hc.elim
 subst ec;cases(show u=Value.ref a from rx);obtain⟨_,_,ys,_,_,o,es,ep,h1,h2,_⟩:=(show ObjOk X.prog X.w H s.heap a (.dT sh kvs kas)from q9w I.hok rd);exact kia_one PySem.W.kitx_dict I.kIn ⟨o,h1,h2.1⟩ hi (fun z=>nomatch z) fun tk=>⟨.bl b,H,I.tok _,rfl,q⟩
section
variable{Z:Zt}{EE:L2.St->XK}{a b c e k o:Expr}{es:List Expr}{da db d dk:Den W}{dA:Den (List W)}{pos p tpos:Pos}{x y:Str}{ss:List Stmt}{ds:List S->SR}
theorem q5q(hu:X.A.units+150<cLine)(hgd:X.A.guards=some [])(hm:X.mg "repr"=none)(ha:DA Z X EE [e] dA)(hg:Gl X "repr":=by rfl)(he:starEach [e] X.env=(false,eval e X.env)::starEach [] X.env:=by rfl)(hpl:(backTo pos (starEach [] X.env)).any (·.1)=false:=by rfl):DE Z X EE (.Call (.Name "repr" p) [e] [] pos) (dFn reprD1 dA):=
 q3w (x4l hu hgd) y0a PyProof.Rows.Boot.«repr» hm ha hg (by decide) (by decide) he hpl
theorem y4n{cv:Value}{c0:V}(hc:ClsV c0 cv)(hcl:PE X c (tC c0))(hm:X.mg "isinstance"=none)(he:DE Z X EE e da)(hg:Gl X "isinstance":=by rfl)(hs:starEach [e,c] X.env=(false,eval e X.env)::starEach [c] X.env:=by rfl)(hs2:starEach [c] X.env=(false,eval c X.env)::starEach [] X.env:=by rfl)(hpl:(backTo pos (starEach [c] X.env)).any (·.1)=false:=by rfl):
  DE Z X EE (.Call (.Name "isinstance" p) [e,c] [] pos) (dIsiD X.K cv da):=by
 refine PE.mono (q64 (x03 hc) hg hm PyProof.Rows.Boot.«isinstance» (q17 he (q17 hcl q38 hs2) hs) (by decide) (by decide) hs hpl) ?_;rintro σ H Q ⟨G,e,rel,h⟩;simp only[dIsiD,R.holds_bind]at h;refine⟨G,e,rel,h.imp (fun w e1 h G1 v1 H1 r1 s1 p1=>?_) fun _ _ h=>h⟩
 rw[ofOpt_holds]at h;obtain⟨w2,hw,h⟩:=h;unfold isiD at hw;split at hw
 ·rename_i fz sh ks ws;split at hw
  ·cases hw
  rename_i hI;obtain⟨b,hb,rfl⟩:=w0b.mp hw;obtain⟨a,kvs,kas,rfl,h1,_⟩:=p1;have rd:=h1.rd r1.sub;rw[q2p (by simpa using hI)]at rd;exact⟨a,sh,kvs,kas,b,rfl,rd,hb,h G1 _ H1 r1 s1 rfl⟩
 ·cases hw
noncomputable def putNC(i:Nat)(w kw:W)(e:List S):Option S->SR
 |some (.dw sh ks ws)=>match keyT kw with
  |some x=>if ks.length<16777216/\(e.set i .no).all (fun s=>!isDw s)=true/\fits x sh/\lkW ks ws x=none/\sh.isN=true then .nx (e.set i (.dw sh (ks++[x]) (ws++[w])))else .no
  |none=>.no
 |_=>.no
noncomputable def putN0(i:Nat)(dk:Den W)(w:W)(e1:List S):Option S->SR
 |some (.dw _ _ _)=>(dk e1).stm fun kw e2=>putNC i w kw e2 e2[i]?
 |_=>.no
noncomputable def dPutNw(i:Nat)(d dk:Den W):List S->SR:=fun e=>(d e).stm fun w e1=>putN0 i dk w e1 e1[i]?
theorem RepsX.ns{K:PySem.W.Frag}{G:Hp}{sh:Sh}{ws:List W}{vs:List V}(hs:sh.isN=true):RepsX K Z G sh ws vs=RepNs K Z G ws vs:=if_pos hs
theorem y0b(i:Nat)(hK:NoTup X.K)(hu:X.A.units+150<cLine)(he:DN Z X EE e d)(hk:DE Z X EE k dk)(hN:X.N[i]?=some x:=by rfl)(hv:Vis X.env.scope x:=by walk_at "1")(hd:(x==("__debug__":Str))=false:=by decide)(hcd:(x==("__classdict__":Str))=false:=by decide)
  (hs:swapsWith e (some (.Subscript (.Name x p) k tpos)) pos.line X.env=pure false:=by rfl):DS Z X EE (.Assign [.Subscript (.Name x p) k tpos] e pos) (dPutNw i d dk):=by
 refine PS.mono (x2t (by omega) (pv i hN hv hd hcd) hk he hs) ?_;rintro D σ H ⟨G,e,rel,h⟩;refine⟨G,e,rel,(q0r h).imp (fun w e1 h G1 v1 H1 r1 s1 p1=>?_) fun _ _ h=>h⟩
 unfold putN0 at h;split at h
 ·rename_i sh0 ks0 ws0 he0;obtain⟨a,kvs0,kas0,q1,q2,_⟩:=r1.dw he0;refine⟨.ref a,q1,G1,e1,r1,(q0r (σ:=σ) h).imp (fun kw e2 h G2 v2 H2 r2 s2 p2=>?_) fun _ _ h G' H' r s=>h G' H' r (s1.trans s)⟩
  unfold putNC at h;split at h
  ·rename_i sh ks ws he2;obtain⟨a',kvs,kas,g1,g2,g3,g4,g5,g6,g7⟩:=r2.dwX he2;rw[q1]at g1;cases g1;split at h
   ·rename_i t hk1;split at h
    ·rename_i hc;obtain⟨b,rfl,kr⟩:=q4e hK (.refl G2) hk1 p2;have krH:KRep H2 t (.ref b):=KRep.keeps (fun _ _ _ z=>r2.sub _ _ z) t kr
     subst g5;have hI:=noI kr hc.2.2.1;rw[q2p hI]at g2;have hnew:valV kvs t=none:=(q7t g7.reps).2 hc.2.2.2.1;refine⟨a,_,rfl,DPut.t g2 ⟨krH,hc.2.2.1⟩ (by rw[sizeLine_eq];have:=hc.1;rw[w0c]at this;exact this),?_⟩;rw[x0q v1 hnew,show putAd kvs kas t b=kas++[b] by unfold putAd;rw[hnew];rfl,<- q2p hI];refine h G2 σ _ (r2.mutDw (ks':=kvs.map (·.1)++[t]) (ws':=ws++[w]) he2 q1 (fun s hs=>?_) (by rw[w0t];rfl) (.of (KeysG.snoc kr (g6.g hI)) hI) ?_) (s1.trans s2)
     ·have:=w1c.mp hc.2.1 s hs;simpa using this
     ·rw[w0t,RepsX.ns hc.2.2.2.2];rw[RepsX.ns hc.2.2.2.2]at g7;exact RepNs.append g7 ⟨v1,[],rfl,RepN.move s2 (fun _ _ _ z=>z) w p1,rfl⟩
    ·exact h.elim
   ·exact h.elim
  ·exact h.elim
 ·exact h.elim
noncomputable def retND(e:List S)(i:Nat):Option S->SR
 |some (.dw sh ks ws)=>if sh.isN=true then .rt (.x (.new (.dw true sh ks ws))) (e.map fun _=>.no)else .no
 |_=>.no
noncomputable def dRetND(i:Nat):List S->SR:=fun e=>retND e i e[i]?
theorem y0c(i:Nat)(hio:Z.io=[])(hN:X.N[i]?=some x:=by rfl)(hv:Vis X.env.scope x:=by walk_at "1")(hd:(x==("__debug__":Str))=false:=by decide)(hcd:(x==("__classdict__":Str))=false:=by decide):
  DS Z X EE (.Return (some (.Name x p)) pos) (dRetND i):=by
 refine PS.mono (q52 (y3y (pv i hN hv hd hcd))) ?_;rintro D σ H ⟨G,e,rel,h⟩;unfold dRetND retND at h;split at h
 ·rename_i sh ks ws hw;split at h
  ·rename_i hN';obtain⟨a,kvs,kas,h1,h2,h3,h4,h5,h6,h7⟩:=rel.dwX hw;refine⟨.ref a,h1,a,sh,kvs,kas,rfl,h2,fun o=>?_⟩
   have sg:Same G (upd G a (.frz o (dwO sh kvs kas))):=q2t h3 _;rw[RepsX.ns hN']at h7;refine h (upd G a (.frz o (dwO sh kvs kas))) σ (.ref a) _ ⟨fun c u z=>?_,fun j t z=>?_,by rw[w0c];exact rel.len,fun j k b1 b2 w1 w2 c z1 _ _ _=>?_,fun c u z n=>?_,fun c z=>(by rw[hio]at z;cases z),fun c z=>?_⟩ sg ⟨.ref a,rfl,a,kvs,kas,rfl,⟨o,q0g⟩,h4,h5,h6.mono sg,RepNs.move sg (fun _ _ _ z=>z) ws h7⟩
   ·by_cases hc:c=a
    ·subst hc;rw[q0g]at z |-;exact z
    ·rw[q0b hc]at z |-;exact rel.sub _ _ z
   ·rw[w0f]at z;obtain⟨s0,_,rfl⟩:=w0b.mp z;trivial
   ·rw[w0f]at z1;obtain⟨s0,_,z2⟩:=w0b.mp z1;cases z2
   ·rw[q0b (q0l z h4)];exact rel.ent c u z n
   ·rw[q0b (fun y=>z (by rw[y];exact h4))];exact rel.gen c z
  ·exact h.elim
 ·exact h.elim
end
end D
namespace Att
open PySem PySem.W PySem.Calls PyProof.Rows
end Att
namespace L2
open PySem PySem.Spec PyProof.Rows
end L2
namespace D
open PySem L2
end D
namespace L2
open PySem PySem.Spec PyProof.Rows
end L2
namespace D
open PySem L2
end D
namespace L2
open PySem PySem.Spec PyProof.Rows
end L2
namespace D
open PySem L2
end D
namespace L2
open PySem PySem.Spec PyProof.Rows
namespace RevT
end RevT
open PySem PySem.Spec PyProof.Rows
end L2
namespace D
open PySem L2
section
variable{X:Cx}{Z:Zt}{EE:L2.St->XK}{o e:Expr}{d:Den W}{dA:Den (List W)}
noncomputable def listWK(e:List S):W->R (List W)
 |.dw _ _ ks _=>.ok (ks.map wK) e
 |_=>.no
noncomputable def dListW(d:Den W):Den (List W):=fun e=>(d e).bind fun w e1=>listWK e1 w
theorem x04{lp lpos:Pos}(hc:X.calm=true)(hm:X.mg "list"=none)(he:DE Z X EE e d)(hg2:Gl X "list":=by rfl)(he2:starEach [e] X.env=(false,eval e X.env)::starEach [] X.env:=by rfl)(hpl2:(backTo lpos (starEach [] X.env)).any (·.1)=false:=by rfl):
  DF Z X EE (.Call (.Name "list" lp) [e] [] lpos) (dListW d):=by
 refine PE.mono (q4l (q7u hc) hg2 hm PyProof.Rows.Boot.«list» (q17 he q38 he2) (by decide) (by decide) he2 hpl2) ?_;rintro σ H Q ⟨G,e,rel,h⟩;simp only[dListW,R.holds_bind]at h;refine⟨G,e,rel,h.imp (fun w e1 h G1 v1 H1 r1 s1 p1=>?_) fun _ _ h=>h⟩
 cases w with
 |dw fz sh ks ws=>
  obtain⟨a,kvs,kas,rfl,h2,h5,h6,h7⟩:=p1;exact⟨a,sh,kvs,kas,rfl,h2.rd r1.sub,q5i r1 s1 (x4a h5 h6) h⟩
 |_=>exact h.elim
theorem y0d{e:List S}:dListW d e=(d e).bind fun w e1=>listWK e1 w:=rfl
theorem x7a{e:List S}{fz:Bool}{sh:Sh}{ks:List Kx}{vs:List W}:listWK e (.dw fz sh ks vs)=.ok (ks.map wK) e:=rfl
end
open PySem L2 PySem.Spec PyProof.Rows
open Classical
variable{X:Cx}{dA:Den (List W)}{G:Hp}{EE:L2.St->XK}{ks:List Kx}{js:List Nat}{e:List S}{pos:Pos}{K:PySem.W.Frag}{sh:Sh}{x y:Str}{Z:Zt}
theorem x22{k:Kx}:∀{kvs:List (Kx×V)},k∈kvs.map (·.1)->∃v,valV kvs k=some v/\v∈kvs.map (·.2)
 |[],h=>nomatch h
 |p::kvs,h=>by
  by_cases e:p.1=k
  ·exact⟨p.2,q4d e,w0s ..⟩
  ·rcases w0j.mp h with z|z
   ·exact absurd z.symm e
   ·obtain⟨v,h1,h2⟩:=x22 z;exact⟨v,by rw[q3o e];exact h1,w0m _ h2⟩
theorem RepNs.mem:∀{ws:List W}{vs:List V},RepNs K Z G ws vs->∀v∈vs,∃w∈ws,RepN K Z G w v
 |[],_,h,v,m=>by rw[show _=[]from h]at m;cases m
 |w::ws,_,⟨x,r,e,p,q⟩,v,m=>by
  subst e;rcases w0j.mp m with rfl|m
  ·exact⟨w,w0s ..,p⟩
  ·obtain⟨w',h1,h2⟩:=RepNs.mem q v m;exact⟨w',w0m _ h1,h2⟩
theorem KeysG.at:∀{ks:List Kx}{bs:List Addr}{n:Nat}{b:Addr},KeysG G ks bs->bs[n]?=some b->∃k∈ks,KRep G k (.ref b)
 |[],[],_,_,_,h=>nomatch h
 |k::ks,b0::bs,0,b,g,h=>by cases h;exact⟨k,w0s ..,g.1⟩
 |k::ks,b0::bs,n+1,b,g,h=>by
  obtain⟨k',h1,h2⟩:=KeysG.at g.2 h;exact⟨k',w0m _ h1,h2⟩
 |[],_::_,_,_,g,_=>g.elim
 |_::_,[],_,_,g,_=>g.elim
theorem KeysG.length:∀{ks:List Kx}{bs:List Addr},KeysG G ks bs->bs.length=ks.length
 |[],[],_=>rfl
 |k::ks,b::bs,h=>by rw[w0p,w0p,KeysG.length h.2]
 |[],_::_,h=>h.elim
 |_::_,[],h=>h.elim
def GrownL(Z:Zt)(l:Addr)(H H':Hp)(n:Nat):Prop:=∀c o,H c=some o->H' c=some o\/(∃xs ys,o=.lst xs/\Z.H c=none/\c≠l/\H' c=some (.lst ys)/\ys.length<=xs.length+n)
noncomputable def appAll(j:Nat)(ds:List S->SR)(e:List S):Option S->SR
 |some (.x (.new (.dw true sh ks ws)))=>if j<e.length/\sh.isI=false/\ks.length<1000000/\(∀k∈ks,fits k sh)/\(∀w∈ws,∃us,w=.lst us/\us.length<1000000)then ds ((e.set j .no).map rew)else .no
 |_=>.no
noncomputable def dAppAll(i j:Nat)(ds:List S->SR):List S->SR:=fun e=>appAll j ds e e[i]?
section
variable{ss:List Stmt}{ds:List S->SR}{xp yp yp2 xp2 lp cp sp ap cp2 pos2 kp:Pos}{kk:Nat}
theorem x1y(i j:Nat)(hK:NoTup X.K)(hu:X.A.units+150<cLine)(hG:Same Z.G Z.H)(hio:Z.io=[])(hNd:X.N.Nodup)(hp:PassesOwn (model X.prog X.w) X.A X.env X.xe)(hc:X.calm=true)(hm:X.mg "list"=none)(h:DSsW Z X EE ss ds)
  (hij:i≠j:=by decide)(hN:X.N[i]?=some y:=by rfl)(hv:Vis X.env.scope y:=by walk_at "1")(hd:(y==("__debug__":Str))=false:=by decide)(hcd:(y==("__classdict__":Str))=false:=by decide)
  (hNx:X.N[j]?=some x:=by rfl)(hvx:Vis X.env.scope x:=by walk_at "1")(hdx:(x==("__debug__":Str))=false:=by decide)(hcdx:(x==("__classdict__":Str))=false:=by decide)
  (hx:Loc X.env.scope x:=by walk_at "3")(hf:X.fn x=true\/X.env.scope.names.lookup x=some .local:=by walk_at "2")
  (hg2:Gl X "list":=by rfl)(he2:starEach [.Name y yp] X.env=(false,eval (.Name y yp) X.env)::starEach [] X.env:=by rfl)(hpl2:(backTo cp (starEach [] X.env)).any (·.1)=false:=by rfl)
  (hsf:∀z,foldedSetIterable (.Call (.Name "list" lp) [.Name y yp] [] cp) X.env z=pure z:=by intro _;rfl)
  (hns:NoSl (.Name x xp2):=by intro _ _;rfl)
  (hb:attributeBase (.Subscript (.Name y yp2) (.Name x xp2) sp) "append" X.env (eval (.Subscript (.Name y yp2) (.Name x xp2) sp) X.env)=eval (.Subscript (.Name y yp2) (.Name x xp2) sp) X.env:=by rfl)
  (hfew:((backTo cp2 (starEach [.Constant (.int 0) kk kp] X.env)).all (fun x=>!x.1)&&(backToKw cp2 (keywordEach [] X.env)).all (fun x=>x.1.isSome)&&decide (([.Constant (.int 0) kk kp]:List Expr).length+([]:List Keyword).length+(if([]:List Keyword).isEmpty then 0 else 1)<30))=true:=by rfl)
  (hl2:(ap.endLine==cp2.line)=true:=by rfl)(hs:starEach [.Constant (.int 0) kk kp] X.env=(false,eval (.Constant (.int 0) kk kp) X.env)::starEach [] X.env:=by rfl)(hpl:(backTo cp2 (starEach [] X.env)).any (·.1)=false:=by rfl)
  (hw:swapsWith (.Call (.Attribute (.Subscript (.Name y yp2) (.Name x xp2) sp) "append" ap) [.Constant (.int 0) kk kp] [] cp2) none pos2.line X.env=pure false:=by rfl):
  DSsW Z X EE (.For (.Name x xp) (.Call (.Name "list" lp) [.Name y yp] [] cp) [.Expr (.Call (.Attribute (.Subscript (.Name y yp2) (.Name x xp2) sp) "append" ap) [.Constant (.int 0) kk kp] [] cp2) pos2] [] pos::ss) (dAppAll i j ds):=by
 refine PSs.mono (q63 (q53 hp hc (q7o (q4l (q7u hc) hg2 hm PyProof.Rows.Boot.«list» (q17 (pv i hN hv hd hcd) q38 he2) (by decide) (by decide) he2 hpl2)) (q27 j hNd hNx hx hf) (q8b (q4x (x5h (x2s (by omega) (pv i hN hv hd hcd) (pv j hNx hvx hdx hcdx) hns) (q17 q92 q38 hs) hb hfew hl2 hs hpl) hw)) hsf) h) ?_;rintro D σ H ⟨G,e,rel,h⟩;unfold dAppAll appAll at h;split at h
 ·rename_i sh ks ws hei;split at h
  ·rename_i hcnd;obtain⟨hje,hI,hkl,hfit,hwl⟩:=hcnd;obtain⟨u,g1,a,kvs,kas,rfl,⟨ob,hD⟩,_,hks,hkg,hrn⟩:=rel.slot i _ hei;have hvi:σ[i]?=some (some (.ref a)):=rel.at hei fun _=>g1
   have hkg:=hkg.g hI;rw[q2p hI]at hD;have HD:=rel.sub _ _ hD;subst hks;refine⟨.ref a,hvi,a,sh,kvs,kas,rfl,by rw[q2p hI];exact .inr ⟨ob,HD⟩,fun l hl=>?_⟩
   rw[show keysV sh kvs kas=kas.map V.ref from if_neg (by rw[hI];exact w0l)];have lat:upd H l (.lst (kas.map V.ref)) l=some (.lst (kas.map V.ref)):=q0g;refine⟨l,rfl,.inl ⟨⟨_,SqL.of lat⟩,?_⟩⟩;have hj:j<σ.length:=by rw[<- rel.len];exact hje
   refine q95 (xs:=kas.map V.ref) (Pv:=fun n σ' H'=>(∃z,σ'=σ\/σ'=σ.set j (some z))/\GrownL Z l (upd H l (.lst (kas.map V.ref))) H' n) ⟨⟨.non,.inl rfl⟩,fun c o z=>.inl z⟩ ?_ ?_ ?_
   ·rintro n σ' H' _ ⟨_,gr⟩;rcases gr l _ lat with z|⟨_,_,_,_,z,_⟩
    ·exact SqL.of z
    ·exact absurd rfl z
   ·rintro n v σ' H' hn ⟨hσ,gr⟩;rw[w0f]at hn;obtain⟨b,hb',rfl⟩:=w0b.mp hn;obtain⟨k,hkm,kr⟩:=KeysG.at hkg hb';obtain⟨v,hv1,hv2⟩:=x22 hkm;obtain⟨w,hw1,hw2⟩:=RepNs.mem hrn v hv2;obtain⟨us,rfl,hus⟩:=hwl w hw1;obtain⟨c,xs,rfl,hc1,hc2,hc3⟩:=hw2;have hxs:xs.length<1000000:=by rw[<- hc3.length];exact hus
    have old:∀q u,H q=some u->(∀xs,u≠.lst xs)->H' q=some u:=fun q u z nl=>by
     rcases gr q u (by rw[q0b (q0l z hl)];exact z)with z|⟨_,_,z,_⟩
     ·exact z
     ·exact absurd z (nl _)
    have krH:KRep H' k (.ref b):=KRep.keeps (fun q u t z=>old q u (rel.sub _ _ z) (fun xs y=>by rw[y]at t;exact t)) k kr
    have hvi':(σ'.set j (some (V.ref b)))[i]?=some (some (.ref a)):=by
     rw[w0e (fun z=>hij z.symm)]
     obtain⟨z,rfl|rfl⟩:=hσ
     ·exact hvi
     ·rw[w0e (fun z=>hij z.symm)];exact hvi
    have hσl:σ'.length=σ.length:=by
     obtain⟨z,rfl|rfl⟩:=hσ
     ·rfl
     ·simp
    have hvj:(σ'.set j (some (V.ref b)))[j]?=some (some (.ref b)):=w0g (by rw[hσl];exact hj);have hcl:c≠l:=q0l (rel.sub _ _ hc1) hl
    have hc4:∃ys,H' c=some (.lst ys)/\ys.length<=xs.length+n:=by
     rcases gr c _ (by rw[q0b hcl];exact rel.sub _ _ hc1)with z|⟨xs',ys,z1,_,_,z2,z3⟩
     ·exact⟨xs,z,Nat.le_add_right _ _⟩
     ·cases z1;exact⟨ys,z2,z3⟩
    obtain⟨ys,hy1,hy2⟩:=hc4;have hn':n<kas.length:=(w0a.mp hb').1;have hkk:kas.length=(kvs.map (·.1)).length:=KeysG.length hkg;show ∃v,_;refine⟨.ref a,hvi',.ref b,hvj,a,.ref c,rfl,by rw[<- hv1];exact DGet.t (.inr ⟨ob,old _ _ HD fun _ z=>nomatch z⟩) ⟨krH,hfit k hkm⟩,.inl ⟨rfl,ys,SqL.of hy1⟩,c,ys,.int 0,rfl,rfl,hy1,by rw[sizeLine_eq];omega,?_⟩
    refine⟨?_,fun q o z=>?_⟩
    ·refine⟨.ref b,.inr ?_⟩;obtain⟨z,rfl|rfl⟩:=hσ
     ·rfl
     ·rw[List.set_set]
    ·by_cases hq:q=c
     ·subst hq;rw[q0b hcl,rel.sub _ _ hc1]at z;cases z;exact .inr ⟨xs,ys++[.int 0],rfl,hc2,hcl,q0g,by simp;omega⟩
     ·rw[q0b hq];rcases gr q o z with z|⟨xs',ys',z1,z2,z3,z4,z5⟩
      ·exact .inl z
      ·exact .inr ⟨xs',ys',z1,z2,z3,z4,by omega⟩
   ·rintro σ' H' ⟨hσ,gr⟩
    have r1:Rel X.K Z G σ' H (e.set j .no):=by
     obtain⟨z,rfl|rfl⟩:=hσ
     ·exact rel.drop1 j
     ·exact rel.setS (s:=.no) (fun _ _ z=>nomatch z) trivial
    have keep:∀c u,H c=some u->(∀xs,u=.lst xs->Z.H c≠none)->H' c=some u:=fun c u z nl=>by
     rcases gr c u (by rw[q0b (q0l z hl)];exact z)with z|⟨xs,_,z,z2,_⟩
     ·exact z
     ·exact absurd z2 (nl _ z)
    refine⟨Z.G,_,r1.rew hG hio (fun c u z=>keep c u (rel.ent c u z (by rw[hio];exact fun z=>nomatch z)) fun _ _ y=>by rw[z]at y;cases y) (fun c o ys z=>keep c _ z fun _ y=>nomatch y),h⟩
  ·exact h.elim
 ·exact h.elim
end
theorem y4o{a:Addr}{ob:Obj}{kvs:List (Kx×V)}{kas:List Addr}:Walk (Itk a ob sh kvs kas) (kas.map V.ref) (fun H'=>H' a=some (.frz ob (.dT sh kvs kas))) where
 go:=fun i H q h=>⟨q,by simpa using h⟩
 yld:=fun i H x H' q y h=>by
  obtain⟨e,b,y1,y2⟩:=y;exact⟨e,by rw[w0f,y1,y2];rfl⟩
 stop:=fun i H q h=>⟨q,by simpa using h⟩
noncomputable def compKW(js:List Nat)(c:Den Bool)(d:Den W)(e1:List S):W->R (List W)
 |.dw true sh ks _=>if sh.isI=true then .no else compK js c d (ks.map wK) e1
 |_=>.no
noncomputable def dCompK(js:List Nat)(di:Den W)(c:Den Bool)(d:Den W):Den (List W):=fun e=>(di e).bind fun w e1=>compKW js c d e1 w
section
variable{elt iter a:Expr}{ifs:List Expr}{scope sc:Scope}{pt:Pos}{Nf N:List Str}{di:Den W}{c:Den Bool}{d:Den W}{kt:Nat}
theorem x4m:∀σ H Q,liftF K Z EE (dCompK js di c d) σ H Q->tComp (iKeys (liftE K Z EE di)) 1 js (gName 0) (cT K c) (cE K d) σ H Q:=by
 rintro σ H Q ⟨G,e,rel,h⟩;simp only[dCompK,R.holds_bind]at h;refine⟨G,e,rel,h.imp (fun w e1 h G1 v1 H1 r1 s1 p1=>?_) fun _ _ h=>h⟩
 unfold compKW at h;split at h
 ·rename_i sh ks ws;split at h
  ·exact h.elim
  rename_i hI;have hI:sh.isI=false:=by simpa using hI
  unfold compK at h;split at h
  ·rename_i hl;split at h
   ·rename_i out ho;obtain⟨G2,s2,r2⟩:=r1.frzs js;obtain⟨a,kvs,kas,rfl,⟨ob,h1⟩,h2,h3,h4⟩:=Rep.mono s2 _ p1;rw[q2p hI]at h1;have h3:=h3.g hI;exact⟨a,ob,sh,kvs,kas,rfl,r2.sub _ _ h1,q8f y4o r2 (s1.trans s2) (q6b h3) (fun G' H' s s'=>s' _ _ (s _ _ h1)) hl (ionone r2) ho h⟩
   ·exact h.elim
  ·exact h.elim
 ·exact h.elim
theorem y0e(hc:X.calm=true)(hi:DE Z X EE iter di)(ok:compOk sc scope N Nf js=true)
  (ht:∀Z' cl C s₀ H₀ ex,DTs Z' (X.cp ([x]++Nf) scope cl C s₀ H₀ ex) (fun _=>E0) ifs c)(he:∀Z' cl C s₀ H₀ ex,DE Z' (X.cp ([x]++Nf) scope cl C s₀ H₀ ex) (fun _=>E0) elt d)
  (hg:∀cl C s₀ H₀ ex,PG (X.cp ([x]++Nf) scope cl C s₀ H₀ ex) (.Name x pt) (gName 0))
  (hsc:X.env.scope=sc:=by rfl)(hN:X.N=N:=by rfl)(hs:∀x,foldedSetIterable iter X.env x=pure x:=by intro _;rfl):
  DF Z X EE (.ListComp elt [⟨.Name x pt,iter,ifs,0⟩] scope pos) (dCompK js di c d):=by
 exact PE.mono (q65 (Nl:=[x]) (tc:=cT X.K c) (te:=cE X.K d) hc (y3v hi) ok hg (x3r ht) (x3s he) hsc hN hs) x4m
end
section
variable{w kw:W}{ws us:List W}{i j:Nat}{d dk di:Den W}{ds:List S->SR}{x:Kx}{fz:Bool}{cv:Value}{c:Den Bool}
theorem y4p:dIsiD K cv d e=(d e).bind fun w e1=>ofOpt (isiD K cv w) e1:=rfl
theorem y8d(h:sh.isI=false:=by rfl):isiD K cv (.dw fz sh ks ws)=(kitOne K (.type "dict") cv).map .bl:=if_neg (by rw[h];exact w0l)
theorem y0f:dPutNw i d dk e=(d e).stm fun w e1=>putN0 i dk w e1 e1[i]?:=rfl
theorem y4q:putN0 i dk w e (some (.dw sh ks ws))=(dk e).stm fun kw e2=>putNC i w kw e2 e2[i]?:=rfl
theorem y4r(hk:keyT kw=some x)(h1:ks.length<16777216)(h2:(e.set i .no).all (fun s=>!isDw s)=true)(h3:fits x sh)(h4:lkW ks ws x=none)(h5:sh.isN=true:=by rfl):putNC i w kw e (some (.dw sh ks ws))=.nx (e.set i (.dw sh (ks++[x]) (ws++[w]))):=by
 show(match keyT kw with|some x=>_|none=>_)=_;rw[hk];exact if_pos ⟨h1,h2,h3,h4,h5⟩
theorem y0g:dRetND i e=retND e i e[i]?:=rfl
theorem y4s(h:sh.isN=true:=by rfl):retND e i (some (.dw sh ks ws))=.rt (.x (.new (.dw true sh ks ws))) (e.map fun _=>.no):=if_pos h
theorem x7b:dAppAll i j ds e=appAll j ds e e[i]?:=rfl
theorem y0h(h0:j<e.length)(h1:sh.isI=false)(h2:ks.length<1000000)(h3:∀k∈ks,fits k sh)(h4:∀w∈ws,∃us,w=.lst us/\us.length<1000000):appAll j ds e (some (.x (.new (.dw true sh ks ws))))=ds ((e.set j .no).map rew):=if_pos ⟨h0,h1,h2,h3,h4⟩
theorem y0i:dCompK js di c d e=(di e).bind fun w e1=>compKW js c d e1 w:=rfl
theorem y0j(h:sh.isI=false:=by rfl):compKW js c d e (.dw true sh ks ws)=compK js c d (ks.map wK) e:=if_neg (by rw[h];exact w0l)
end
end D
namespace Q
open PySem L2 D
variable{f:Addr}{A:Around}{H:Hp}{x:Kx}{ps:List (Nat×Nat)}{ks rs:List Nat}{ws:List W}{L i j n r:Nat}{q:Nat×Nat}{K:PySem.W.Frag}{s:Shared}{mg:Str->Option Value}{α:Type}{cdv:Value}{E:XK}{Z:Zt}
seal DN DNA DSsW DE DF DT DW DA DS DSs DTs DO DFm PE PT PW PA PS PSs PG PGs PI PF PTs PC OpR UnR IxR CallR TruR MtR MtM SlR PO
theorem us1{P:List α->Prop}(h:∀x0,P [x0]):∀us:List α,us.length=1->P us
 |[x0],_=>h x0
theorem us2{P:List α->Prop}(h:∀x0 x1,P [x0,x1]):∀us:List α,us.length=2->P us
 |[x0,x1],_=>h x0 x1
theorem us3{P:List α->Prop}(h:∀x0 x1 x2,P [x0,x1,x2]):∀us:List α,us.length=3->P us
 |[x0,x1,x2],_=>h x0 x1 x2
theorem us4{P:List α->Prop}(h:∀x0 x1 x2 x3,P [x0,x1,x2,x3]):∀us:List α,us.length=4->P us
 |[x0,x1,x2,x3],_=>h x0 x1 x2 x3
noncomputable def top(i:Nat):Stmt:=PySem.Challenge.pw_circuits_k49_partings_part.main.body.getD i (.Pass ⟨0,0,0,0⟩)
structure Blt(mg:Str->Option Value):Prop where
 b_bool:mg "bool"=none
 b_dict:mg "dict"=none
 b_int:mg "int"=none
 b_isinstance:mg "isinstance"=none
 b_len:mg "len"=none
 b_list:mg "list"=none
 b_max:mg "max"=none
 b_min:mg "min"=none
 b_range:mg "range"=none
 b_repr:mg "repr"=none
 b_sorted:mg "sorted"=none
 b_tuple:mg "tuple"=none
 b_zip:mg "zip"=none
structure Adr where
 CircuitError:Addr
 NoMachine:Addr
variable{a:Adr}
structure Exs(K:PySem.W.Frag)(mg:Str->Option Value)(a:Adr):Prop where
 z:True
 m_CircuitError:mg "CircuitError"=some (.ref a.CircuitError)
 m_NoMachine:mg "NoMachine"=some (.ref a.NoMachine)
 e_NoMachine:excIn K a.NoMachine a.CircuitError=true
 c_NoMachine:excClsIn K a.NoMachine=true
 t_NoneType_list:kitOne K (.type "NoneType") (.type "list")=some false
 t_bool_list:kitOne K (.type "bool") (.type "list")=some false
 t_int_list:kitOne K (.type "int") (.type "list")=some false
 t_str_list:kitOne K (.type "str") (.type "list")=some false
 t_tuple_list:kitOne K (.type "tuple") (.type "list")=some false
 t_list_list:kitOne K (.type "list") (.type "list")=some true
 t_dict_list:kitOne K (.type "dict") (.type "list")=some false
 t_NoneType_bool:kitOne K (.type "NoneType") (.type "bool")=some false
 t_bool_bool:kitOne K (.type "bool") (.type "bool")=some true
 t_int_bool:kitOne K (.type "int") (.type "bool")=some false
 t_str_bool:kitOne K (.type "str") (.type "bool")=some false
 t_tuple_bool:kitOne K (.type "tuple") (.type "bool")=some false
 t_list_bool:kitOne K (.type "list") (.type "bool")=some false
 t_dict_bool:kitOne K (.type "dict") (.type "bool")=some false
 t_NoneType_int:kitOne K (.type "NoneType") (.type "int")=some false
 t_bool_int:kitOne K (.type "bool") (.type "int")=some true
 t_int_int:kitOne K (.type "int") (.type "int")=some true
 t_str_int:kitOne K (.type "str") (.type "int")=some false
 t_tuple_int:kitOne K (.type "tuple") (.type "int")=some false
 t_list_int:kitOne K (.type "list") (.type "int")=some false
 t_dict_int:kitOne K (.type "dict") (.type "int")=some false
 t_NoneType_dict:kitOne K (.type "NoneType") (.type "dict")=some false
 t_bool_dict:kitOne K (.type "bool") (.type "dict")=some false
 t_int_dict:kitOne K (.type "int") (.type "dict")=some false
 t_str_dict:kitOne K (.type "str") (.type "dict")=some false
 t_tuple_dict:kitOne K (.type "tuple") (.type "dict")=some false
 t_list_dict:kitOne K (.type "list") (.type "dict")=some false
 t_dict_dict:kitOne K (.type "dict") (.type "dict")=some true
 t_NoneType_tuple:kitOne K (.type "NoneType") (.type "tuple")=some false
 t_bool_tuple:kitOne K (.type "bool") (.type "tuple")=some false
 t_int_tuple:kitOne K (.type "int") (.type "tuple")=some false
 t_str_tuple:kitOne K (.type "str") (.type "tuple")=some false
 t_tuple_tuple:kitOne K (.type "tuple") (.type "tuple")=some true
 t_list_tuple:kitOne K (.type "list") (.type "tuple")=some false
 t_dict_tuple:kitOne K (.type "dict") (.type "tuple")=some false
 nt:NoTup K
noncomputable abbrev q15:Nat:=0
noncomputable abbrev q1j:Nat:=1
noncomputable abbrev q2f:Nat:=2
noncomputable abbrev q1b:Nat:=3
noncomputable abbrev q05:Nat:=4
noncomputable abbrev q1l:Nat:=5
noncomputable abbrev q1m:Nat:=6
noncomputable abbrev q1v:Nat:=7
noncomputable abbrev q3p:Nat:=8
noncomputable abbrev q0t:Nat:=9
noncomputable abbrev q06:Nat:=10
noncomputable abbrev q13:Nat:=11
noncomputable abbrev q1n:Nat:=12
noncomputable abbrev q0y:Nat:=13
noncomputable abbrev q1q:Nat:=14
noncomputable abbrev q16:Nat:=15
noncomputable abbrev q1z:Nat:=16
noncomputable abbrev q10:Nat:=17
noncomputable abbrev q4p:Nat:=18
noncomputable abbrev q1g:Stmt:=top 4
theorem sc_rows_many:FnScope ["many", "count", "place"] ["many"] (defScope q1g):=⟨rfl,rfl,rfl,by decide +kernel,rfl,by decide +kernel,by decide +kernel⟩
noncomputable abbrev q0v:Stmt:=top 6
theorem sc_check_machine:FnScope ["machine", "states", "pairs_many", "state", "told", "follower"] ["machine"] (defScope q0v):=⟨rfl,rfl,rfl,by decide +kernel,rfl,by decide +kernel,by decide +kernel⟩
noncomputable abbrev q1r:Stmt:=top 7
theorem x1z:FnScope ["machine", "number"] ["machine", "number"] (defScope q1r):=⟨rfl,rfl,rfl,by decide +kernel,rfl,by decide +kernel,by decide +kernel⟩
noncomputable abbrev q1s:Stmt:=top 9
theorem sc_partings:FnScope ["machine", "states", "levels", "kinds", "parted", "first", "second"] ["machine"] (defScope q1s):=⟨rfl,rfl,rfl,by decide +kernel,rfl,by decide +kernel,by decide +kernel⟩
noncomputable abbrev q0s:Stmt:=top 10
theorem sc_kinds_by_length:FnScope ["states", "levels", "finer"] ["states"] (defScope q0s):=⟨rfl,rfl,rfl,by decide +kernel,rfl,by decide +kernel,by decide +kernel⟩
noncomputable abbrev q0x:Stmt:=top 11
theorem sc_finer_kinds:FnScope ["states", "kinds", "numbers", "finer", "state", "seen"] ["states", "kinds"] (defScope q0x):=⟨rfl,rfl,rfl,by decide +kernel,rfl,by decide +kernel,by decide +kernel⟩
noncomputable abbrev q0z:Stmt:=top 12
theorem sc_parting_rows:FnScope ["states", "levels", "first", "second", "length", "numbers", "left", "right", "number"] ["states", "levels", "first", "second"] (defScope q0z):=⟨rfl,rfl,rfl,by decide +kernel,rfl,by decide +kernel,by decide +kernel⟩
noncomputable abbrev q04:Stmt:=top 13
theorem sc_parting_row:FnScope ["state", "other", "kinds", "length", "number"] ["state", "other", "kinds", "length"] (defScope q04):=⟨rfl,rfl,rfl,by decide +kernel,rfl,by decide +kernel,by decide +kernel⟩
noncomputable abbrev q2n:Stmt:=top 14
theorem y0k:FnScope ["pair", "other", "kinds", "length"] ["pair", "other", "kinds", "length"] (defScope q2n):=⟨rfl,rfl,rfl,by decide +kernel,rfl,by decide +kernel,by decide +kernel⟩
noncomputable abbrev q00:Stmt:=top 16
theorem q7x:FnScope ["_law_script", "_law_k"] ["_law_script", "_law_k"] (defScope q00):=⟨rfl,rfl,rfl,by decide +kernel,rfl,by decide +kernel,by decide +kernel⟩
noncomputable abbrev q07:Stmt:=top 17
theorem sc__law_mixed:FnScope ["_law_cell", "_law_k", "_law_number"] ["_law_cell", "_law_k"] (defScope q07):=⟨rfl,rfl,rfl,by decide +kernel,rfl,by decide +kernel,by decide +kernel⟩
noncomputable abbrev q1t:Stmt:=top 18
theorem sc__law_row:FnScope ["_law_number", "_law_many", "_law_row_here", "_law_step"] ["_law_number", "_law_many"] (defScope q1t):=⟨rfl,rfl,rfl,by decide +kernel,rfl,by decide +kernel,by decide +kernel⟩
noncomputable abbrev q01:Stmt:=top 19
theorem q7y:FnScope ["_law_many"] ["_law_many"] (defScope q01):=⟨rfl,rfl,rfl,by decide +kernel,rfl,by decide +kernel,by decide +kernel⟩
noncomputable abbrev q02:Stmt:=top 20
theorem sc__law_machine:FnScope ["_law_script", "_law_at", "_law_cell", "_law_kinds", "_law_many", "_law_wide", "_law_size", "_law_base", "_law_states", "_law_k", "_law_state", "_law_number", "_law_left", "_law_told", "_law_goal", "_law_twin"] ["_law_script", "_law_at"] (defScope q02):=⟨rfl,rfl,rfl,by decide +kernel,rfl,by decide +kernel,by decide +kernel⟩
noncomputable abbrev q08:Stmt:=top 21
theorem x05:FnScope ["_law_machine_here"] ["_law_machine_here"] (defScope q08):=⟨rfl,rfl,rfl,by decide +kernel,rfl,by decide +kernel,by decide +kernel⟩
noncomputable abbrev q1h:Stmt:=top 22
theorem x06:FnScope ["_law_low", "_law_high"] ["_law_low", "_law_high"] (defScope q1h):=⟨rfl,rfl,rfl,by decide +kernel,rfl,by decide +kernel,by decide +kernel⟩
noncomputable abbrev q09:Stmt:=top 23
theorem sc__law_parts:FnScope ["_law_states", "_law_pair_here", "_law_rows", "_law_low", "_law_high", "_law_k", "_law_one", "_law_other"] ["_law_states", "_law_pair_here", "_law_rows"] (defScope q09):=⟨rfl,rfl,rfl,by decide +kernel,rfl,by decide +kernel,by decide +kernel⟩
noncomputable abbrev q1a:Stmt:=top 24
theorem sc__law_alike:FnScope ["_law_states", "_law_low", "_law_high", "_law_found", "_law_one", "_law_other"] ["_law_states", "_law_low", "_law_high", "_law_found"] (defScope q1a):=⟨rfl,rfl,rfl,by decide +kernel,rfl,by decide +kernel,by decide +kernel⟩
noncomputable abbrev q2y:Stmt:=top 25
theorem sc_law:FnScope ["_law_script", "_law_machine_here", "_law_handed", "_law_found", "_law_states", "_law_many", "_law_low", "_law_high", "_law_kept", "_law_pair_here"] ["_law_script"] (defScope q2y):=⟨rfl,rfl,rfl,by decide +kernel,rfl,by decide +kernel,by decide +kernel⟩
noncomputable def q30(K:PySem.W.Frag)(a:Adr)(r:Nat->List W->FR):List S->SR:=
 (dSet 1 (dOp mulW (dC (.int 2)) (dVar 1)))
noncomputable def q24(K:PySem.W.Frag)(a:Adr)(r:Nat->List W->FR):List S->SR:=
 (dSeq (dSet 1 (dC (.int 1)))
  (dSeq (dForR 2 rng1 (dCons (dVar 0) dNil)
  (q30 K a r))
  (dRet (dVar 1))))
noncomputable def q21(K:PySem.W.Frag)(a:Adr)(r:Nat->List W->FR):List S->SR:=
 (dSeq (dIfS (dTest (dOp ne2 (dFn len1 (dCons (dVar 4) dNil)) (dOp ixW (dVar 0) (dC (.int 1)))))
  (dRaise a.NoMachine (dCons (dC (.str "a state answers too many truths, or too few")) dNil))
  dNx)
  (dIfS (dNot (dTru (dCall (r q2f) (dCons (dVar 0) (dCons (dVar 5) dNil)))))
  (dRaise a.NoMachine (dCons (dC (.str "a state leads to none of the states")) dNil))
  dNx))
noncomputable def q22(K:PySem.W.Frag)(a:Adr)(r:Nat->List W->FR):List S->SR:=
 (dSeq (dIfS (dTest (dOp ne2 (dFn len1 (dCons (dVar 3) dNil)) (dVar 2)))
  (dRaise a.NoMachine (dCons (dC (.str "a state hasn't a pair for each row")) dNil))
  dNx)
  (dForP 4 5 (srcP (dVar 3))
  (q21 K a r)))
noncomputable def q14(K:PySem.W.Frag)(a:Adr)(r:Nat->List W->FR):List S->SR:=
 (dSeq (dSet 1 (dOp ixW (dVar 0) (dC (.int 2))))
  (dSeq (dSet 2 (dCall (r q15) (dCons (dOp ixW (dVar 0) (dC (.int 0))) dNil)))
  (dSeq (dIfS (dTest (dOp eq2 (dFn len1 (dCons (dVar 1) dNil)) (dC (.int 0))))
  (dRaise a.NoMachine (dCons (dC (.str "a machine has a state at least")) dNil))
  dNx)
  (dFor 3 (dVar 1)
  (q22 K a r)))))
noncomputable def q3d(K:PySem.W.Frag)(a:Adr)(r:Nat->List W->FR):List S->SR:=
 (dRet (dAndV (dOp leW (dC (.int 0)) (dVar 1)) (dOp ltW (dVar 1) (dFn len1 (dCons (dOp ixW (dVar 0) (dC (.int 2))) dNil)))))
noncomputable def q3e(K:PySem.W.Frag)(a:Adr)(r:Nat->List W->FR):List S->SR:=
 (dIfS (dTest (dOp ne2 (dOp ixW (dVar 3) (dVar 5)) (dOp ixW (dVar 3) (dVar 6))))
  (dPutNw 4 (dCallN (r q1m) (dCons (dVar 1) (dCons (dVar 2) (dCons (dVar 5) (dCons (dVar 6) dNil))))) (dTup (dCons (dVar 5) (dCons (dVar 6) dNil))))
  dNx)
noncomputable def q3f(K:PySem.W.Frag)(a:Adr)(r:Nat->List W->FR):List S->SR:=
 (dForR 6 rng2 (dCons (dOp addW (dVar 5) (dC (.int 1))) (dCons (dFn len1 (dCons (dVar 1) dNil)) dNil))
  (q3e K a r))
noncomputable def q3g(K:PySem.W.Frag)(a:Adr)(r:Nat->List W->FR):List S->SR:=
 (dSeq (dDrop (dCall (r q1j) (dCons (dVar 0) dNil)))
  (dSeq (dSet 1 (dOp ixW (dVar 0) (dC (.int 2))))
  (dSeq (dSet 2 (dCall (r q05) (dCons (dVar 1) dNil)))
  (dSeq (dSet 3 (dOp ixW (dVar 2) (dUn negW (dC (.int 1)))))
  (dSeq (dSetW 4 (.many .int))
  (dSeq (dForR 5 rng1 (dCons (dFn len1 (dCons (dVar 1) dNil)) dNil)
  (q3f K a r))
  (dRetND 4)))))))
noncomputable def q12(K:PySem.W.Frag)(a:Adr)(r:Nat->List W->FR):Den Bool:=
 (dTest (dOp gtW (dFn max1 (dCons (dVar 2) dNil)) (dFn max1 (dCons (dIxV 1 (dUn negW (dC (.int 1)))) dNil))))
noncomputable def q2o(K:PySem.W.Frag)(a:Adr)(r:Nat->List W->FR):List S->SR:=
 (dSeq (dApp 1 (dCons (dVar 2) dNil))
  (dSet 2 (dCall (r q1l) (dCons (dVar 0) (dCons (dVar 2) dNil)))))
noncomputable def q1w(K:PySem.W.Frag)(a:Adr)(r:Nat->List W->FR):List S->SR:=
 (dSeq (dSetO 1 (dLst (dCons (dOp repW (dFz (dLst (dCons (dC (.int 0)) dNil))) (dFn len1 (dCons (dVar 0) dNil))) dNil)))
  (dSeq (dSet 2 (dCall (r q1l) (dCons (dVar 0) (dCons (dIxV 1 (dUn negW (dC (.int 1)))) dNil))))
  (dSeq (whileD (q12 K a r)
  (q2o K a r) 1000000)
  (dRetO 1))))
noncomputable def q4q(K:PySem.W.Frag)(a:Adr)(r:Nat->List W->FR):Den W:=
 (dTup (dCons (dVar 0) (dCons (dOp ixW (dVar 2) (dVar 1)) dNil)))
noncomputable def q2r(K:PySem.W.Frag)(a:Adr)(r:Nat->List W->FR):List S->SR:=
 (dSeq (dSet 5 (dFn tup1 (dCons (dFz (dCompP [1] (srcP (dVar 4)) dYes (q4q K a r))) dNil)))
  (dSeq (dIfS (dBorrowT (dTest (dOp ninT (dVar 5) (dVar 2))))
  (dPutW 2 (dBorrow (dFn lenT1 (dCons (dVar 2) dNil))) (dVar 5))
  dNx)
  (dApp 3 (dCons (dBorrow (dOp ixT (dVar 2) (dVar 5))) dNil))))
noncomputable def q2j(K:PySem.W.Frag)(a:Adr)(r:Nat->List W->FR):List S->SR:=
 (dSeq (dSetW 2 (.many (.tup [.many .bl,.int])))
  (dSeq (dSetO 3 (dLst dNil))
  (dSeq (dFor 4 (dVar 0)
  (q2r K a r))
  (dRetO 3))))
noncomputable def q1o(K:PySem.W.Frag)(a:Adr)(r:Nat->List W->FR):Den Bool:=
 (dTest (dOp gtW (dVar 4) (dC (.int 0))))
noncomputable def q2g(K:PySem.W.Frag)(a:Adr)(r:Nat->List W->FR):List S->SR:=
 (dSeq (dSet 4 (dOp subW (dVar 4) (dC (.int 1))))
  (dSeq (dSet 8 (dCall (r q1v) (dCons (dOp ixW (dVar 0) (dVar 6)) (dCons (dOp ixW (dVar 0) (dVar 7)) (dCons (dOp ixW (dVar 1) (dVar 4)) (dCons (dVar 4) dNil))))))
  (dSeq (dApp 5 (dCons (dVar 8) dNil))
  (dSeq (dSet 6 (dOp ixW (dOp ixW (dOp ixW (dVar 0) (dVar 6)) (dVar 8)) (dC (.int 1))))
  (dSet 7 (dOp ixW (dOp ixW (dOp ixW (dVar 0) (dVar 7)) (dVar 8)) (dC (.int 1))))))))
noncomputable def q1p(K:PySem.W.Frag)(a:Adr)(r:Nat->List W->FR):Den Bool:=
 (dTest (dOp eq2 (dOp ixW (dOp ixW (dVar 1) (dVar 4)) (dVar 2)) (dOp ixW (dOp ixW (dVar 1) (dVar 4)) (dVar 3))))
noncomputable def q2h(K:PySem.W.Frag)(a:Adr)(r:Nat->List W->FR):List S->SR:=
 (dSet 4 (dOp addW (dVar 4) (dC (.int 1))))
noncomputable def q2a(K:PySem.W.Frag)(a:Adr)(r:Nat->List W->FR):List S->SR:=
 (dSeq (dSet 4 (dC (.int 0)))
  (dSeq (whileD (q1p K a r)
  (q2h K a r) 1000000)
  (dSeq (dSetO 5 (dLst dNil))
  (dSeq (dSet 6 (dVar 2))
  (dSeq (dSet 7 (dVar 3))
  (dSeq (whileD (q1o K a r)
  (q2g K a r) 1000000)
  (dRetNw (dNOwn 5))))))))
noncomputable def q1u(K:PySem.W.Frag)(a:Adr)(r:Nat->List W->FR):Den Bool:=
 (dNot (dTru (dCall (r q3p) (dCons (dOp ixW (dVar 0) (dVar 4)) (dCons (dOp ixW (dVar 1) (dVar 4)) (dCons (dVar 2) (dCons (dVar 3) dNil)))))))
noncomputable def q2s(K:PySem.W.Frag)(a:Adr)(r:Nat->List W->FR):List S->SR:=
 (dSet 4 (dOp addW (dVar 4) (dC (.int 1))))
noncomputable def q2k(K:PySem.W.Frag)(a:Adr)(r:Nat->List W->FR):List S->SR:=
 (dSeq (dSet 4 (dC (.int 0)))
  (dSeq (whileD (q1u K a r)
  (q2s K a r) 1000000)
  (dRet (dVar 4))))
noncomputable def q43(K:PySem.W.Frag)(a:Adr)(r:Nat->List W->FR):List S->SR:=
 (dSeq (dIfS (dTest (dOp eq2 (dVar 3) (dC (.int 0))))
  (dRet (dOp ne2 (dOp ixW (dVar 0) (dC (.int 0))) (dOp ixW (dVar 1) (dC (.int 0)))))
  dNx)
  (dRet (dOp ne2 (dOp ixW (dVar 2) (dOp ixW (dVar 0) (dC (.int 1)))) (dOp ixW (dVar 2) (dOp ixW (dVar 1) (dC (.int 1)))))))
noncomputable def q2b(K:PySem.W.Frag)(a:Adr)(r:Nat->List W->FR):List S->SR:=
 (dSeq (dIfS (dTest (dOp ltW (dVar 1) (dFn len1 (dCons (dVar 0) dNil))))
  (dRet (dOp ixW (dVar 0) (dVar 1)))
  dNx)
  (dRet (dC (.int 0))))
noncomputable def q2u(K:PySem.W.Frag)(a:Adr)(r:Nat->List W->FR):List S->SR:=
 (dSeq (dSet 2 (dOp modW (dOp mulW (dOp addW (dVar 0) (dOp mulW (dC (.int 7919)) (dVar 1))) (dC (.int 48271))) (dC (.int 2147483647))))
  (dRet (dOp modW (dOp addW (dOp addW (dOp mulW (dVar 2) (dVar 2)) (dOp mulW (dC (.int 7)) (dVar 2))) (dVar 1)) (dC (.int 2147483629)))))
noncomputable def q4f(K:PySem.W.Frag)(a:Adr)(r:Nat->List W->FR):List S->SR:=
 (dSeq (dApp 2 (dCons (dOp eq2 (dOp modW (dVar 0) (dC (.int 2))) (dC (.int 1))) dNil))
  (dSet 0 (dOp fdivW (dVar 0) (dC (.int 2)))))
noncomputable def q3h(K:PySem.W.Frag)(a:Adr)(r:Nat->List W->FR):List S->SR:=
 (dSeq (dSetO 2 (dLst dNil))
  (dSeq (dForR 3 rng1 (dCons (dVar 1) dNil)
  (q4f K a r))
  (dSeq (dMut0 2 List.reverse)
  (dRet (dFn tup1 (dCons (dVar 2) dNil))))))
noncomputable def q2c(K:PySem.W.Frag)(a:Adr)(r:Nat->List W->FR):List S->SR:=
 (dRet (dOp ixW (dFz (dLst (dCons (dC (.int 1)) (dCons (dC (.int 2)) (dCons (dC (.int 4)) (dCons (dC (.int 8)) dNil)))))) (dVar 0)))
noncomputable def q2i(K:PySem.W.Frag)(a:Adr)(r:Nat->List W->FR):List S->SR:=
 (dSeq (dSet 12 (dCall (r q06) (dCons (dCall (r q0t) (dCons (dVar 0) (dCons (dOp addW (dOp addW (dVar 1) (dC (.int 2))) (dOp modW (dOp modW (dVar 9) (dVar 7)) (dC (.int 6)))) dNil))) (dCons (dOp addW (dOp mulW (dC (.int 8)) (dOp modW (dVar 9) (dVar 7))) (dVar 11)) dNil))))
  (dSeq (dSet 13 (dOp repW (dFz (dLst (dCons (dC (.bl false)) dNil))) (dVar 5)))
  (dSeq (dIfS (dTest (dOp eq2 (dOp modW (dVar 12) (dC (.int 4))) (dC (.int 0))))
  (dSet 13 (dFz (dList (dCons (dCall (r q13) (dCons (dOp fdivW (dVar 12) (dC (.int 4))) (dCons (dVar 5) dNil))) dNil))))
  dNx)
  (dSeq (dSet 14 (dOp modW (dOp fdivW (dVar 12) (dC (.int 64))) (dVar 7)))
  (dSeq (dIfS (dTest (dOp eq2 (dOp modW (dVar 3) (dC (.int 3))) (dC (.int 1))))
  (dSeq (dSet 13 (dOp repW (dFz (dLst (dCons (dOp eq2 (dOp modW (dVar 9) (dVar 7)) (dOp subW (dVar 7) (dC (.int 1)))) dNil))) (dVar 5)))
  (dSet 14 (dOp ixW (dFz (dLst (dCons (dFn min2 (dCons (dOp addW (dOp modW (dVar 9) (dVar 7)) (dC (.int 1))) (dCons (dOp subW (dVar 7) (dC (.int 1))) dNil))) (dCons (dC (.int 0)) dNil)))) (dFn min2 (dCons (dVar 11) (dCons (dC (.int 1)) dNil))))))
  dNx)
  (dSeq (dSet 15 (dOp modW (dCall (r q06) (dCons (dOp addW (dVar 3) (dVar 9)) (dCons (dVar 11) dNil))) (dOp addW (dOp fdivW (dOp subW (dOp subW (dVar 6) (dC (.int 1))) (dVar 14)) (dVar 7)) (dC (.int 1)))))
  (dApp 10 (dCons (dTup (dCons (dFn tup1 (dCons (dVar 13) dNil)) (dCons (dOp addW (dVar 14) (dOp mulW (dVar 7) (dVar 15))) dNil))) dNil))))))))
noncomputable def q11(K:PySem.W.Frag)(a:Adr)(r:Nat->List W->FR):List S->SR:=
 (dSeq (dSetO 10 (dLst dNil))
  (dSeq (dForR 11 rng1 (dCons (dCall (r q1n) (dCons (dVar 4) dNil)) dNil)
  (q2i K a r))
  (dApp 8 (dCons (dVar 10) dNil))))
noncomputable def q2d(K:PySem.W.Frag)(a:Adr)(r:Nat->List W->FR):List S->SR:=
 (dSeq (dSet 2 (dCall (r q0t) (dCons (dVar 0) (dCons (dVar 1) dNil))))
  (dSeq (dSet 3 (dCall (r q0t) (dCons (dVar 0) (dCons (dOp addW (dVar 1) (dC (.int 1))) dNil))))
  (dSeq (dSet 4 (dOp modW (dVar 2) (dC (.int 4))))
  (dSeq (dSet 5 (dOp ixW (dFz (dLst (dCons (dC (.int 1)) (dCons (dC (.int 2)) (dCons (dC (.int 1)) (dCons (dC (.int 0)) (dCons (dC (.int 3)) (dCons (dOp addW (dC (.int 4)) (dOp modW (dOp fdivW (dVar 3) (dC (.int 24))) (dC (.int 9)))) (dCons (dC (.int 2)) (dCons (dC (.int 1)) dNil)))))))))) (dOp modW (dOp fdivW (dVar 3) (dC (.int 3))) (dC (.int 8)))))
  (dSeq (dSet 6 (dOp addW (dC (.int 1)) (dOp modW (dOp fdivW (dVar 2) (dC (.int 4))) (dC (.int 11)))))
  (dSeq (dIfS (dOr (dTest (dOp eq2 (dVar 6) (dC (.int 9)))) (dTest (dOp eq2 (dVar 6) (dC (.int 10)))))
  (dSeq (dSet 6 (dOp addW (dC (.int 8)) (dOp modW (dOp fdivW (dVar 2) (dC (.int 44))) (dC (.int 5)))))
  (dSet 4 (dFn min2 (dCons (dVar 4) (dCons (dOp ixW (dFz (dLst (dCons (dC (.int 3)) (dCons (dC (.int 2)) dNil)))) (dFn int1 (dCons (dOp gtW (dVar 6) (dC (.int 9))) dNil))) dNil)))))
  dNx)
  (dSeq (dIfS (dTest (dOp eq2 (dVar 6) (dC (.int 11))))
  (dSeq (dSet 6 (dOp addW (dC (.int 12)) (dOp modW (dOp fdivW (dVar 2) (dC (.int 44))) (dC (.int 9)))))
  (dSet 4 (dOp modW (dVar 4) (dC (.int 2)))))
  dNx)
  (dSeq (dSet 7 (dOp subW (dVar 6) (dOp modW (dOp fdivW (dVar 3) (dC (.int 24))) (dVar 6))))
  (dSeq (dSetO 8 (dLst dNil))
  (dSeq (dForR 9 rng1 (dCons (dVar 6) dNil)
  (q11 K a r))
  (dRet (dTup (dCons (dVar 4) (dCons (dVar 5) (dCons (dVar 8) dNil)))))))))))))))
noncomputable def q5t(K:PySem.W.Frag)(a:Adr)(r:Nat->List W->FR):Den W:=
 (dFz (dList (dCons (dVar 0) dNil)))
noncomputable def q25(K:PySem.W.Frag)(a:Adr)(r:Nat->List W->FR):List S->SR:=
 (dRetT (dOp ixW (dVar 0) (dC (.int 0))) (dOp ixW (dVar 0) (dC (.int 1))) (dComp [] (dOp ixW (dVar 0) (dC (.int 2))) dYes (q5t K a r)))
noncomputable def q26(K:PySem.W.Frag)(a:Adr)(r:Nat->List W->FR):List S->SR:=
 (dRet (dTup (dCons (dFn min2 (dCons (dVar 0) (dCons (dVar 1) dNil))) (dCons (dFn max2 (dCons (dVar 0) (dCons (dVar 1) dNil))) dNil))))
noncomputable def q2z(K:PySem.W.Frag)(a:Adr)(r:Nat->List W->FR):List S->SR:=
 (dSeq (dIfS (dOr (dNot (dTru (dIsi K (.type "int") (dOp ixW (dVar 2) (dVar 5))))) (dOr (dTru (dIsi K (.type "bool") (dOp ixW (dVar 2) (dVar 5)))) (dNot (dTest (dChain leW ltW (dC (.int 0)) (dOp ixW (dVar 2) (dVar 5)) (dFn len1 (dCons (dOp ixW (dVar 0) (dVar 3)) dNil)))))))
  (dRet (dC (.bl false)))
  dNx)
  (dSeq (dSet 6 (dOp ixW (dOp ixW (dVar 0) (dVar 3)) (dOp ixW (dVar 2) (dVar 5))))
  (dSeq (dSet 7 (dOp ixW (dOp ixW (dVar 0) (dVar 4)) (dOp ixW (dVar 2) (dVar 5))))
  (dSeq (dIfS (dTest (dOp ne2 (dOp eq2 (dOp ixW (dVar 6) (dC (.int 0))) (dOp ixW (dVar 7) (dC (.int 0)))) (dOp ltW (dVar 5) (dOp subW (dFn len1 (dCons (dVar 2) dNil)) (dC (.int 1))))))
  (dRet (dC (.bl false)))
  dNx)
  (dSeq (dSet 3 (dOp ixW (dVar 6) (dC (.int 1))))
  (dSet 4 (dOp ixW (dVar 7) (dC (.int 1)))))))))
noncomputable def q2v(K:PySem.W.Frag)(a:Adr)(r:Nat->List W->FR):List S->SR:=
 (dSeq (dSet2 3 4 (dVar 1))
  (dSeq (dIfS (dOr (dNot (dTru (dIsi K (.type "list") (dVar 2)))) (dTest (dOp eq2 (dVar 2) (dFz (dLst dNil)))))
  (dRet (dC (.bl false)))
  dNx)
  (dSeq (dForR 5 rng1 (dCons (dFn len1 (dCons (dVar 2) dNil)) dNil)
  (q2z K a r))
  (dRet (dC (.bl true))))))
noncomputable def q20(K:PySem.W.Frag)(a:Adr)(r:Nat->List W->FR):List S->SR:=
 (dIfS (dOr (dTest (dOp ne2 (dOp ixW (dVar 4) (dC (.int 0))) (dOp ixW (dVar 5) (dC (.int 0))))) (dAnd (dTest (dOp ne2 (dOp ixW (dVar 4) (dC (.int 1))) (dOp ixW (dVar 5) (dC (.int 1))))) (dTest (dOp inT (dCall (r q16) (dCons (dOp ixW (dVar 4) (dC (.int 1))) (dCons (dOp ixW (dVar 5) (dC (.int 1))) dNil))) (dVar 3)))))
  (dRet (dC (.bl false)))
  dNx)
noncomputable def q2w(K:PySem.W.Frag)(a:Adr)(r:Nat->List W->FR):List S->SR:=
 (dSeq (dForP 4 5 (srcZ (dCons (dOp ixW (dVar 0) (dVar 1)) (dCons (dOp ixW (dVar 0) (dVar 2)) dNil)))
  (q20 K a r))
  (dRet (dC (.bl true))))
noncomputable def q6q(K:PySem.W.Frag)(a:Adr)(r:Nat->List W->FR):List S->SR:=
 (dIfS (dTest (dOp inT (dTup (dCons (dVar 6) (dCons (dVar 7) dNil))) (dVar 3)))
  (dSeq (dSet 5 (dOp addW (dVar 5) (dC (.int 1))))
  (dIfS (dNot (dTru (dCall (r q1z) (dCons (dVar 4) (dCons (dTup (dCons (dVar 6) (dCons (dVar 7) dNil))) (dCons (dOp ixT (dVar 3) (dTup (dCons (dVar 6) (dCons (dVar 7) dNil)))) dNil))))))
  (dRet (dC (.bl false)))
  dNx))
  (dIfS (dNot (dTru (dCall (r q10) (dCons (dVar 4) (dCons (dVar 6) (dCons (dVar 7) (dCons (dVar 3) dNil)))))))
  (dRet (dC (.bl false)))
  dNx))
noncomputable def q6r(K:PySem.W.Frag)(a:Adr)(r:Nat->List W->FR):List S->SR:=
 (dForR 7 rng2 (dCons (dOp addW (dVar 6) (dC (.int 1))) (dCons (dFn len1 (dCons (dVar 4) dNil)) dNil))
  (q6q K a r))
noncomputable def y4t(K:PySem.W.Frag)(a:Adr)(r:Nat->List W->FR):Den W:=
 (dC (.int 1))
noncomputable def x23(K:PySem.W.Frag)(a:Adr)(r:Nat->List W->FR):Den Bool:=
 (dNot (dTru (dIsi K (.type "tuple") (dVar 0))))
noncomputable def q7z(K:PySem.W.Frag)(a:Adr)(r:Nat->List W->FR):List S->SR:=
 (dSeq (dSet 1 (dCall (r q0y) (dCons (dVar 0) (dCons (dC (.int 0)) dNil))))
  (dSeq (dSetT 2 (r q1q) (dCons (dVar 1) dNil))
  (dBase (dSeq (dSetNw 3 (dLendN (dCallN (r q1b) (dCons (dVar 2) dNil))))
  (dSeq (dIfS (dOr (dNot (dTru (dIsiD K (.type "dict") (dVar 3)))) (dTest (dOp ne2 (dFz (dListW (dVar 3))) (dFn sortedP1 (dCons (dFz (dListW (dVar 3))) dNil)))))
  (dRet (dC (.bl false)))
  dNx)
  (dSeq (dSet 4 (dOp ixW (dVar 1) (dC (.int 2))))
  (dSeq (dSet 5 (dC (.int 0)))
  (dSeq (dForR 6 rng1 (dCons (dFn len1 (dCons (dVar 4) dNil)) dNil)
  (q6r K a r))
  (dSeq (dSet 8 (dFn reprD1 (dCons (dVar 3) dNil)))
  (dSeq (dIfS (dOr (dTest (dOp ne2 (dVar 5) (dFn lenT1 (dCons (dVar 3) dNil)))) (dBorrowT (dTest (dOp ne2 (dFz (dCompK [] (dVar 3) (x23 K a r) (y4t K a r))) (dFz (dLst dNil))))))
  (dRet (dC (.bl false)))
  dNx)
  (dSeq (dIfS (dBorrowT (dTest (dOp ne2 (dBorrow (dFn repr1X (dCons (dVar 2) dNil))) (dFn repr1X (dCons (dVar 1) dNil)))))
  (dRet (dC (.bl false)))
  dNx)
  (dSeq (dDrop (dCall (r q1b) (dCons (dCall (r q0y) (dCons (dVar 0) (dCons (dC (.int 8)) dNil))) dNil)))
  (dSeq (dIfS (dTest (dOp ne2 (dFn reprD1 (dCons (dVar 3) dNil)) (dVar 8)))
  (dRet (dC (.bl false)))
  dNx)
  (dAppAll 3 9
  (dSeq (dIfS (dBorrowT (dTest (dOp ne2 (dBorrow (dFn reprD1 (dCons (dCall (r q1b) (dCons (dVar 2) dNil)) dNil))) (dVar 8))))
  (dRet (dC (.bl false)))
  dNx)
  (dSeq (dClearTo 2 2)
  (dRet (dOp eq2 (dFn reprD1 (dCons (dCall (r q1b) (dCons (dCall (r q1q) (dCons (dVar 1) dNil)) dNil)) dNil)) (dVar 8)))))))))))))))))))
noncomputable def body(K:PySem.W.Frag)(a:Adr)(r:Nat->List W->FR)(ws:List W):Nat->FR
 |0=>if ws.length=1 then(q24 K a r (init 3 ws)).fn else .no
 |1=>if ws.length=1 then(q14 K a r (init 6 ws)).fn else .no
 |2=>if ws.length=2 then(q3d K a r (init 2 ws)).fn else .no
 |3=>if ws.length=1 then(q3g K a r (init 7 ws)).fn else .no
 |4=>if ws.length=1 then(q1w K a r (init 3 ws)).fn else .no
 |5=>if ws.length=2 then(q2j K a r (init 6 ws)).fn else .no
 |6=>if ws.length=4 then(q2a K a r (init 9 ws)).fn else .no
 |7=>if ws.length=4 then(q2k K a r (init 5 ws)).fn else .no
 |8=>if ws.length=4 then(q43 K a r (init 4 ws)).fn else .no
 |9=>if ws.length=2 then(q2b K a r (init 2 ws)).fn else .no
 |10=>if ws.length=2 then(q2u K a r (init 3 ws)).fn else .no
 |11=>if ws.length=2 then(q3h K a r (init 4 ws)).fn else .no
 |12=>if ws.length=1 then(q2c K a r (init 1 ws)).fn else .no
 |13=>if ws.length=2 then(q2d K a r (init 16 ws)).fn else .no
 |14=>if ws.length=1 then(q25 K a r (init 1 ws)).fn else .no
 |15=>if ws.length=2 then(q26 K a r (init 2 ws)).fn else .no
 |16=>if ws.length=3 then(q2v K a r (init 8 ws)).fn else .no
 |17=>if ws.length=4 then(q2w K a r (init 6 ws)).fn else .no
 |18=>if ws.length=1 then(q7z K a r (init 10 ws)).fn else .no
 |_=>.no
noncomputable def run(K:PySem.W.Frag)(a:Adr):Nat->Nat->List W->FR
 |0,_,_=>.no
 |n+1,i,ws=>body K a (run K a n) ws i
theorem q5u:run K a (n+1) q15 ws=if ws.length=1 then(q24 K a (run K a n) (init 3 ws)).fn else .no:=rfl
theorem q31:run K a (n+1) q1j ws=if ws.length=1 then(q14 K a (run K a n) (init 6 ws)).fn else .no:=rfl
theorem q6c:run K a (n+1) q2f ws=if ws.length=2 then(q3d K a (run K a n) (init 2 ws)).fn else .no:=rfl
theorem q6d:run K a (n+1) q1b ws=if ws.length=1 then(q3g K a (run K a n) (init 7 ws)).fn else .no:=rfl
theorem q3i:run K a (n+1) q05 ws=if ws.length=1 then(q1w K a (run K a n) (init 3 ws)).fn else .no:=rfl
theorem q4r:run K a (n+1) q1l ws=if ws.length=2 then(q2j K a (run K a n) (init 6 ws)).fn else .no:=rfl
theorem q4g:run K a (n+1) q1m ws=if ws.length=4 then(q2a K a (run K a n) (init 9 ws)).fn else .no:=rfl
theorem q4s:run K a (n+1) q1v ws=if ws.length=4 then(q2k K a (run K a n) (init 5 ws)).fn else .no:=rfl
theorem q9b:run K a (n+1) q3p ws=if ws.length=4 then(q43 K a (run K a n) (init 4 ws)).fn else .no:=rfl
theorem q4h:run K a (n+1) q0t ws=if ws.length=2 then(q2b K a (run K a n) (init 2 ws)).fn else .no:=rfl
theorem q44:run K a (n+1) q06 ws=if ws.length=2 then(q2u K a (run K a n) (init 3 ws)).fn else .no:=rfl
theorem q6e:run K a (n+1) q13 ws=if ws.length=2 then(q3h K a (run K a n) (init 4 ws)).fn else .no:=rfl
theorem q4i:run K a (n+1) q1n ws=if ws.length=1 then(q2c K a (run K a n) (init 1 ws)).fn else .no:=rfl
theorem q4j:run K a (n+1) q0y ws=if ws.length=2 then(q2d K a (run K a n) (init 16 ws)).fn else .no:=rfl
theorem q5v:run K a (n+1) q1q ws=if ws.length=1 then(q25 K a (run K a n) (init 1 ws)).fn else .no:=rfl
theorem q5w:run K a (n+1) q16 ws=if ws.length=2 then(q26 K a (run K a n) (init 2 ws)).fn else .no:=rfl
theorem q45:run K a (n+1) q1z ws=if ws.length=3 then(q2v K a (run K a n) (init 8 ws)).fn else .no:=rfl
theorem q46:run K a (n+1) q10 ws=if ws.length=4 then(q2w K a (run K a n) (init 6 ws)).fn else .no:=rfl
theorem x24:run K a (n+1) q4p ws=if ws.length=1 then(q7z K a (run K a n) (init 10 ws)).fn else .no:=rfl
section
variable{P:Program}{w:World}{base:Heap}
structure Ats(K:PySem.W.Frag)(mg:Str->Option Value):Prop where
 rows_many:At K mg "rows_many" q1g ["many"]
 check_machine:At K mg "check_machine" q0v ["machine"]
 is_state:At K mg "is_state" q1r ["machine", "number"]
 partings:At K mg "partings" q1s ["machine"]
 kinds_by_length:At K mg "kinds_by_length" q0s ["states"]
 finer_kinds:At K mg "finer_kinds" q0x ["states", "kinds"]
 parting_rows:At K mg "parting_rows" q0z ["states", "levels", "first", "second"]
 parting_row:At K mg "parting_row" q04 ["state", "other", "kinds", "length"]
 parts:At K mg "parts" q2n ["pair", "other", "kinds", "length"]
 _law_cell_at:At K mg "_law_cell_at" q00 ["_law_script", "_law_k"]
 _law_mixed:At K mg "_law_mixed" q07 ["_law_cell", "_law_k"]
 _law_row:At K mg "_law_row" q1t ["_law_number", "_law_many"]
 _law_rows_of:At K mg "_law_rows_of" q01 ["_law_many"]
 _law_machine:At K mg "_law_machine" q02 ["_law_script", "_law_at"]
 _law_copy:At K mg "_law_copy" q08 ["_law_machine_here"]
 _law_pair:At K mg "_law_pair" q1h ["_law_low", "_law_high"]
 _law_parts:At K mg "_law_parts" q09 ["_law_states", "_law_pair_here", "_law_rows"]
 _law_alike:At K mg "_law_alike" q1a ["_law_states", "_law_low", "_law_high", "_law_found"]
 law:At K mg "law" q2y ["_law_script"]
structure Cals(P:Program)(w:World)(K:PySem.W.Frag)(mg:Str->Option Value)(base:Heap)(a:Adr)(n:Nat):Prop where
 rows_many:Cal P w K mg base n "rows_many" ["many"] (spF K (run K a n q15))
 check_machine:Cal P w K mg base n "check_machine" ["machine"] (spF K (run K a n q1j))
 is_state:Cal P w K mg base n "is_state" ["machine", "number"] (spF K (run K a n q2f))
 partings:Cal P w K mg base n "partings" ["machine"] (spF K (run K a n q1b))
 kinds_by_length:Cal P w K mg base n "kinds_by_length" ["states"] (spF K (run K a n q05))
 finer_kinds:Cal P w K mg base n "finer_kinds" ["states", "kinds"] (spF K (run K a n q1l))
 parting_rows:Cal P w K mg base n "parting_rows" ["states", "levels", "first", "second"] (spF K (run K a n q1m))
 parting_row:Cal P w K mg base n "parting_row" ["state", "other", "kinds", "length"] (spF K (run K a n q1v))
 parts:Cal P w K mg base n "parts" ["pair", "other", "kinds", "length"] (spF K (run K a n q3p))
 _law_cell_at:Cal P w K mg base n "_law_cell_at" ["_law_script", "_law_k"] (spF K (run K a n q0t))
 _law_mixed:Cal P w K mg base n "_law_mixed" ["_law_cell", "_law_k"] (spF K (run K a n q06))
 _law_row:Cal P w K mg base n "_law_row" ["_law_number", "_law_many"] (spF K (run K a n q13))
 _law_rows_of:Cal P w K mg base n "_law_rows_of" ["_law_many"] (spF K (run K a n q1n))
 _law_machine:Cal P w K mg base n "_law_machine" ["_law_script", "_law_at"] (spF K (run K a n q0y))
 _law_copy:Cal P w K mg base n "_law_copy" ["_law_machine_here"] (spF K (run K a n q1q))
 _law_pair:Cal P w K mg base n "_law_pair" ["_law_low", "_law_high"] (spF K (run K a n q16))
 _law_parts:Cal P w K mg base n "_law_parts" ["_law_states", "_law_pair_here", "_law_rows"] (spF K (run K a n q1z))
 _law_alike:Cal P w K mg base n "_law_alike" ["_law_states", "_law_low", "_law_high", "_law_found"] (spF K (run K a n q10))
 law:Cal P w K mg base n "law" ["_law_script"] (spF K (run K a n q4p))
structure CalsH(P:Program)(w:World)(K:PySem.W.Frag)(mg:Str->Option Value)(base:Heap)(a:Adr)(n:Nat):Prop where
 z:True
theorem x10(B:Blt mg)(M:Exs K mg a)(C:Cals P w K mg base a n)(CH:CalsH P w K mg base a n){outer:List Env}(hr:Room n (A.deeper (PyProof.Rows.envOfC "rows_many" (defScope q1g) s.heap.objs.size f cdv))):
  DSs Z (cxOf (CX1 P w) P w K mg base ["many", "count", "place"] "rows_many" (defScope q1g) f cdv A outer s H E) (fun _=>E) (defBody q1g) (q24 K a (run K a n)):=
 (q0e (q0j 1 sc_rows_many.nd q0c)
  (q0e (q3l 2 sc_rows_many.nd PassesOwn.leaving rfl B.b_range (q0a (dv 0) q0d)
  (q0f (q0j 1 sc_rows_many.nd (q4c q0c (dv 1)))))
  (q0f (q0w (dv 1)))))
theorem q6w(h:run K a (n+1) q15 ws≠.no):ws.length=1/\(q24 K a (run K a n) (init 3 ws)).fn=run K a (n+1) q15 ws:=by
 rw[q5u]at h |-;split at h
 ·rename_i hl;rw[if_pos hl];exact⟨hl,rfl⟩
 ·exact absurd rfl h
theorem x07(B:Blt mg)(M:Exs K mg a)(C:Cals P w K mg base a n)(CH:CalsH P w K mg base a n)(A:Ats K mg):Cal P w K mg base (n+1) "rows_many" ["many"] (spF K (run K a (n+1) q15)):=
 con A.rows_many sc_rows_many (fun ws hw=>(q6w hw).1) fun ws hw f cdv A outer s H E Z hr=>⟨_,x10 B M C CH hr,(q6w hw).2⟩
theorem q70(B:Blt mg)(M:Exs K mg a)(C:Cals P w K mg base a n)(CH:CalsH P w K mg base a n){outer:List Env}(hr:Room n (A.deeper (PyProof.Rows.envOfC "check_machine" (defScope q0v) s.heap.objs.size f cdv))):
  DSs Z (cxOf (CX1 P w) P w K mg base ["machine", "states", "pairs_many", "state", "told", "follower"] "check_machine" (defScope q0v) f cdv A outer s H E) (fun _=>E) (defBody q0v) (q14 K a (run K a n)):=
 (q0e (q0j 1 sc_check_machine.nd (q0i (dv 0) q0c))
  (q0e (q0j 2 sc_check_machine.nd (q03 C.rows_many hr pass1 (q0a (q0i (dv 0) q0c) q0d)))
  (q0e (q1e (q34 (q0k hr) (q19 B.b_len (q0a (dv 1) q0d)) q0c)
  (q0f (q5k rais1 M.e_NoMachine M.m_NoMachine rfl (q0a q7m q0d)))
  q0u)
  (q0f (x5k 3 sc_check_machine.nd PassesOwn.leaving rfl (dv 1)
  (q0e (q1e (q28 (q0k hr) (q19 B.b_len (q0a (dv 3) q0d)) (dv 2))
  (q0f (q5k rais1 M.e_NoMachine M.m_NoMachine rfl (q0a q7m q0d)))
  q0u)
  (q0f (x2n 4 5 sc_check_machine.nd PassesOwn.leaving rfl (x0j (dv 3))
  (q0e (q1e (q28 (q0k hr) (q19 B.b_len (q0a (dv 4) q0d)) (q0i (dv 0) q0c))
  (q0f (q5k rais1 M.e_NoMachine M.m_NoMachine rfl (q0a q7m q0d)))
  q0u)
  (q0f (q1e (q3c (q3b (q03 C.is_state hr pass1 (q0a (dv 0) (q0a (dv 5) q0d)))))
  (q0f (q5k rais1 M.e_NoMachine M.m_NoMachine rfl (q0a q7m q0d)))
  q0u)))))))))))
theorem q4t(h:run K a (n+1) q1j ws≠.no):ws.length=1/\(q14 K a (run K a n) (init 6 ws)).fn=run K a (n+1) q1j ws:=by
 rw[q31]at h |-;split at h
 ·rename_i hl;rw[if_pos hl];exact⟨hl,rfl⟩
 ·exact absurd rfl h
theorem q7c(B:Blt mg)(M:Exs K mg a)(C:Cals P w K mg base a n)(CH:CalsH P w K mg base a n)(A:Ats K mg):Cal P w K mg base (n+1) "check_machine" ["machine"] (spF K (run K a (n+1) q1j)):=
 con A.check_machine sc_check_machine (fun ws hw=>(q4t hw).1) fun ws hw f cdv A outer s H E Z hr=>⟨_,q70 B M C CH hr,(q4t hw).2⟩
theorem x4n(B:Blt mg)(M:Exs K mg a)(C:Cals P w K mg base a n)(CH:CalsH P w K mg base a n){outer:List Env}(hr:Room n (A.deeper (PyProof.Rows.envOfC "is_state" (defScope q1r) s.heap.objs.size f cdv))):
  DSs Z (cxOf (CX1 P w) P w K mg base ["machine", "number"] "is_state" (defScope q1r) f cdv A outer s H E) (fun _=>E) (defBody q1r) (q3d K a (run K a n)):=
 (q0f (q0w (y53 (y81 q0c (dv 1)) (y52 (y08 (dv 1) (q19 B.b_len (q0a (q0i (dv 0) q0c) q0d)))))))
theorem q71(h:run K a (n+1) q2f ws≠.no):ws.length=2/\(q3d K a (run K a n) (init 2 ws)).fn=run K a (n+1) q2f ws:=by
 rw[q6c]at h |-;split at h
 ·rename_i hl;rw[if_pos hl];exact⟨hl,rfl⟩
 ·exact absurd rfl h
theorem x11(B:Blt mg)(M:Exs K mg a)(C:Cals P w K mg base a n)(CH:CalsH P w K mg base a n)(A:Ats K mg):Cal P w K mg base (n+1) "is_state" ["machine", "number"] (spF K (run K a (n+1) q2f)):=
 con A.is_state x1z (fun ws hw=>(q71 hw).1) fun ws hw f cdv A outer s H E Z hr=>⟨_,x4n B M C CH hr,(q71 hw).2⟩
theorem x4o(B:Blt mg)(M:Exs K mg a)(C:Cals P w K mg base a n)(CH:CalsH P w K mg base a n){outer:List Env}(hr:Room n (A.deeper (PyProof.Rows.envOfC "partings" (defScope q1s) s.heap.objs.size f cdv)))(hz:Z.H=H/\Z.io=[]):
  DSs Z (cxOf (CX1 P w) P w K mg base ["machine", "states", "levels", "kinds", "parted", "first", "second"] "partings" (defScope q1s) f cdv A outer s H E) (fun _=>E) (defBody q1s) (q3g K a (run K a n)):=
 (q0e (x2e (q03 C.check_machine hr pass1 (q0a (dv 0) q0d)))
  (q0e (q0j 1 sc_partings.nd (q0i (dv 0) q0c))
  (q0e (q0j 2 sc_partings.nd (q03 C.kinds_by_length hr pass1 (q0a (dv 1) q0d)))
  (q0e (q0j 3 sc_partings.nd (q0i (dv 2) (x0e q0c)))
  (q0e (x2x 4 (.many .int) sc_partings.nd)
  (q0e (q3l 5 sc_partings.nd PassesOwn.leaving rfl B.b_range (q0a (q19 B.b_len (q0a (dv 1) q0d)) q0d)
  (q0f (x2i 6 sc_partings.nd PassesOwn.leaving rfl B.b_range (q0a (q1c (dv 5) q0c) (q0a (q19 B.b_len (q0a (dv 1) q0d)) q0d))
  (q0f (q1e (q28 (q0k hr) (q0i (dv 3) (dv 5)) (q0i (dv 3) (dv 6)))
  (q0f (y0b 4 M.nt (q0k hr) (x61 C.parting_rows hr pass1 (q0a (dv 1) (q0a (dv 2) (q0a (dv 5) (q0a (dv 6) q0d))))) (q3v (q0a (dv 5) (q0a (dv 6) q0d)))))
  q0u)))))
  (q0f (y0c 4 hz.2))))))))
theorem q72(h:run K a (n+1) q1b ws≠.no):ws.length=1/\(q3g K a (run K a n) (init 7 ws)).fn=run K a (n+1) q1b ws:=by
 rw[q6d]at h |-;split at h
 ·rename_i hl;rw[if_pos hl];exact⟨hl,rfl⟩
 ·exact absurd rfl h
theorem x12(B:Blt mg)(M:Exs K mg a)(C:Cals P w K mg base a n)(CH:CalsH P w K mg base a n)(A:Ats K mg):Cal P w K mg base (n+1) "partings" ["machine"] (spF K (run K a (n+1) q1b)):=
 conZ A.partings sc_partings (fun ws hw=>(q72 hw).1) fun ws hw f cdv A outer s H E Z hr hz=>⟨_,x4o B M C CH hr hz,(q72 hw).2⟩
theorem q6u(B:Blt mg)(M:Exs K mg a)(C:Cals P w K mg base a n)(CH:CalsH P w K mg base a n){outer:List Env}(hr:Room n (A.deeper (PyProof.Rows.envOfC "kinds_by_length" (defScope q0s) s.heap.objs.size f cdv))):
  DSs Z (cxOf (CX1 P w) P w K mg base ["states", "levels", "finer"] "kinds_by_length" (defScope q0s) f cdv A outer s H E) (fun _=>E) (defBody q0s) (q1w K a (run K a n)):=
 (q0e (q4z 1 sc_kinds_by_length.nd (q1y (q0a (x0l (q2e (q1y (q0a q0c q0d))) (q19 B.b_len (q0a (dv 0) q0d))) q0d)))
  (q0e (q0j 2 sc_kinds_by_length.nd (q03 C.finer_kinds hr pass1 (q0a (dv 0) (q0a (x5n 1 (x0e q0c)) q0d))))
  (q0e (q5j 1000000 PassesOwn.leaving (y1a (x2y rfl B.b_max (q0a (dv 2) q0d)) (x2y rfl B.b_max (q0a (x5n 1 (x0e q0c)) q0d)))
  (q0e (q40 1 (q0a (dv 2) q0d))
  (q0f (q0j 2 sc_kinds_by_length.nd (q03 C.finer_kinds hr pass1 (q0a (dv 0) (q0a (dv 2) q0d)))))))
  (q0f (x2f 1)))))
theorem q32(h:run K a (n+1) q05 ws≠.no):ws.length=1/\(q1w K a (run K a n) (init 3 ws)).fn=run K a (n+1) q05 ws:=by
 rw[q3i]at h |-;split at h
 ·rename_i hl;rw[if_pos hl];exact⟨hl,rfl⟩
 ·exact absurd rfl h
theorem q6f(B:Blt mg)(M:Exs K mg a)(C:Cals P w K mg base a n)(CH:CalsH P w K mg base a n)(A:Ats K mg):Cal P w K mg base (n+1) "kinds_by_length" ["states"] (spF K (run K a (n+1) q05)):=
 con A.kinds_by_length sc_kinds_by_length (fun ws hw=>(q32 hw).1) fun ws hw f cdv A outer s H E Z hr=>⟨_,q6u B M C CH hr,(q32 hw).2⟩
theorem q9o(B:Blt mg)(M:Exs K mg a)(C:Cals P w K mg base a n)(CH:CalsH P w K mg base a n){outer:List Env}(hr:Room n (A.deeper (PyProof.Rows.envOfC "finer_kinds" (defScope q0x) s.heap.objs.size f cdv))):
  DSs Z (cxOf (CX1 P w) P w K mg base ["states", "kinds", "numbers", "finer", "state", "seen"] "finer_kinds" (defScope q0x) f cdv A outer s H E) (fun _=>E) (defBody q0x) (q2j K a (run K a n)):=
 (q0e (x2x 2 (.many (.tup [.many .bl,.int])) sc_finer_kinds.nd)
  (q0e (q4z 3 sc_finer_kinds.nd (q1y q0d))
  (q0e (x5k 4 sc_finer_kinds.nd PassesOwn.leaving rfl (dv 0)
  (q0e (q0j 5 sc_finer_kinds.nd (q69 B.b_tuple (q0a (q2e (x8y (x:="told") (y:="follower") (Nf:=["kinds"]) (js:=[1]) (sc:=defScope q0x) (N:=["states", "kinds", "numbers", "finer", "state", "seen"]) rfl (x0j (dv 4)) (by decide +kernel)
   (fun _ _ _ _ _ _=>x2j)
   (fun _ _ _ _ _ _=>(q3v (q0a (dv 0) (q0a (q0i (dv 2) (dv 1)) q0d))))
   (fun _ _ _ _ _=>y7n (show(["told", "follower", "kinds"]:List Str).Nodup by decide +kernel) rfl))) q0d)))
  (q0e (q1e (q4o fun _=>(y30 M.nt (q0k hr) (dv 5) (dv 2)))
  (q0f (y31 2 M.nt (q0k hr) (q4n fun _=>(x2w B.b_len (q0a (dv 2) q0d))) (dv 5)))
  q0u)
  (q0f (q40 3 (q0a (q4n fun _=>(x6y M.nt (q0k hr) (dv 2) (dv 5))) q0d))))))
  (q0f (x2f 3)))))
theorem q5x(h:run K a (n+1) q1l ws≠.no):ws.length=2/\(q2j K a (run K a n) (init 6 ws)).fn=run K a (n+1) q1l ws:=by
 rw[q4r]at h |-;split at h
 ·rename_i hl;rw[if_pos hl];exact⟨hl,rfl⟩
 ·exact absurd rfl h
theorem q8k(B:Blt mg)(M:Exs K mg a)(C:Cals P w K mg base a n)(CH:CalsH P w K mg base a n)(A:Ats K mg):Cal P w K mg base (n+1) "finer_kinds" ["states", "kinds"] (spF K (run K a (n+1) q1l)):=
 con A.finer_kinds sc_finer_kinds (fun ws hw=>(q5x hw).1) fun ws hw f cdv A outer s H E Z hr=>⟨_,q9o B M C CH hr,(q5x hw).2⟩
theorem q8l(B:Blt mg)(M:Exs K mg a)(C:Cals P w K mg base a n)(CH:CalsH P w K mg base a n){outer:List Env}(hr:Room n (A.deeper (PyProof.Rows.envOfC "parting_rows" (defScope q0z) s.heap.objs.size f cdv))):
  DSs Z (cxOf (CX1 P w) P w K mg base ["states", "levels", "first", "second", "length", "numbers", "left", "right", "number"] "parting_rows" (defScope q0z) f cdv A outer s H E) (fun _=>E) (defBody q0z) (q2a K a (run K a n)):=
 (q0e (q0j 4 sc_parting_rows.nd q0c)
  (q0e (q5j 1000000 PassesOwn.leaving (q34 (q0k hr) (q0i (q0i (dv 1) (dv 4)) (dv 2)) (q0i (q0i (dv 1) (dv 4)) (dv 3)))
  (q0f (q0j 4 sc_parting_rows.nd (q1c (dv 4) q0c))))
  (q0e (q4z 5 sc_parting_rows.nd (q1y q0d))
  (q0e (q0j 6 sc_parting_rows.nd (dv 2))
  (q0e (q0j 7 sc_parting_rows.nd (dv 3))
  (q0e (q5j 1000000 PassesOwn.leaving (y1a (dv 4) q0c)
  (q0e (q0j 4 sc_parting_rows.nd (q4b (dv 4) q0c))
  (q0e (q0j 8 sc_parting_rows.nd (q03 C.parting_row hr pass1 (q0a (q0i (dv 0) (dv 6)) (q0a (q0i (dv 0) (dv 7)) (q0a (q0i (dv 1) (dv 4)) (q0a (dv 4) q0d))))))
  (q0e (q40 5 (q0a (dv 8) q0d))
  (q0e (q0j 6 sc_parting_rows.nd (q0i (q0i (q0i (dv 0) (dv 6)) (dv 8)) q0c))
  (q0f (q0j 7 sc_parting_rows.nd (q0i (q0i (q0i (dv 0) (dv 7)) (dv 8)) q0c))))))))
  (q0f (x9r (y77 5)))))))))
theorem q47(h:run K a (n+1) q1m ws≠.no):ws.length=4/\(q2a K a (run K a n) (init 9 ws)).fn=run K a (n+1) q1m ws:=by
 rw[q4g]at h |-;split at h
 ·rename_i hl;rw[if_pos hl];exact⟨hl,rfl⟩
 ·exact absurd rfl h
theorem q73(B:Blt mg)(M:Exs K mg a)(C:Cals P w K mg base a n)(CH:CalsH P w K mg base a n)(A:Ats K mg):Cal P w K mg base (n+1) "parting_rows" ["states", "levels", "first", "second"] (spF K (run K a (n+1) q1m)):=
 con A.parting_rows sc_parting_rows (fun ws hw=>(q47 hw).1) fun ws hw f cdv A outer s H E Z hr=>⟨_,q8l B M C CH hr,(q47 hw).2⟩
theorem q9p(B:Blt mg)(M:Exs K mg a)(C:Cals P w K mg base a n)(CH:CalsH P w K mg base a n){outer:List Env}(hr:Room n (A.deeper (PyProof.Rows.envOfC "parting_row" (defScope q04) s.heap.objs.size f cdv))):
  DSs Z (cxOf (CX1 P w) P w K mg base ["state", "other", "kinds", "length", "number"] "parting_row" (defScope q04) f cdv A outer s H E) (fun _=>E) (defBody q04) (q2k K a (run K a n)):=
 (q0e (q0j 4 sc_parting_row.nd q0c)
  (q0e (q5j 1000000 PassesOwn.leaving (q3c (q3b (q03 C.parts hr pass1 (q0a (q0i (dv 0) (dv 4)) (q0a (q0i (dv 1) (dv 4)) (q0a (dv 2) (q0a (dv 3) q0d)))))))
  (q0f (q0j 4 sc_parting_row.nd (q1c (dv 4) q0c))))
  (q0f (q0w (dv 4)))))
theorem q5y(h:run K a (n+1) q1v ws≠.no):ws.length=4/\(q2k K a (run K a n) (init 5 ws)).fn=run K a (n+1) q1v ws:=by
 rw[q4s]at h |-;split at h
 ·rename_i hl;rw[if_pos hl];exact⟨hl,rfl⟩
 ·exact absurd rfl h
theorem q8m(B:Blt mg)(M:Exs K mg a)(C:Cals P w K mg base a n)(CH:CalsH P w K mg base a n)(A:Ats K mg):Cal P w K mg base (n+1) "parting_row" ["state", "other", "kinds", "length"] (spF K (run K a (n+1) q1v)):=
 con A.parting_row sc_parting_row (fun ws hw=>(q5y hw).1) fun ws hw f cdv A outer s H E Z hr=>⟨_,q9p B M C CH hr,(q5y hw).2⟩
theorem y4u(B:Blt mg)(M:Exs K mg a)(C:Cals P w K mg base a n)(CH:CalsH P w K mg base a n){outer:List Env}(hr:Room n (A.deeper (PyProof.Rows.envOfC "parts" (defScope q2n) s.heap.objs.size f cdv))):
  DSs Z (cxOf (CX1 P w) P w K mg base ["pair", "other", "kinds", "length"] "parts" (defScope q2n) f cdv A outer s H E) (fun _=>E) (defBody q2n) (q43 K a (run K a n)):=
 (q0e (q1e (q34 (q0k hr) (dv 3) q0c)
  (q0f (q0w (y09 (q0k hr) (q0i (dv 0) q0c) (q0i (dv 1) q0c))))
  q0u)
  (q0f (q0w (y09 (q0k hr) (q0i (dv 2) (q0i (dv 0) q0c)) (q0i (dv 2) (q0i (dv 1) q0c))))))
theorem x25(h:run K a (n+1) q3p ws≠.no):ws.length=4/\(q43 K a (run K a n) (init 4 ws)).fn=run K a (n+1) q3p ws:=by
 rw[q9b]at h |-;split at h
 ·rename_i hl;rw[if_pos hl];exact⟨hl,rfl⟩
 ·exact absurd rfl h
theorem y0l(B:Blt mg)(M:Exs K mg a)(C:Cals P w K mg base a n)(CH:CalsH P w K mg base a n)(A:Ats K mg):Cal P w K mg base (n+1) "parts" ["pair", "other", "kinds", "length"] (spF K (run K a (n+1) q3p)):=
 con A.parts y0k (fun ws hw=>(x25 hw).1) fun ws hw f cdv A outer s H E Z hr=>⟨_,y4u B M C CH hr,(x25 hw).2⟩
theorem q8n(B:Blt mg)(M:Exs K mg a)(C:Cals P w K mg base a n)(CH:CalsH P w K mg base a n){outer:List Env}(hr:Room n (A.deeper (PyProof.Rows.envOfC "_law_cell_at" (defScope q00) s.heap.objs.size f cdv))):
  DSs Z (cxOf (CX1 P w) P w K mg base ["_law_script", "_law_k"] "_law_cell_at" (defScope q00) f cdv A outer s H E) (fun _=>E) (defBody q00) (q2b K a (run K a n)):=
 (q0e (q1e (y83 (dv 1) (q19 B.b_len (q0a (dv 0) q0d)))
  (q0f (q0w (q0i (dv 0) (dv 1))))
  q0u)
  (q0f (q0w q0c)))
theorem q48(h:run K a (n+1) q0t ws≠.no):ws.length=2/\(q2b K a (run K a n) (init 2 ws)).fn=run K a (n+1) q0t ws:=by
 rw[q4h]at h |-;split at h
 ·rename_i hl;rw[if_pos hl];exact⟨hl,rfl⟩
 ·exact absurd rfl h
theorem q74(B:Blt mg)(M:Exs K mg a)(C:Cals P w K mg base a n)(CH:CalsH P w K mg base a n)(A:Ats K mg):Cal P w K mg base (n+1) "_law_cell_at" ["_law_script", "_law_k"] (spF K (run K a (n+1) q0t)):=
 con A._law_cell_at q7x (fun ws hw=>(q48 hw).1) fun ws hw f cdv A outer s H E Z hr=>⟨_,q8n B M C CH hr,(q48 hw).2⟩
theorem x08(B:Blt mg)(M:Exs K mg a)(C:Cals P w K mg base a n)(CH:CalsH P w K mg base a n){outer:List Env}(hr:Room n (A.deeper (PyProof.Rows.envOfC "_law_mixed" (defScope q07) s.heap.objs.size f cdv))):
  DSs Z (cxOf (CX1 P w) P w K mg base ["_law_cell", "_law_k", "_law_number"] "_law_mixed" (defScope q07) f cdv A outer s H E) (fun _=>E) (defBody q07) (q2u K a (run K a n)):=
 (q0e (q0j 2 sc__law_mixed.nd (q1d (q4c (q1c (dv 0) (q4c q0c (dv 1))) q0c) q0c))
  (q0f (q0w (q1d (q1c (q1c (q4c (dv 2) (dv 2)) (q4c q0c (dv 2))) (dv 1)) q0c))))
theorem q6g(h:run K a (n+1) q06 ws≠.no):ws.length=2/\(q2u K a (run K a n) (init 3 ws)).fn=run K a (n+1) q06 ws:=by
 rw[q44]at h |-;split at h
 ·rename_i hl;rw[if_pos hl];exact⟨hl,rfl⟩
 ·exact absurd rfl h
theorem q9q(B:Blt mg)(M:Exs K mg a)(C:Cals P w K mg base a n)(CH:CalsH P w K mg base a n)(A:Ats K mg):Cal P w K mg base (n+1) "_law_mixed" ["_law_cell", "_law_k"] (spF K (run K a (n+1) q06)):=
 con A._law_mixed sc__law_mixed (fun ws hw=>(q6g hw).1) fun ws hw f cdv A outer s H E Z hr=>⟨_,x08 B M C CH hr,(q6g hw).2⟩
theorem x4p(B:Blt mg)(M:Exs K mg a)(C:Cals P w K mg base a n)(CH:CalsH P w K mg base a n){outer:List Env}(hr:Room n (A.deeper (PyProof.Rows.envOfC "_law_row" (defScope q1t) s.heap.objs.size f cdv))):
  DSs Z (cxOf (CX1 P w) P w K mg base ["_law_number", "_law_many", "_law_row_here", "_law_step"] "_law_row" (defScope q1t) f cdv A outer s H E) (fun _=>E) (defBody q1t) (q3h K a (run K a n)):=
 (q0e (q4z 2 sc__law_row.nd (q1y q0d))
  (q0e (q3l 3 sc__law_row.nd PassesOwn.leaving rfl B.b_range (q0a (dv 1) q0d)
  (q0e (q40 2 (q0a (q9u (q0k hr) (q1d (dv 0) q0c) q0c) q0d))
  (q0f (q0j 0 sc__law_row.nd (q2m (dv 0) q0c)))))
  (q0e (y7v 2)
  (q0f (q0w (q69 B.b_tuple (q0a (dv 2) q0d)))))))
theorem q75(h:run K a (n+1) q13 ws≠.no):ws.length=2/\(q3h K a (run K a n) (init 4 ws)).fn=run K a (n+1) q13 ws:=by
 rw[q6e]at h |-;split at h
 ·rename_i hl;rw[if_pos hl];exact⟨hl,rfl⟩
 ·exact absurd rfl h
theorem x13(B:Blt mg)(M:Exs K mg a)(C:Cals P w K mg base a n)(CH:CalsH P w K mg base a n)(A:Ats K mg):Cal P w K mg base (n+1) "_law_row" ["_law_number", "_law_many"] (spF K (run K a (n+1) q13)):=
 con A._law_row sc__law_row (fun ws hw=>(q75 hw).1) fun ws hw f cdv A outer s H E Z hr=>⟨_,x4p B M C CH hr,(q75 hw).2⟩
theorem q8o(B:Blt mg)(M:Exs K mg a)(C:Cals P w K mg base a n)(CH:CalsH P w K mg base a n){outer:List Env}(hr:Room n (A.deeper (PyProof.Rows.envOfC "_law_rows_of" (defScope q01) s.heap.objs.size f cdv))):
  DSs Z (cxOf (CX1 P w) P w K mg base ["_law_many"] "_law_rows_of" (defScope q01) f cdv A outer s H E) (fun _=>E) (defBody q01) (q2c K a (run K a n)):=
 (q0f (q0w (q0i (q2e (q1y (q0a q0c (q0a q0c (q0a q0c (q0a q0c q0d)))))) (dv 0))))
theorem q49(h:run K a (n+1) q1n ws≠.no):ws.length=1/\(q2c K a (run K a n) (init 1 ws)).fn=run K a (n+1) q1n ws:=by
 rw[q4i]at h |-;split at h
 ·rename_i hl;rw[if_pos hl];exact⟨hl,rfl⟩
 ·exact absurd rfl h
theorem q76(B:Blt mg)(M:Exs K mg a)(C:Cals P w K mg base a n)(CH:CalsH P w K mg base a n)(A:Ats K mg):Cal P w K mg base (n+1) "_law_rows_of" ["_law_many"] (spF K (run K a (n+1) q1n)):=
 con A._law_rows_of q7y (fun ws hw=>(q49 hw).1) fun ws hw f cdv A outer s H E Z hr=>⟨_,q8o B M C CH hr,(q49 hw).2⟩
theorem q8p(B:Blt mg)(M:Exs K mg a)(C:Cals P w K mg base a n)(CH:CalsH P w K mg base a n){outer:List Env}(hr:Room n (A.deeper (PyProof.Rows.envOfC "_law_machine" (defScope q02) s.heap.objs.size f cdv))):
  DSs Z (cxOf (CX1 P w) P w K mg base ["_law_script", "_law_at", "_law_cell", "_law_kinds", "_law_many", "_law_wide", "_law_size", "_law_base", "_law_states", "_law_k", "_law_state", "_law_number", "_law_left", "_law_told", "_law_goal", "_law_twin"] "_law_machine" (defScope q02) f cdv A outer s H E) (fun _=>E) (defBody q02) (q2d K a (run K a n)):=
 (q0e (q0j 2 sc__law_machine.nd (q03 C._law_cell_at hr pass1 (q0a (dv 0) (q0a (dv 1) q0d))))
  (q0e (q0j 3 sc__law_machine.nd (q03 C._law_cell_at hr pass1 (q0a (dv 0) (q0a (q1c (dv 1) q0c) q0d))))
  (q0e (q0j 4 sc__law_machine.nd (q1d (dv 2) q0c))
  (q0e (q0j 5 sc__law_machine.nd (q0i (q2e (q1y (q0a q0c (q0a q0c (q0a q0c (q0a q0c (q0a q0c (q0a (q1c q0c (q1d (q2m (dv 3) q0c) q0c)) (q0a q0c (q0a q0c q0d)))))))))) (q1d (q2m (dv 3) q0c) q0c)))
  (q0e (q0j 6 sc__law_machine.nd (q1c q0c (q1d (q2m (dv 2) q0c) q0c)))
  (q0e (q1e (dt_w (q5g (q34 (q0k hr) (dv 6) q0c) (q4y (q34 (q0k hr) (dv 6) q0c))))
  (q0e (q0j 6 sc__law_machine.nd (q1c q0c (q1d (q2m (dv 2) q0c) q0c)))
  (q0f (q0j 4 sc__law_machine.nd (q6m rfl B.b_min (q0a (dv 4) (q0a (q0i (q2e (q1y (q0a q0c (q0a q0c q0d)))) (y3b B.b_int (q0a (y82 (dv 6) q0c) q0d))) q0d))))))
  q0u)
  (q0e (q1e (q34 (q0k hr) (dv 6) q0c)
  (q0e (q0j 6 sc__law_machine.nd (q1c q0c (q1d (q2m (dv 2) q0c) q0c)))
  (q0f (q0j 4 sc__law_machine.nd (q1d (dv 4) q0c))))
  q0u)
  (q0e (q0j 7 sc__law_machine.nd (q4b (dv 6) (q1d (q2m (dv 3) q0c) (dv 6))))
  (q0e (q4z 8 sc__law_machine.nd (q1y q0d))
  (q0e (q3l 9 sc__law_machine.nd PassesOwn.leaving rfl B.b_range (q0a (dv 6) q0d)
  (q0e (q4z 10 sc__law_machine.nd (q1y q0d))
  (q0e (q3l 11 sc__law_machine.nd PassesOwn.leaving rfl B.b_range (q0a (q03 C._law_rows_of hr pass1 (q0a (dv 4) q0d)) q0d)
  (q0e (q0j 12 sc__law_machine.nd (q03 C._law_mixed hr pass1 (q0a (q03 C._law_cell_at hr pass1 (q0a (dv 0) (q0a (q1c (q1c (dv 1) q0c) (q1d (q1d (dv 9) (dv 7)) q0c)) q0d))) (q0a (q1c (q4c q0c (q1d (dv 9) (dv 7))) (dv 11)) q0d))))
  (q0e (q0j 13 sc__law_machine.nd (x0l (q2e (q1y (q0a q2q q0d))) (dv 5)))
  (q0e (q1e (q34 (q0k hr) (q1d (dv 12) q0c) q0c)
  (q0f (q0j 13 sc__law_machine.nd (q2e (x2l B.b_list (q0a (q03 C._law_row hr pass1 (q0a (q2m (dv 12) q0c) (q0a (dv 5) q0d))) q0d)))))
  q0u)
  (q0e (q0j 14 sc__law_machine.nd (q1d (q2m (dv 12) q0c) (dv 7)))
  (q0e (q1e (q34 (q0k hr) (q1d (dv 3) q0c) q0c)
  (q0e (q0j 13 sc__law_machine.nd (x0l (q2e (q1y (q0a (q9u (q0k hr) (q1d (dv 9) (dv 7)) (q4b (dv 7) q0c)) q0d))) (dv 5)))
  (q0f (q0j 14 sc__law_machine.nd (q0i (q2e (q1y (q0a (q6m rfl B.b_min (q0a (q1c (q1d (dv 9) (dv 7)) q0c) (q0a (q4b (dv 7) q0c) q0d))) (q0a q0c q0d)))) (q6m rfl B.b_min (q0a (dv 11) (q0a q0c q0d)))))))
  q0u)
  (q0e (q0j 15 sc__law_machine.nd (q1d (q03 C._law_mixed hr pass1 (q0a (q1c (dv 3) (dv 9)) (q0a (dv 11) q0d))) (q1c (q2m (q4b (q4b (dv 6) q0c) (dv 14)) (dv 7)) q0c)))
  (q0f (q40 10 (q0a (q3v (q0a (q69 B.b_tuple (q0a (dv 13) q0d)) (q0a (q1c (dv 14) (q4c (dv 7) (dv 15))) q0d))) q0d))))))))))
  (q0f (q40 8 (q0a (dv 10) q0d))))))
  (q0f (q0w (q3v (q0a (dv 4) (q0a (dv 5) (q0a (dv 8) q0d))))))))))))))))
theorem q5a(h:run K a (n+1) q0y ws≠.no):ws.length=2/\(q2d K a (run K a n) (init 16 ws)).fn=run K a (n+1) q0y ws:=by
 rw[q4j]at h |-;split at h
 ·rename_i hl;rw[if_pos hl];exact⟨hl,rfl⟩
 ·exact absurd rfl h
theorem q77(B:Blt mg)(M:Exs K mg a)(C:Cals P w K mg base a n)(CH:CalsH P w K mg base a n)(A:Ats K mg):Cal P w K mg base (n+1) "_law_machine" ["_law_script", "_law_at"] (spF K (run K a (n+1) q0y)):=
 con A._law_machine sc__law_machine (fun ws hw=>(q5a hw).1) fun ws hw f cdv A outer s H E Z hr=>⟨_,q8p B M C CH hr,(q5a hw).2⟩
theorem x14(B:Blt mg)(M:Exs K mg a)(C:Cals P w K mg base a n)(CH:CalsH P w K mg base a n){outer:List Env}(hr:Room n (A.deeper (PyProof.Rows.envOfC "_law_copy" (defScope q08) s.heap.objs.size f cdv)))(hz:Z.H=H/\Z.io=[]):
  DSs Z (cxOf (CX1 P w) P w K mg base ["_law_machine_here"] "_law_copy" (defScope q08) f cdv A outer s H E) (fun _=>E) (defBody q08) (q25 K a (run K a n)):=
 (q0f (y3r hz.2 (q0i (dv 0) q0c) (q0i (dv 0) q0c) (y2a (x:="_law_state") (Nf:=[]) (js:=[]) (sc:=defScope q08) (N:=["_law_machine_here"]) rfl (q0i (dv 0) q0c) (by decide +kernel)
   (fun _ _ _ _ _ _=>x2j)
   (fun _ _ _ _ _ _=>(q2e (x2l B.b_list (q0a (dv 0) q0d))))
   (fun _ _ _ _ _=>q27 0 (show(["_law_state"]:List Str).Nodup by decide +kernel)))))
theorem q6x(h:run K a (n+1) q1q ws≠.no):ws.length=1/\(q25 K a (run K a n) (init 1 ws)).fn=run K a (n+1) q1q ws:=by
 rw[q5v]at h |-;split at h
 ·rename_i hl;rw[if_pos hl];exact⟨hl,rfl⟩
 ·exact absurd rfl h
theorem x09(B:Blt mg)(M:Exs K mg a)(C:Cals P w K mg base a n)(CH:CalsH P w K mg base a n)(A:Ats K mg):Cal P w K mg base (n+1) "_law_copy" ["_law_machine_here"] (spF K (run K a (n+1) q1q)):=
 conZ A._law_copy x05 (fun ws hw=>(q6x hw).1) fun ws hw f cdv A outer s H E Z hr hz=>⟨_,x14 B M C CH hr hz,(q6x hw).2⟩
theorem x15(B:Blt mg)(M:Exs K mg a)(C:Cals P w K mg base a n)(CH:CalsH P w K mg base a n){outer:List Env}(hr:Room n (A.deeper (PyProof.Rows.envOfC "_law_pair" (defScope q1h) s.heap.objs.size f cdv))):
  DSs Z (cxOf (CX1 P w) P w K mg base ["_law_low", "_law_high"] "_law_pair" (defScope q1h) f cdv A outer s H E) (fun _=>E) (defBody q1h) (q26 K a (run K a n)):=
 (q0f (q0w (q3v (q0a (q6m rfl B.b_min (q0a (dv 0) (q0a (dv 1) q0d))) (q0a (y3a rfl B.b_max (q0a (dv 0) (q0a (dv 1) q0d))) q0d)))))
theorem q6y(h:run K a (n+1) q16 ws≠.no):ws.length=2/\(q26 K a (run K a n) (init 2 ws)).fn=run K a (n+1) q16 ws:=by
 rw[q5w]at h |-;split at h
 ·rename_i hl;rw[if_pos hl];exact⟨hl,rfl⟩
 ·exact absurd rfl h
theorem x1a(B:Blt mg)(M:Exs K mg a)(C:Cals P w K mg base a n)(CH:CalsH P w K mg base a n)(A:Ats K mg):Cal P w K mg base (n+1) "_law_pair" ["_law_low", "_law_high"] (spF K (run K a (n+1) q16)):=
 con A._law_pair x06 (fun ws hw=>(q6y hw).1) fun ws hw f cdv A outer s H E Z hr=>⟨_,x15 B M C CH hr,(q6y hw).2⟩
theorem x1b(B:Blt mg)(M:Exs K mg a)(C:Cals P w K mg base a n)(CH:CalsH P w K mg base a n){outer:List Env}(hr:Room n (A.deeper (PyProof.Rows.envOfC "_law_parts" (defScope q09) s.heap.objs.size f cdv))):
  DSs Z (cxOf (CX1 P w) P w K mg base ["_law_states", "_law_pair_here", "_law_rows", "_law_low", "_law_high", "_law_k", "_law_one", "_law_other"] "_law_parts" (defScope q09) f cdv A outer s H E) (fun _=>E) (defBody q09) (q2v K a (run K a n)):=
 (q0e (y3i 3 4 sc__law_parts.nd rfl (dv 1))
  (q0e (q1e (dt_w (q5g (q3c (q3b (q7q (c0:=.ty _) rfl (q41 PyProof.Rows.Boot.«list» B.b_list) B.b_isinstance (dv 2)))) (q4y (q34 (q0k hr) (dv 2) (q2e (q1y q0d))))))
  (q0f (q0w q2q))
  q0u)
  (q0e (q3l 5 sc__law_parts.nd PassesOwn.leaving rfl B.b_range (q0a (q19 B.b_len (q0a (dv 2) q0d)) q0d)
  (q0e (q1e (dt_w (q5g (q3c (q3b (q7q (c0:=.ty _) rfl (q41 PyProof.Rows.Boot.«int» B.b_int) B.b_isinstance (q0i (dv 2) (dv 5))))) (q5g (q3b (q7q (c0:=.ty _) rfl (q41 PyProof.Rows.Boot.«bool» B.b_bool) B.b_isinstance (q0i (dv 2) (dv 5)))) (q4y (q3c (y3h q0c (q0i (dv 2) (dv 5)) (q19 B.b_len (q0a (q0i (dv 0) (dv 3)) q0d))))))))
  (q0f (q0w q2q))
  q0u)
  (q0e (q0j 6 sc__law_parts.nd (q0i (q0i (dv 0) (dv 3)) (q0i (dv 2) (dv 5))))
  (q0e (q0j 7 sc__law_parts.nd (q0i (q0i (dv 0) (dv 4)) (q0i (dv 2) (dv 5))))
  (q0e (q1e (q28 (q0k hr) (q9u (q0k hr) (q0i (dv 6) q0c) (q0i (dv 7) q0c)) (y08 (dv 5) (q4b (q19 B.b_len (q0a (dv 2) q0d)) q0c)))
  (q0f (q0w q2q))
  q0u)
  (q0e (q0j 3 sc__law_parts.nd (q0i (dv 6) q0c))
  (q0f (q0j 4 sc__law_parts.nd (q0i (dv 7) q0c)))))))))
  (q0f (q0w q2q)))))
theorem q6h(h:run K a (n+1) q1z ws≠.no):ws.length=3/\(q2v K a (run K a n) (init 8 ws)).fn=run K a (n+1) q1z ws:=by
 rw[q45]at h |-;split at h
 ·rename_i hl;rw[if_pos hl];exact⟨hl,rfl⟩
 ·exact absurd rfl h
theorem q9r(B:Blt mg)(M:Exs K mg a)(C:Cals P w K mg base a n)(CH:CalsH P w K mg base a n)(A:Ats K mg):Cal P w K mg base (n+1) "_law_parts" ["_law_states", "_law_pair_here", "_law_rows"] (spF K (run K a (n+1) q1z)):=
 con A._law_parts sc__law_parts (fun ws hw=>(q6h hw).1) fun ws hw f cdv A outer s H E Z hr=>⟨_,x1b B M C CH hr,(q6h hw).2⟩
theorem x1c(B:Blt mg)(M:Exs K mg a)(C:Cals P w K mg base a n)(CH:CalsH P w K mg base a n){outer:List Env}(hr:Room n (A.deeper (PyProof.Rows.envOfC "_law_alike" (defScope q1a) s.heap.objs.size f cdv))):
  DSs Z (cxOf (CX1 P w) P w K mg base ["_law_states", "_law_low", "_law_high", "_law_found", "_law_one", "_law_other"] "_law_alike" (defScope q1a) f cdv A outer s H E) (fun _=>E) (defBody q1a) (q2w K a (run K a n)):=
 (q0e (x2n 4 5 sc__law_alike.nd PassesOwn.leaving rfl (y7t B.b_zip (q0a (q0i (dv 0) (dv 1)) (q0a (q0i (dv 0) (dv 2)) q0d)))
  (q0f (q1e (dt_w (q5g (q28 (q0k hr) (q0i (dv 4) q0c) (q0i (dv 5) q0c)) (q4y (dt_w (y51 (q28 (q0k hr) (q0i (dv 4) q0c) (q0i (dv 5) q0c)) (y16 (x6x M.nt (q0k hr) (q03 C._law_pair hr pass1 (q0a (q0i (dv 4) q0c) (q0a (q0i (dv 5) q0c) q0d))) (dv 3))))))))
  (q0f (q0w q2q))
  q0u)))
  (q0f (q0w q2q)))
theorem q6i(h:run K a (n+1) q10 ws≠.no):ws.length=4/\(q2w K a (run K a n) (init 6 ws)).fn=run K a (n+1) q10 ws:=by
 rw[q46]at h |-;split at h
 ·rename_i hl;rw[if_pos hl];exact⟨hl,rfl⟩
 ·exact absurd rfl h
theorem q9s(B:Blt mg)(M:Exs K mg a)(C:Cals P w K mg base a n)(CH:CalsH P w K mg base a n)(A:Ats K mg):Cal P w K mg base (n+1) "_law_alike" ["_law_states", "_law_low", "_law_high", "_law_found"] (spF K (run K a (n+1) q10)):=
 con A._law_alike sc__law_alike (fun ws hw=>(q6i hw).1) fun ws hw f cdv A outer s H E Z hr=>⟨_,x1c B M C CH hr,(q6i hw).2⟩
theorem y1d(B:Blt mg)(M:Exs K mg a)(C:Cals P w K mg base a n)(CH:CalsH P w K mg base a n){outer:List Env}(hr:Room n (A.deeper (PyProof.Rows.envOfC "law" (defScope q2y) s.heap.objs.size f cdv)))(hz:Z.H=H/\Z.io=[]):
  DSs Z (cxOf (CX1 P w) P w K mg base ["_law_script", "_law_machine_here", "_law_handed", "_law_found", "_law_states", "_law_many", "_law_low", "_law_high", "_law_kept", "_law_pair_here"] "law" (defScope q2y) f cdv A outer s H E) (fun _=>E) (defBody q2y) (q7z K a (run K a n)):=
 (q0e (q0j 1 sc_law.nd (q03 C._law_machine hr pass1 (q0a (dv 0) (q0a q0c q0d))))
  (q0e (y3s 2 sc_law.nd C._law_copy hr pass1 (q0a (dv 1) q0d))
  (x9u hz.1 hz.2 fun _ hzb hG hio=>
  (q1k (x9s 3 sc_law.nd (y38 hio fun _=>(x61 C.partings hr pass1 (q0a (dv 2) q0d))))
  (q1k (q1e (dt_w (q5g (q3c (q3b (y4n (c0:=.ty _) rfl (q41 PyProof.Rows.Boot.«dict» B.b_dict) B.b_isinstance (dv 3)))) (q4y (q28 (q0k hr) (q2e (x04 rfl B.b_list (dv 3))) (x4h rfl B.b_sorted (q0a (q2e (x04 rfl B.b_list (dv 3))) q0d))))))
  (q0f (q0w q2q))
  q0u)
  (q1k (q0j 4 sc_law.nd (q0i (dv 1) q0c))
  (q1k (q0j 5 sc_law.nd q0c)
  (q1k (q3l 6 sc_law.nd PassesOwn.leaving rfl B.b_range (q0a (q19 B.b_len (q0a (dv 4) q0d)) q0d)
  (q0f (x2i 7 sc_law.nd PassesOwn.leaving rfl B.b_range (q0a (q1c (dv 6) q0c) (q0a (q19 B.b_len (q0a (dv 4) q0d)) q0d))
  (q0f (q1e (x6x M.nt (q0k hr) (q3v (q0a (dv 6) (q0a (dv 7) q0d))) (dv 3))
  (q0e (q0j 5 sc_law.nd (q1c (dv 5) q0c))
  (q0f (q1e (q3c (q3b (q03 C._law_parts hr pass1 (q0a (dv 4) (q0a (q3v (q0a (dv 6) (q0a (dv 7) q0d))) (q0a (x6y M.nt (q0k hr) (dv 3) (q3v (q0a (dv 6) (q0a (dv 7) q0d)))) q0d))))))
  (q0f (q0w q2q))
  q0u)))
  (q0f (q1e (q3c (q3b (q03 C._law_alike hr pass1 (q0a (dv 4) (q0a (dv 6) (q0a (dv 7) (q0a (dv 3) q0d)))))))
  (q0f (q0w q2q))
  q0u)))))))
  (q1k (q0j 8 sc_law.nd (q5q (q0k hr) hr.gd B.b_repr (q0a (dv 3) q0d)))
  (q1k (q1e (dt_w (q5g (q28 (q0k hr) (dv 5) (x2w B.b_len (q0a (dv 3) q0d))) (q4y (q4o fun _=>(q28 (q0k hr) (q2e (y0e (x:="_law_pair_here") (Nf:=[]) (js:=[]) (sc:=defScope q2y) (N:=["_law_script", "_law_machine_here", "_law_handed", "_law_found", "_law_states", "_law_many", "_law_low", "_law_high", "_law_kept", "_law_pair_here"]) rfl (dv 3) (by decide +kernel)
   (fun _ _ _ _ _ _=>(y19 (q3c (q3b (q7q (c0:=.ty _) rfl (q41 PyProof.Rows.Boot.«tuple» B.b_tuple) B.b_isinstance (dv 0))))))
   (fun _ _ _ _ _ _=>q0c)
   (fun _ _ _ _ _=>q27 0 (show(["_law_pair_here"]:List Str).Nodup by decide +kernel)))) (q2e (q1y q0d)))))))
  (q0f (q0w q2q))
  q0u)
  (q1k (q1e (q4o fun _=>(q28 (q0k hr) (q4n fun _=>(x0r (q0k hr) hr.gd B.b_repr (q0a (dv 2) q0d))) (x0r (q0k hr) hr.gd B.b_repr (q0a (dv 1) q0d))))
  (q0f (q0w q2q))
  q0u)
  (q1k (x2e (q03 C.partings hr pass1 (q0a (q03 C._law_machine hr pass1 (q0a (dv 0) (q0a q0c q0d))) q0d)))
  (q1k (q1e (q28 (q0k hr) (q5q (q0k hr) hr.gd B.b_repr (q0a (dv 3) q0d)) (dv 8))
  (q0f (q0w q2q))
  q0u)
  (x1y 3 9 M.nt (q0k hr) hG hio sc_law.nd PassesOwn.leaving rfl B.b_list
  (q1k (q1e (q4o fun _=>(q28 (q0k hr) (q4n fun _=>(q5q (q0k hr) hr.gd B.b_repr (q0a (q03 C.partings hr pass1 (q0a (dv 2) q0d)) q0d))) (dv 8)))
  (q0f (q0w q2q))
  q0u)
  (q1k (x4b 2 2 hzb)
  (x9t (q0w (q9u (q0k hr) (q5q (q0k hr) hr.gd B.b_repr (q0a (q03 C.partings hr pass1 (q0a (q03 C._law_copy hr pass1 (q0a (dv 1) q0d)) q0d)) q0d)) (dv 8))))))))))))))))))))
theorem q9x(h:run K a (n+1) q4p ws≠.no):ws.length=1/\(q7z K a (run K a n) (init 10 ws)).fn=run K a (n+1) q4p ws:=by
 rw[x24]at h |-;split at h
 ·rename_i hl;rw[if_pos hl];exact⟨hl,rfl⟩
 ·exact absurd rfl h
theorem y8e(B:Blt mg)(M:Exs K mg a)(C:Cals P w K mg base a n)(CH:CalsH P w K mg base a n)(A:Ats K mg):Cal P w K mg base (n+1) "law" ["_law_script"] (spF K (run K a (n+1) q4p)):=
 conZ A.law sc_law (fun ws hw=>(q9x hw).1) fun ws hw f cdv A outer s H E Z hr hz=>⟨_,y1d B M C CH hr hz,(q9x hw).2⟩
theorem allH(A:Ats K mg)(B:Blt mg)(M:Exs K mg a):∀n,CalsH P w K mg base a n
 |0=>⟨trivial⟩
 |n+1=>⟨trivial⟩
theorem all(A:Ats K mg)(B:Blt mg)(M:Exs K mg a):∀n,Cals P w K mg base a n
 |0=>⟨con0 A.rows_many,con0 A.check_machine,con0 A.is_state,con0 A.partings,con0 A.kinds_by_length,con0 A.finer_kinds,con0 A.parting_rows,con0 A.parting_row,con0 A.parts,con0 A._law_cell_at,con0 A._law_mixed,con0 A._law_row,con0 A._law_rows_of,con0 A._law_machine,con0 A._law_copy,con0 A._law_pair,con0 A._law_parts,con0 A._law_alike,con0 A.law⟩
 |n+1=>⟨x07 B M (all A B M n) (allH A B M n) A,q7c B M (all A B M n) (allH A B M n) A,x11 B M (all A B M n) (allH A B M n) A,x12 B M (all A B M n) (allH A B M n) A,q6f B M (all A B M n) (allH A B M n) A,q8k B M (all A B M n) (allH A B M n) A,q73 B M (all A B M n) (allH A B M n) A,q8m B M (all A B M n) (allH A B M n) A,y0l B M (all A B M n) (allH A B M n) A,q74 B M (all A B M n) (allH A B M n) A,q9q B M (all A B M n) (allH A B M n) A,x13 B M (all A B M n) (allH A B M n) A,q76 B M (all A B M n) (allH A B M n) A,q77 B M (all A B M n) (allH A B M n) A,x09 B M (all A B M n) (allH A B M n) A,x1a B M (all A B M n) (allH A B M n) A,q9r B M (all A B M n) (allH A B M n) A,q9s B M (all A B M n) (allH A B M n) A,y8e B M (all A B M n) (allH A B M n) A⟩
theorem law_fn{fd:FuncData}(A:Ats K mg)(B:Blt mg)(M:Exs K mg a)(F:Fun K "law" "law" q2y f fd)(n:Nat):FnOk P w K mg base (CX1 P w) (n+1) f fd ["_law_script"] (spF K (run K a (n+1) q4p)):=
 conFZ F sc_law (fun ws hw=>(q9x hw).1) fun ws hw cdv A' outer s H E Z hr hz=>⟨_,y1d B M (all A B M n) (allH A B M n) hr hz,(q9x hw).2⟩
end
theorem mk{l:PySem.W.OpenLaw}{w:World}{h:Heap}{fa:Addr}(X:K.In h)(G:h.Ns mainGlobals mg)(hfa:mg "law"=some (.ref fa))
  {f0:Addr}{od0 an0:Option Addr}{sl0:Array (Option Value)}{oc0 kV0 dc0 pm0 cd0 ct0:Value}
  {f1:Addr}{od1 an1:Option Addr}{sl1:Array (Option Value)}{oc1 kV1 dc1 pm1 cd1 ct1:Value}
  {f2:Addr}{od2 an2:Option Addr}{sl2:Array (Option Value)}{oc2 kV2 dc2 pm2 cd2 ct2:Value}
  {f3:Addr}{od3 an3:Option Addr}{sl3:Array (Option Value)}{oc3 kV3 dc3 pm3 cd3 ct3:Value}
  {f4:Addr}{od4 an4:Option Addr}{sl4:Array (Option Value)}{oc4 kV4 dc4 pm4 cd4 ct4:Value}
  {f5:Addr}{od5 an5:Option Addr}{sl5:Array (Option Value)}{oc5 kV5 dc5 pm5 cd5 ct5:Value}
  {f6:Addr}{od6 an6:Option Addr}{sl6:Array (Option Value)}{oc6 kV6 dc6 pm6 cd6 ct6:Value}
  {f7:Addr}{od7 an7:Option Addr}{sl7:Array (Option Value)}{oc7 kV7 dc7 pm7 cd7 ct7:Value}
  {f8:Addr}{od8 an8:Option Addr}{sl8:Array (Option Value)}{oc8 kV8 dc8 pm8 cd8 ct8:Value}
  {f9:Addr}{od9 an9:Option Addr}{sl9:Array (Option Value)}{oc9 kV9 dc9 pm9 cd9 ct9:Value}
  {f10:Addr}{od10 an10:Option Addr}{sl10:Array (Option Value)}{oc10 kV10 dc10 pm10 cd10 ct10:Value}
  {f11:Addr}{od11 an11:Option Addr}{sl11:Array (Option Value)}{oc11 kV11 dc11 pm11 cd11 ct11:Value}
  {f12:Addr}{od12 an12:Option Addr}{sl12:Array (Option Value)}{oc12 kV12 dc12 pm12 cd12 ct12:Value}
  {f13:Addr}{od13 an13:Option Addr}{sl13:Array (Option Value)}{oc13 kV13 dc13 pm13 cd13 ct13:Value}
  {f14:Addr}{od14 an14:Option Addr}{sl14:Array (Option Value)}{oc14 kV14 dc14 pm14 cd14 ct14:Value}
  {f15:Addr}{od15 an15:Option Addr}{sl15:Array (Option Value)}{oc15 kV15 dc15 pm15 cd15 ct15:Value}
  {f16:Addr}{od16 an16:Option Addr}{sl16:Array (Option Value)}{oc16 kV16 dc16 pm16 cd16 ct16:Value}
  {f17:Addr}{od17 an17:Option Addr}{sl17:Array (Option Value)}{oc17 kV17 dc17 pm17 cd17 ct17:Value}
  {f18:Addr}{od18 an18:Option Addr}{sl18:Array (Option Value)}{oc18 kV18 dc18 pm18 cd18 ct18:Value}
  {A_CircuitError:Addr}
  {A_NoMachine:Addr}
  (a0:PySem.W.nsIn K mainGlobals "rows_many"=some (some (.ref f0)))
  (l0:K.lookup f0=some ⟨oc0,od0,.func (PySem.W.fnOf "rows_many" "rows_many" (defArgs q1g) (defBody q1g) (defScope q1g) .none kV0 dc0 pm0 an0 cd0 ct0),sl0⟩)
  (c0:PySem.W.codeIn K cd0 "rows_many"=true)
  (k0:keepIn K (.ref f0)=true)
  (a1:PySem.W.nsIn K mainGlobals "check_machine"=some (some (.ref f1)))
  (l1:K.lookup f1=some ⟨oc1,od1,.func (PySem.W.fnOf "check_machine" "check_machine" (defArgs q0v) (defBody q0v) (defScope q0v) .none kV1 dc1 pm1 an1 cd1 ct1),sl1⟩)
  (c1:PySem.W.codeIn K cd1 "check_machine"=true)
  (k1:keepIn K (.ref f1)=true)
  (a2:PySem.W.nsIn K mainGlobals "is_state"=some (some (.ref f2)))
  (l2:K.lookup f2=some ⟨oc2,od2,.func (PySem.W.fnOf "is_state" "is_state" (defArgs q1r) (defBody q1r) (defScope q1r) .none kV2 dc2 pm2 an2 cd2 ct2),sl2⟩)
  (c2:PySem.W.codeIn K cd2 "is_state"=true)
  (k2:keepIn K (.ref f2)=true)
  (a3:PySem.W.nsIn K mainGlobals "partings"=some (some (.ref f3)))
  (l3:K.lookup f3=some ⟨oc3,od3,.func (PySem.W.fnOf "partings" "partings" (defArgs q1s) (defBody q1s) (defScope q1s) .none kV3 dc3 pm3 an3 cd3 ct3),sl3⟩)
  (c3:PySem.W.codeIn K cd3 "partings"=true)
  (k3:keepIn K (.ref f3)=true)
  (a4:PySem.W.nsIn K mainGlobals "kinds_by_length"=some (some (.ref f4)))
  (l4:K.lookup f4=some ⟨oc4,od4,.func (PySem.W.fnOf "kinds_by_length" "kinds_by_length" (defArgs q0s) (defBody q0s) (defScope q0s) .none kV4 dc4 pm4 an4 cd4 ct4),sl4⟩)
  (c4:PySem.W.codeIn K cd4 "kinds_by_length"=true)
  (k4:keepIn K (.ref f4)=true)
  (a5:PySem.W.nsIn K mainGlobals "finer_kinds"=some (some (.ref f5)))
  (l5:K.lookup f5=some ⟨oc5,od5,.func (PySem.W.fnOf "finer_kinds" "finer_kinds" (defArgs q0x) (defBody q0x) (defScope q0x) .none kV5 dc5 pm5 an5 cd5 ct5),sl5⟩)
  (c5:PySem.W.codeIn K cd5 "finer_kinds"=true)
  (k5:keepIn K (.ref f5)=true)
  (a6:PySem.W.nsIn K mainGlobals "parting_rows"=some (some (.ref f6)))
  (l6:K.lookup f6=some ⟨oc6,od6,.func (PySem.W.fnOf "parting_rows" "parting_rows" (defArgs q0z) (defBody q0z) (defScope q0z) .none kV6 dc6 pm6 an6 cd6 ct6),sl6⟩)
  (c6:PySem.W.codeIn K cd6 "parting_rows"=true)
  (k6:keepIn K (.ref f6)=true)
  (a7:PySem.W.nsIn K mainGlobals "parting_row"=some (some (.ref f7)))
  (l7:K.lookup f7=some ⟨oc7,od7,.func (PySem.W.fnOf "parting_row" "parting_row" (defArgs q04) (defBody q04) (defScope q04) .none kV7 dc7 pm7 an7 cd7 ct7),sl7⟩)
  (c7:PySem.W.codeIn K cd7 "parting_row"=true)
  (k7:keepIn K (.ref f7)=true)
  (a8:PySem.W.nsIn K mainGlobals "parts"=some (some (.ref f8)))
  (l8:K.lookup f8=some ⟨oc8,od8,.func (PySem.W.fnOf "parts" "parts" (defArgs q2n) (defBody q2n) (defScope q2n) .none kV8 dc8 pm8 an8 cd8 ct8),sl8⟩)
  (c8:PySem.W.codeIn K cd8 "parts"=true)
  (k8:keepIn K (.ref f8)=true)
  (a9:PySem.W.nsIn K mainGlobals "_law_cell_at"=some (some (.ref f9)))
  (l9:K.lookup f9=some ⟨oc9,od9,.func (PySem.W.fnOf "_law_cell_at" "_law_cell_at" (defArgs q00) (defBody q00) (defScope q00) .none kV9 dc9 pm9 an9 cd9 ct9),sl9⟩)
  (c9:PySem.W.codeIn K cd9 "_law_cell_at"=true)
  (k9:keepIn K (.ref f9)=true)
  (a10:PySem.W.nsIn K mainGlobals "_law_mixed"=some (some (.ref f10)))
  (l10:K.lookup f10=some ⟨oc10,od10,.func (PySem.W.fnOf "_law_mixed" "_law_mixed" (defArgs q07) (defBody q07) (defScope q07) .none kV10 dc10 pm10 an10 cd10 ct10),sl10⟩)
  (c10:PySem.W.codeIn K cd10 "_law_mixed"=true)
  (k10:keepIn K (.ref f10)=true)
  (a11:PySem.W.nsIn K mainGlobals "_law_row"=some (some (.ref f11)))
  (l11:K.lookup f11=some ⟨oc11,od11,.func (PySem.W.fnOf "_law_row" "_law_row" (defArgs q1t) (defBody q1t) (defScope q1t) .none kV11 dc11 pm11 an11 cd11 ct11),sl11⟩)
  (c11:PySem.W.codeIn K cd11 "_law_row"=true)
  (k11:keepIn K (.ref f11)=true)
  (a12:PySem.W.nsIn K mainGlobals "_law_rows_of"=some (some (.ref f12)))
  (l12:K.lookup f12=some ⟨oc12,od12,.func (PySem.W.fnOf "_law_rows_of" "_law_rows_of" (defArgs q01) (defBody q01) (defScope q01) .none kV12 dc12 pm12 an12 cd12 ct12),sl12⟩)
  (c12:PySem.W.codeIn K cd12 "_law_rows_of"=true)
  (k12:keepIn K (.ref f12)=true)
  (a13:PySem.W.nsIn K mainGlobals "_law_machine"=some (some (.ref f13)))
  (l13:K.lookup f13=some ⟨oc13,od13,.func (PySem.W.fnOf "_law_machine" "_law_machine" (defArgs q02) (defBody q02) (defScope q02) .none kV13 dc13 pm13 an13 cd13 ct13),sl13⟩)
  (c13:PySem.W.codeIn K cd13 "_law_machine"=true)
  (k13:keepIn K (.ref f13)=true)
  (a14:PySem.W.nsIn K mainGlobals "_law_copy"=some (some (.ref f14)))
  (l14:K.lookup f14=some ⟨oc14,od14,.func (PySem.W.fnOf "_law_copy" "_law_copy" (defArgs q08) (defBody q08) (defScope q08) .none kV14 dc14 pm14 an14 cd14 ct14),sl14⟩)
  (c14:PySem.W.codeIn K cd14 "_law_copy"=true)
  (k14:keepIn K (.ref f14)=true)
  (a15:PySem.W.nsIn K mainGlobals "_law_pair"=some (some (.ref f15)))
  (l15:K.lookup f15=some ⟨oc15,od15,.func (PySem.W.fnOf "_law_pair" "_law_pair" (defArgs q1h) (defBody q1h) (defScope q1h) .none kV15 dc15 pm15 an15 cd15 ct15),sl15⟩)
  (c15:PySem.W.codeIn K cd15 "_law_pair"=true)
  (k15:keepIn K (.ref f15)=true)
  (a16:PySem.W.nsIn K mainGlobals "_law_parts"=some (some (.ref f16)))
  (l16:K.lookup f16=some ⟨oc16,od16,.func (PySem.W.fnOf "_law_parts" "_law_parts" (defArgs q09) (defBody q09) (defScope q09) .none kV16 dc16 pm16 an16 cd16 ct16),sl16⟩)
  (c16:PySem.W.codeIn K cd16 "_law_parts"=true)
  (k16:keepIn K (.ref f16)=true)
  (a17:PySem.W.nsIn K mainGlobals "_law_alike"=some (some (.ref f17)))
  (l17:K.lookup f17=some ⟨oc17,od17,.func (PySem.W.fnOf "_law_alike" "_law_alike" (defArgs q1a) (defBody q1a) (defScope q1a) .none kV17 dc17 pm17 an17 cd17 ct17),sl17⟩)
  (c17:PySem.W.codeIn K cd17 "_law_alike"=true)
  (k17:keepIn K (.ref f17)=true)
  (a18:PySem.W.nsIn K mainGlobals "law"=some (some (.ref f18)))
  (l18:K.lookup f18=some ⟨oc18,od18,.func (PySem.W.fnOf "law" "law" (defArgs q2y) (defBody q2y) (defScope q2y) .none kV18 dc18 pm18 an18 cd18 ct18),sl18⟩)
  (c18:PySem.W.codeIn K cd18 "law"=true)
  (k18:keepIn K (.ref f18)=true)
  (n_CircuitError:PySem.W.nsIn K mainGlobals "CircuitError"=some (some (.ref A_CircuitError)))
  (n_NoMachine:PySem.W.nsIn K mainGlobals "NoMachine"=some (some (.ref A_NoMachine)))
  (z_bool:PySem.W.nsIn K mainGlobals "bool"=some none)
  (z_dict:PySem.W.nsIn K mainGlobals "dict"=some none)
  (z_int:PySem.W.nsIn K mainGlobals "int"=some none)
  (z_isinstance:PySem.W.nsIn K mainGlobals "isinstance"=some none)
  (z_len:PySem.W.nsIn K mainGlobals "len"=some none)
  (z_list:PySem.W.nsIn K mainGlobals "list"=some none)
  (z_max:PySem.W.nsIn K mainGlobals "max"=some none)
  (z_min:PySem.W.nsIn K mainGlobals "min"=some none)
  (z_range:PySem.W.nsIn K mainGlobals "range"=some none)
  (z_repr:PySem.W.nsIn K mainGlobals "repr"=some none)
  (z_sorted:PySem.W.nsIn K mainGlobals "sorted"=some none)
  (z_tuple:PySem.W.nsIn K mainGlobals "tuple"=some none)
  (z_zip:PySem.W.nsIn K mainGlobals "zip"=some none)
  (e_NoMachine:excIn K A_NoMachine A_CircuitError=true)
  (c_NoMachine:excClsIn K A_NoMachine=true)
  (t_NoneType_list:kitOne K (.type "NoneType") (.type "list")=some false)
  (t_bool_list:kitOne K (.type "bool") (.type "list")=some false)
  (t_int_list:kitOne K (.type "int") (.type "list")=some false)
  (t_str_list:kitOne K (.type "str") (.type "list")=some false)
  (t_tuple_list:kitOne K (.type "tuple") (.type "list")=some false)
  (t_list_list:kitOne K (.type "list") (.type "list")=some true)
  (t_dict_list:kitOne K (.type "dict") (.type "list")=some false)
  (t_NoneType_bool:kitOne K (.type "NoneType") (.type "bool")=some false)
  (t_bool_bool:kitOne K (.type "bool") (.type "bool")=some true)
  (t_int_bool:kitOne K (.type "int") (.type "bool")=some false)
  (t_str_bool:kitOne K (.type "str") (.type "bool")=some false)
  (t_tuple_bool:kitOne K (.type "tuple") (.type "bool")=some false)
  (t_list_bool:kitOne K (.type "list") (.type "bool")=some false)
  (t_dict_bool:kitOne K (.type "dict") (.type "bool")=some false)
  (t_NoneType_int:kitOne K (.type "NoneType") (.type "int")=some false)
  (t_bool_int:kitOne K (.type "bool") (.type "int")=some true)
  (t_int_int:kitOne K (.type "int") (.type "int")=some true)
  (t_str_int:kitOne K (.type "str") (.type "int")=some false)
  (t_tuple_int:kitOne K (.type "tuple") (.type "int")=some false)
  (t_list_int:kitOne K (.type "list") (.type "int")=some false)
  (t_dict_int:kitOne K (.type "dict") (.type "int")=some false)
  (t_NoneType_dict:kitOne K (.type "NoneType") (.type "dict")=some false)
  (t_bool_dict:kitOne K (.type "bool") (.type "dict")=some false)
  (t_int_dict:kitOne K (.type "int") (.type "dict")=some false)
  (t_str_dict:kitOne K (.type "str") (.type "dict")=some false)
  (t_tuple_dict:kitOne K (.type "tuple") (.type "dict")=some false)
  (t_list_dict:kitOne K (.type "list") (.type "dict")=some false)
  (t_dict_dict:kitOne K (.type "dict") (.type "dict")=some true)
  (t_NoneType_tuple:kitOne K (.type "NoneType") (.type "tuple")=some false)
  (t_bool_tuple:kitOne K (.type "bool") (.type "tuple")=some false)
  (t_int_tuple:kitOne K (.type "int") (.type "tuple")=some false)
  (t_str_tuple:kitOne K (.type "str") (.type "tuple")=some false)
  (t_tuple_tuple:kitOne K (.type "tuple") (.type "tuple")=some true)
  (t_list_tuple:kitOne K (.type "list") (.type "tuple")=some false)
  (t_dict_tuple:kitOne K (.type "dict") (.type "tuple")=some false)
  (nt:NoTup K)
  (n:Nat)(hL:∀a:Adr,Exs K mg a->∀ns:List Int,ns.length<=63->run K a (n+1) q4p [.lst (ns.map .int)]=.ok (.fr (.bl true))):
  ∃fd:FuncData,(∀(s:Shared)(v:Value),BindsTo s fd ⟨[v],[]⟩ [("_law_script", v)])/\∀base:Heap,K.In base->base.Ns mainGlobals mg->FnOk l.prog w K mg base (CX1 l.prog w) (n+1) fa fd ["_law_script"] (spLaw K):=by
 have e:=hfa.symm.trans (mg_of X G a18);cases e
 have A:Ats K mg:=⟨⟨⟨_,_,q0n (st:=q1g) l0 c0 k0,mg_of X G a0,(q0n (st:=q1g) l0 c0 k0).binds (ps:=["many"]) fun _ _ _ _ _ _=>us1 fun _=>rfl⟩⟩,
  ⟨⟨_,_,q0n (st:=q0v) l1 c1 k1,mg_of X G a1,(q0n (st:=q0v) l1 c1 k1).binds (ps:=["machine"]) fun _ _ _ _ _ _=>us1 fun _=>rfl⟩⟩,
  ⟨⟨_,_,q0n (st:=q1r) l2 c2 k2,mg_of X G a2,(q0n (st:=q1r) l2 c2 k2).binds (ps:=["machine", "number"]) fun _ _ _ _ _ _=>us2 fun _ _=>rfl⟩⟩,
  ⟨⟨_,_,q0n (st:=q1s) l3 c3 k3,mg_of X G a3,(q0n (st:=q1s) l3 c3 k3).binds (ps:=["machine"]) fun _ _ _ _ _ _=>us1 fun _=>rfl⟩⟩,
  ⟨⟨_,_,q0n (st:=q0s) l4 c4 k4,mg_of X G a4,(q0n (st:=q0s) l4 c4 k4).binds (ps:=["states"]) fun _ _ _ _ _ _=>us1 fun _=>rfl⟩⟩,
  ⟨⟨_,_,q0n (st:=q0x) l5 c5 k5,mg_of X G a5,(q0n (st:=q0x) l5 c5 k5).binds (ps:=["states", "kinds"]) fun _ _ _ _ _ _=>us2 fun _ _=>rfl⟩⟩,
  ⟨⟨_,_,q0n (st:=q0z) l6 c6 k6,mg_of X G a6,(q0n (st:=q0z) l6 c6 k6).binds (ps:=["states", "levels", "first", "second"]) fun _ _ _ _ _ _=>us4 fun _ _ _ _=>rfl⟩⟩,
  ⟨⟨_,_,q0n (st:=q04) l7 c7 k7,mg_of X G a7,(q0n (st:=q04) l7 c7 k7).binds (ps:=["state", "other", "kinds", "length"]) fun _ _ _ _ _ _=>us4 fun _ _ _ _=>rfl⟩⟩,
  ⟨⟨_,_,q0n (st:=q2n) l8 c8 k8,mg_of X G a8,(q0n (st:=q2n) l8 c8 k8).binds (ps:=["pair", "other", "kinds", "length"]) fun _ _ _ _ _ _=>us4 fun _ _ _ _=>rfl⟩⟩,
  ⟨⟨_,_,q0n (st:=q00) l9 c9 k9,mg_of X G a9,(q0n (st:=q00) l9 c9 k9).binds (ps:=["_law_script", "_law_k"]) fun _ _ _ _ _ _=>us2 fun _ _=>rfl⟩⟩,
  ⟨⟨_,_,q0n (st:=q07) l10 c10 k10,mg_of X G a10,(q0n (st:=q07) l10 c10 k10).binds (ps:=["_law_cell", "_law_k"]) fun _ _ _ _ _ _=>us2 fun _ _=>rfl⟩⟩,
  ⟨⟨_,_,q0n (st:=q1t) l11 c11 k11,mg_of X G a11,(q0n (st:=q1t) l11 c11 k11).binds (ps:=["_law_number", "_law_many"]) fun _ _ _ _ _ _=>us2 fun _ _=>rfl⟩⟩,
  ⟨⟨_,_,q0n (st:=q01) l12 c12 k12,mg_of X G a12,(q0n (st:=q01) l12 c12 k12).binds (ps:=["_law_many"]) fun _ _ _ _ _ _=>us1 fun _=>rfl⟩⟩,
  ⟨⟨_,_,q0n (st:=q02) l13 c13 k13,mg_of X G a13,(q0n (st:=q02) l13 c13 k13).binds (ps:=["_law_script", "_law_at"]) fun _ _ _ _ _ _=>us2 fun _ _=>rfl⟩⟩,
  ⟨⟨_,_,q0n (st:=q08) l14 c14 k14,mg_of X G a14,(q0n (st:=q08) l14 c14 k14).binds (ps:=["_law_machine_here"]) fun _ _ _ _ _ _=>us1 fun _=>rfl⟩⟩,
  ⟨⟨_,_,q0n (st:=q1h) l15 c15 k15,mg_of X G a15,(q0n (st:=q1h) l15 c15 k15).binds (ps:=["_law_low", "_law_high"]) fun _ _ _ _ _ _=>us2 fun _ _=>rfl⟩⟩,
  ⟨⟨_,_,q0n (st:=q09) l16 c16 k16,mg_of X G a16,(q0n (st:=q09) l16 c16 k16).binds (ps:=["_law_states", "_law_pair_here", "_law_rows"]) fun _ _ _ _ _ _=>us3 fun _ _ _=>rfl⟩⟩,
  ⟨⟨_,_,q0n (st:=q1a) l17 c17 k17,mg_of X G a17,(q0n (st:=q1a) l17 c17 k17).binds (ps:=["_law_states", "_law_low", "_law_high", "_law_found"]) fun _ _ _ _ _ _=>us4 fun _ _ _ _=>rfl⟩⟩,
  ⟨⟨_,_,q0n (st:=q2y) l18 c18 k18,mg_of X G a18,(q0n (st:=q2y) l18 c18 k18).binds (ps:=["_law_script"]) fun _ _ _ _ _ _=>us1 fun _=>rfl⟩⟩⟩
 have B:Blt mg:=⟨mg_none_of X G z_bool,mg_none_of X G z_dict,mg_none_of X G z_int,mg_none_of X G z_isinstance,mg_none_of X G z_len,mg_none_of X G z_list,mg_none_of X G z_max,mg_none_of X G z_min,mg_none_of X G z_range,mg_none_of X G z_repr,mg_none_of X G z_sorted,mg_none_of X G z_tuple,mg_none_of X G z_zip⟩;have M:Exs K mg ⟨A_CircuitError,A_NoMachine⟩:=⟨trivial,mg_of X G n_CircuitError,mg_of X G n_NoMachine,e_NoMachine,c_NoMachine,t_NoneType_list,t_bool_list,t_int_list,t_str_list,t_tuple_list,t_list_list,t_dict_list,t_NoneType_bool,t_bool_bool,t_int_bool,t_str_bool,t_tuple_bool,t_list_bool,t_dict_bool,t_NoneType_int,t_bool_int,t_int_int,t_str_int,t_tuple_int,t_list_int,t_dict_int,t_NoneType_dict,t_bool_dict,t_int_dict,t_str_dict,t_tuple_dict,t_list_dict,t_dict_dict,t_NoneType_tuple,t_bool_tuple,t_int_tuple,t_str_tuple,t_tuple_tuple,t_list_tuple,t_dict_tuple,nt⟩;exact⟨_,fun s v=>.of_eq rfl,fun base _ _=>(law_fn A B M (q0n (st:=q2y) l18 c18 k18) n).imp fun vs H Q E q=>x8l (hL _ M) q⟩
local macro_rules | `(tactic| walk_at "den") => do
 let l:=(("y4p y0f y4q y0g x7b y0i y0d x7a x9q y33 y34 y35 y76 y37 x6q y3t y3u y70 x9n x8n x9h x6k x6l x6g x31 x6h x6i x32 x33 x34 x1s x9f x6j x9g y3l y3m y3j x9c x9d x9e y3k y7w y7u x88 x89 x9a x9b x54 y3c x8z x80 x81 x82 x83 x84 x57 y7o x3y x85 x86 y6f y6g y6h y6i y6j y6k y6l y2h y2d y2e y2f x8m y6c y6d y6e y2g y84 y85 y86 y87 y6m x3t x3u x5w y6n y6o y2k dC_s y88 y89 y2l y2m y6p y6q y9a y6r y2n y6s y6t y2o y6u y6v y9b y9c y2p y9d y2q y6w y2r y2s y6x y6y y6z y2t y2u y2v x8q y2w y2x x8r x5x x8s x5y y60 y2y x5z q8h y2z y20 y21 y22 y23 x8t y61 x50 y9e y65 y66 y9f y9g x8u y67 y68 y26 y27 x3v x3w y69 x8v x51 y28 x8w y7a y7b y7c y7d y7e y29 y7f y9h y9i y9j y9k y9l y9m y9n y9o y9p ne_bb ix_t ix_l y9q y9r y9s y9t y9u y9v y9w y9x y9y y9z y90 y91 y92 sc_i sc_b sc_s sc_n sl_l at0 at1 at2 y7h rng1 rng2 init Option.map_some Option.bind_some List.map_cons List.map_nil List.length_cons List.length_nil List.replicate_succ List.replicate_zero List.cons_append List.nil_append List.getElem?_cons_zero List.getElem?_cons_succ List.set_cons_zero List.set_cons_succ if_true if_false decide_eq_true_eq reduceIte Bool.false_eq_true ite_true ite_false Nat.reduceSub Nat.reduceAdd Nat.reduceLeDiff Nat.zero_add Nat.le_refl Int.reduceLT Int.reduceLE Int.reduceNeg true_and and_true true_or or_true false_and and_false false_or or_false not_true_eq_false not_false_eq_true decide_true decide_false Bool.not_true Bool.not_false String.reduceEq Nat.reduceEqDiff y7l y7m y93 y94 Int.reduceToNat Int.reducePow Nat.reduceLT cast0 cast1 Int.reduceEq Int.reduceMod Int.reduceDiv Int.reduceAdd Int.reduceSub Int.reduceMul x8p x9v y78 y39 y4a x9w x9x x9y x9z x62 x90 x91 y4c x92 y79 y4d y8a x93 x94 x95 x63 y4e x96 y4f y4g y4h y4i y8b x4c y2i y2j y62 y63 y64 x8o".splitOn " ").map fun s=>Lean.mkIdent s.toName).toArray
 `(tactic| try simp only [$[$l:ident],*])
theorem q7d(n:Nat)(ns:List Int){k:Int}(hk:0<=k):run K a (n+1) q0t [.lst (ns.map .int),.int k]=.ok (.fr (.int (ns.getD k.toNat 0))):=by
 rw[q4h];unfold q2b;walk_at "den"
 by_cases h:k<ns.length
 ·rw[if_pos (by simpa using h),y7g hk]
  have e:(ns.map W.int)[k.toNat]?=some (.int (ns.getD k.toNat 0)):=by
   have:k.toNat<ns.length:=by omega
   simp[List.getD,this]
  rw[e];walk_at "den"
 ·rw[if_neg (by simpa using h)]
  have:ns.getD k.toNat 0=0:=by
   have:¬k.toNat<ns.length:=by omega
   simp[List.getD,this]
  rw[this]
theorem x26{i:Nat}{b:List S->SR}(I:Nat->List S->Prop):∀(ws:List W)(k:Nat)(e:List S),I k e->(∀(j:Nat)(w:W)(e:List S),w∈ws->I j e->∃e',b (e.set i (.fr w))=.nx e'/\I (j+1) e')->∃e',forD i b ws e=.nx e'/\I (k+ws.length) e'
 |[],k,e,h0,_=>⟨e,rfl,h0⟩
 |w::ws,k,e,h0,h=>by
  obtain⟨e1,h1,h2⟩:=h k w e (by simp) h0;obtain⟨e2,h3,h4⟩:=x26 I ws (k+1) e1 h2 fun j u e hu=>h j u e (by simp[hu])
  refine⟨e2,?_,?_⟩
  ·rw[x0f,h1,q8h,h3]
  ·rw[w0p];have:k+1+ws.length=k+(ws.length+1):=by omega
   rw[<- this];exact h4
theorem len_range{lo hi:Int}:(rangeW lo hi).length=(hi-lo).toNat:=by simp[rangeW]
noncomputable def mix2(c k:Int):Int:=((c+7919*k)*48271%2147483647*((c+7919*k)*48271%2147483647)+7*((c+7919*k)*48271%2147483647)+k)%2147483629
theorem x1d(n:Nat)(c k:Int):run K a (n+1) q06 [.int c,.int k]=.ok (.fr (.int (mix2 c k))):=by
 rw[q44];unfold q2u;walk_at "den";rw[if_pos (by omega)];rfl
theorem y0m(n:Nat)(c:Int)(m:Nat)(hm:m<=1000):∃bs:List Bool,run K a (n+1) q13 [.int c,.int (m:Int)]=.ok (.fr (.tup (bs.map .bl)))/\bs.length=m:=by
 rw[q6e];unfold q3h;walk_at "den";rw[if_pos (q18 (by omega) (by omega))];walk_at "den"
 obtain⟨e',h2,bs,c',z,rfl,hl⟩:=q1x (b:=q4f K a (run K a n)) (i:=3) (lo:=0) (hi:=(m:Int)) m (by omega) (fun j e=>∃(bs:List Bool)(c':Int)(z:S),e=[.fr (.int c'),.fr (.int (m:Int)),.own none (bs.map .bl),z]/\bs.length=j) [.fr (.int c),.fr (.int (m:Int)),.own none [],.no] ⟨[],_,_,rfl,rfl⟩ (by
  rintro j e hj ⟨bs,c',z,rfl,hl⟩;unfold q4f;walk_at "den";rw[if_pos (by rw[w0c];omega)];walk_at "den";exact⟨_,rfl,bs++[_],_,_,by rw[w0t];rfl,by simp[hl]⟩)
 rw[h2];walk_at "den";exact⟨bs.reverse,by rw[List.map_reverse],by simpa using hl⟩
noncomputable def encB(bs:List Bool):W:=.tup (bs.map .bl)
noncomputable abbrev Pr:=List Bool×Nat
structure Mc where
 m:Nat
 wide:Nat
 states:List (List Pr)
structure Mc.Ok(c:Mc):Prop where
 few:c.m<=3
 wd:c.wide<=12
 pos:0<c.states.length
 most:c.states.length<=20
 st:∀s∈c.states,s.length=2^c.m
 pr:∀s∈c.states,∀p∈s,p.1.length=c.wide/\p.2<c.states.length
noncomputable def bN1(b:Bool):Nat:=if b=true then 1 else 0
noncomputable def numF(row:List Bool):Nat:=row.foldl (fun n b=>2*n+bN1 b) 0
noncomputable def Mc.at(c:Mc)(s:Nat)(row:List Bool):Pr:=(c.states.getD s []).getD (numF row) ([],0)
theorem q9c{l:List α}(h:j<l.length):l.take (j+1)=l.take j++[l[j]]:=by
 rw[List.take_add_one,w0d h];rfl
theorem y4v{size base goal v:Int}(h1:0<base)(h2:base<=size)(h3:0<=goal)(h4:goal<base):0<(size-1-goal) / base+1/\0<=goal+base*(v%((size-1-goal) / base+1))/\goal+base*(v%((size-1-goal) / base+1))<size:=by
 have q0:0<=(size-1-goal) / base:=Int.ediv_nonneg (by omega) (by omega);have q1:base*((size-1-goal) / base)<=size-1-goal:=Int.mul_ediv_self_le (by omega);generalize (size-1-goal) / base=q at q0 q1;have t0:0<=v%(q+1):=w2k _ (by omega);have t1:v%(q+1)<q+1:=w2l _ (by omega);generalize v%(q+1)=t at t0 t1;have m0:0<=base*t:=Int.mul_nonneg (by omega) t0;have m1:base*t<=base*q:=Int.mul_le_mul_of_nonneg_left (by omega) (by omega);exact⟨by omega,by omega,by omega⟩
noncomputable def encPr(p:Pr):W:=.tup [encB p.1,.int (p.2:Int)]
noncomputable def encSt(s:List Pr):W:=.lst (s.map encPr)
noncomputable def encMc(c:Mc):W:=.tup [.int (c.m:Int),.int (c.wide:Int),.lst (c.states.map encSt)]
theorem y0n(n m:Nat)(hm:m<=100):run K a (n+1) q15 [.int (m:Int)]=.ok (.fr (.int ((2^m:Nat):Int))):=by
 rw[q5u];unfold q24;walk_at "den";rw[if_pos (q18 (by omega) (by omega))];walk_at "den"
 obtain⟨e',h2,z,rfl⟩:=q1x (b:=q30 K a (run K a n)) (i:=2) (lo:=0) (hi:=(m:Int)) m (by omega) (fun j e=>∃z,e=[.fr (.int (m:Int)),.fr (.int ((2^j:Nat):Int)),z]) [.fr (.int (m:Int)),.fr (.int 1),.no] ⟨.no,rfl⟩ (by
  rintro j e hj ⟨z,rfl⟩;unfold q30;walk_at "den";refine⟨_,rfl,.fr (.int (0+(j:Int))),?_⟩;rw[Nat.pow_succ,Int.natCast_mul,Int.mul_comm];rfl)
 rw[h2];walk_at "den"
theorem x16(n:Nat)(c:Mc){s:Nat}(h:s<c.states.length):run K a (n+1) q2f [encMc c,.int (s:Int)]=.ok (.fr (.bl true)):=by
 rw[q6c];unfold q3d encMc;walk_at "den";rw[w0c,if_pos (show(0:Int)<=s by omega),decide_eq_true (show(s:Int)<(c.states.length:Int) by omega)]
theorem q6z(l:List Pr):pairsW (l.map encPr)=some (l.map fun p=>(encB p.1,W.int (p.2:Int))):=by
 induction l with
 |nil=>rfl
 |cons p l ih=>
  rw[w0v,w0v];show(pairsW (l.map encPr)).map _=_;rw[ih];rfl
theorem q7e{i:Nat}{b:List S->SR}(I:List S->Prop):∀(ps:List (W×W))(e:List S),I e->(∀p∈ps,∀e,I e->∃e',b ((e.set i (.fr p.1)).set j (.fr p.2))=.nx e'/\I e')->∃e',forP i j b ps e=.nx e'/\I e'
 |[],e,h,_=>⟨e,rfl,h⟩
 |p::ps,e,h,st=>by
  obtain⟨e1,h1,h2⟩:=st p (by simp) e h;obtain⟨e2,h3,h4⟩:=q7e I ps e1 h2 (fun q hq=>st q (by simp[hq]))
  refine⟨e2,?_,h4⟩;show(b ((e.set i (.fr p.1)).set j (.fr p.2))).turnT (forP i j b ps)=_;rw[h1];exact h3
theorem x7c(c:Mc):ixW (encMc c) (.int 0)=some (.int (c.m:Int)):=rfl
theorem x7d(c:Mc):ixW (encMc c) (.int 1)=some (.int (c.wide:Int)):=rfl
theorem q78(c:Mc):ixW (encMc c) (.int 2)=some (.lst (c.states.map encSt)):=rfl
theorem x7e(n:Nat)(c:Mc)(hc:c.Ok):run K a (n+2) q1j [encMc c]=.ok (.fr .non):=by
 rw[q31];unfold q14;walk_at "den";rw[q78];walk_at "den";rw[x7c];walk_at "den";rw[y0n n c.m (by have:=hc.few;omega)];walk_at "den";rw[w0c,if_neg (by have:=hc.pos;omega)];walk_at "den"
 obtain⟨e',k1,z3,z4,z5,k2⟩:=x26 (i:=3) (b:=q22 K a (run K a (n+1))) (fun _ e=>∃z3 z4 z5,e=[.fr (encMc c),.fr (.lst (c.states.map encSt)),.fr (.int ((2^c.m:Nat):Int)),z3,z4,z5]) (c.states.map encSt) 0 [.fr (encMc c),.fr (.lst (c.states.map encSt)),.fr (.int ((2^c.m:Nat):Int)),.no,.no,.no] ⟨_,_,_,rfl⟩ (by
  rintro j w e hw ⟨z3,z4,z5,rfl⟩;obtain⟨s,hs,rfl⟩:=w0z.mp hw;unfold q22;simp only[encSt];walk_at "den";rw[w0c,hc.st s hs,if_neg (by simp)];walk_at "den";rw[q6z];walk_at "den"
  obtain⟨e1,h1,z4,z5,rfl⟩:=q7e (i:=4) (j:=5) (b:=q21 K a (run K a (n+1))) (fun e=>∃z4 z5,e=[.fr (encMc c),.fr (.lst (c.states.map encSt)),.fr (.int ((2^c.m:Nat):Int)),.fr (.lst (s.map encPr)),z4,z5]) (s.map fun p=>(encB p.1,W.int (p.2:Int))) [.fr (encMc c),.fr (.lst (c.states.map encSt)),.fr (.int ((2^c.m:Nat):Int)),.fr (.lst (s.map encPr)),z4,z5] ⟨_,_,rfl⟩ (by
   rintro q hq e ⟨z4,z5,rfl⟩;obtain⟨p,hp,rfl⟩:=w0z.mp hq;obtain⟨p1,p2⟩:=hc.pr s hs p hp;unfold q21;simp only[encB];walk_at "den";rw[x7d];walk_at "den";rw[w0c,p1,if_neg (by simp)];walk_at "den";rw[x16 n c p2];walk_at "den";exact⟨_,rfl,_,_,rfl⟩)
  rw[h1];exact⟨_,rfl,_,_,_,rfl⟩)
 rw[k1,k2];rfl
theorem q35{c:Mc}{s:Nat}(hs:s<c.states.length):atI (c.states.map encSt) (s:Int)=some (encSt (c.states.getD s [])):=by
 refine q2x ?_;rw[w0f,w0d hs];simp[List.getD,hs]
theorem y0o(n:Nat)(c:Mc)(hc:c.Ok):run K a (n+1) q1q [encMc c]=.ok (.thr [.int (c.m:Int),.int (c.wide:Int)] (c.states.map encSt) []):=by
 have hm:=hc.most;rw[q5v];unfold q25;walk_at "den";rw[x7c];walk_at "den";rw[x7d];walk_at "den";rw[q78];walk_at "den";rw[if_pos (by rw[w0c];omega),x0g (g:=id)]
 ·walk_at "den";rw[List.map_id]
 ·intro w hw;obtain⟨s,hs,rfl⟩:=w0z.mp hw;have hl:=hc.st s hs;have hp:2^c.m<=2^3:=w1i (by decide) hc.few;unfold q5t encSt;walk_at "den";exact⟨_,rfl⟩
theorem y1e(b:Bool)(m:Nat)(h:m<=100):repW (.lst [.bl b]) (.int (m:Int))=some (.lst ((List.replicate m b).map .bl)):=by
 rw[x6a,if_pos ⟨q18 (by omega) (by omega),by simp;omega⟩,w1t];congr 2
 have:∀k:Nat,(List.replicate k [W.bl b]).flatten=(List.replicate k b).map W.bl:=fun k=>by
  induction k with
  |zero=>rfl
  |succ k ih=>rw[w0x,w1d,ih,w0x];rfl
 exact this _
theorem at4{m:Nat}(h:m<=3):atI [W.int 1,.int 2,.int 4,.int 8] (m:Int)=some (.int ((2^m:Nat):Int)):=by
 have:m=0\/m=1\/m=2\/m=3:=by omega
 rcases this with rfl|rfl|rfl|rfl<;>rfl
theorem x4q(n m:Nat)(h:m<=3):run K a (n+1) q1n [.int (m:Int)]=.ok (.fr (.int ((2^m:Nat):Int))):=by
 rw[q4i];unfold q2c;walk_at "den";rw[at4 h];walk_at "den"
noncomputable def pair44(K:PySem.W.Frag)(a:Adr)(n:Nat):List S->SR:=
 (dSeq (dSet 15 (dOp modW (dCall (run K a (n+2) q06) (dCons (dOp addW (dVar 3) (dVar 9)) (dCons (dVar 11) dNil))) (dOp addW (dOp fdivW (dOp subW (dOp subW (dVar 6) (dC (.int 1))) (dVar 14)) (dVar 7)) (dC (.int 1)))))
  (dApp 10 (dCons (dTup (dCons (dFn tup1 (dCons (dVar 13) dNil)) (dCons (dOp addW (dVar 14) (dOp mulW (dVar 7) (dVar 15))) dNil))) dNil)))
noncomputable def goal44(K:PySem.W.Frag)(a:Adr)(n:Nat):List S->SR:=
 (dSeq (dSet 14 (dOp modW (dOp fdivW (dVar 12) (dC (.int 64))) (dVar 7)))
  (dSeq (dIfS (dTest (dOp eq2 (dOp modW (dVar 3) (dC (.int 3))) (dC (.int 1))))
  (dSeq (dSet 13 (dOp repW (dFz (dLst (dCons (dOp eq2 (dOp modW (dVar 9) (dVar 7)) (dOp subW (dVar 7) (dC (.int 1)))) dNil))) (dVar 5)))
  (dSet 14 (dOp ixW (dFz (dLst (dCons (dFn min2 (dCons (dOp addW (dOp modW (dVar 9) (dVar 7)) (dC (.int 1))) (dCons (dOp subW (dVar 7) (dC (.int 1))) dNil))) (dCons (dC (.int 0)) dNil)))) (dFn min2 (dCons (dVar 11) (dCons (dC (.int 1)) dNil))))))
  dNx)
  (pair44 K a n)))
noncomputable def sts44(K:PySem.W.Frag)(a:Adr)(n:Nat):List S->SR:=
 (dSeq (dSet 7 (dOp subW (dVar 6) (dOp modW (dOp fdivW (dVar 3) (dC (.int 24))) (dVar 6))))
  (dSeq (dSetO 8 (dLst dNil))
  (dSeq (dForR 9 rng1 (dCons (dVar 6) dNil)
  (q11 K a (run K a (n+2))))
  (dRet (dTup (dCons (dVar 4) (dCons (dVar 5) (dCons (dVar 8) dNil))))))))
noncomputable def sec44(K:PySem.W.Frag)(a:Adr)(n:Nat):List S->SR:=
 (dSeq (dIfS (dTest (dOp eq2 (dVar 6) (dC (.int 11))))
  (dSeq (dSet 6 (dOp addW (dC (.int 12)) (dOp modW (dOp fdivW (dVar 2) (dC (.int 44))) (dC (.int 9)))))
  (dSet 4 (dOp modW (dVar 4) (dC (.int 2)))))
  dNx)
  (sts44 K a n))
theorem y99:q2i K a (run K a (n+2))=(dSeq (dSet 12 (dCall (run K a (n+2) q06) (dCons (dCall (run K a (n+2) q0t) (dCons (dVar 0) (dCons (dOp addW (dOp addW (dVar 1) (dC (.int 2))) (dOp modW (dOp modW (dVar 9) (dVar 7)) (dC (.int 6)))) dNil))) (dCons (dOp addW (dOp mulW (dC (.int 8)) (dOp modW (dVar 9) (dVar 7))) (dVar 11)) dNil))))
  (dSeq (dSet 13 (dOp repW (dFz (dLst (dCons (dC (.bl false)) dNil))) (dVar 5)))
  (dSeq (dIfS (dTest (dOp eq2 (dOp modW (dVar 12) (dC (.int 4))) (dC (.int 0))))
  (dSet 13 (dFz (dList (dCons (dCall (run K a (n+2) q13) (dCons (dOp fdivW (dVar 12) (dC (.int 4))) (dCons (dVar 5) dNil))) dNil))))
  dNx)
  (goal44 K a n)))):=rfl
theorem y8f:q2d K a (run K a (n+2))=(dSeq (dSet 2 (dCall (run K a (n+2) q0t) (dCons (dVar 0) (dCons (dVar 1) dNil))))
  (dSeq (dSet 3 (dCall (run K a (n+2) q0t) (dCons (dVar 0) (dCons (dOp addW (dVar 1) (dC (.int 1))) dNil))))
  (dSeq (dSet 4 (dOp modW (dVar 2) (dC (.int 4))))
  (dSeq (dSet 5 (dOp ixW (dFz (dLst (dCons (dC (.int 1)) (dCons (dC (.int 2)) (dCons (dC (.int 1)) (dCons (dC (.int 0)) (dCons (dC (.int 3)) (dCons (dOp addW (dC (.int 4)) (dOp modW (dOp fdivW (dVar 3) (dC (.int 24))) (dC (.int 9)))) (dCons (dC (.int 2)) (dCons (dC (.int 1)) dNil)))))))))) (dOp modW (dOp fdivW (dVar 3) (dC (.int 3))) (dC (.int 8)))))
  (dSeq (dSet 6 (dOp addW (dC (.int 1)) (dOp modW (dOp fdivW (dVar 2) (dC (.int 4))) (dC (.int 11)))))
  (dSeq (dIfS (dOr (dTest (dOp eq2 (dVar 6) (dC (.int 9)))) (dTest (dOp eq2 (dVar 6) (dC (.int 10)))))
  (dSeq (dSet 6 (dOp addW (dC (.int 8)) (dOp modW (dOp fdivW (dVar 2) (dC (.int 44))) (dC (.int 5)))))
  (dSet 4 (dFn min2 (dCons (dVar 4) (dCons (dOp ixW (dFz (dLst (dCons (dC (.int 3)) (dCons (dC (.int 2)) dNil)))) (dFn int1 (dCons (dOp gtW (dVar 6) (dC (.int 9))) dNil))) dNil)))))
  dNx)
  (sec44 K a n))))))):=rfl
theorem x1e(n:Nat)(z0 z1 z2 z4 z5 z8 z12 z15:S)(kinds k num goal size base:Int)(h1:0<base)(h2:base<=size)(h3:size<=20)(h4:0<=goal)(h5:goal<base)(st:List Pr)(hl:st.length<=100)(bs:List Bool):
  ∃p:Pr,∃z,p.1.length=bs.length/\(p.2:Int)<size/\pair44 K a n [z0,z1,z2,.fr (.int kinds),z4,z5,.fr (.int size),.fr (.int base),z8,.fr (.int k),.own none (st.map encPr),.fr (.int num),z12,.fr (.lst (bs.map .bl)),.fr (.int goal),z15] =
   .nx [z0,z1,z2,.fr (.int kinds),z4,z5,.fr (.int size),.fr (.int base),z8,.fr (.int k),.own none ((st++[p]).map encPr),.fr (.int num),z12,.fr (.lst (bs.map .bl)),.fr (.int goal),z]:=by
 have t:=y4v (size:=size) (base:=base) (goal:=goal) (v:=mix2 (kinds+k) num) h1 h2 h4 h5;unfold pair44;walk_at "den";rw[x1d (n+1)];walk_at "den";rw[if_pos ⟨h1,by omega⟩,if_pos t.1,if_pos (.inl ⟨by omega,by omega⟩),if_pos (by rw[w0c];omega)];obtain⟨q,hq⟩:∃q:Nat,goal+base*(mix2 (kinds+k) num%((size-1-goal) / base+1))=(q:Int):=⟨(goal+base*(mix2 (kinds+k) num%((size-1-goal) / base+1))).toNat,by have:=t.2.1;omega⟩;have t3:=t.2.2;rw[hq]at t3;refine⟨(bs,q),.fr (.int (mix2 (kinds+k) num%((size-1-goal) / base+1))),rfl,t3,?_⟩;rw[hq,w0t];rfl
theorem x1f(n:Nat)(z0 z1 z2 z4 z8 z14 z15:S)(wide:Nat)(hw:wide<=12)(kinds k left size base:Int)(num:Nat)(h1:0<base)(h2:base<=size)(h3:size<=20)(st:List Pr)(hl:st.length<=100)(bs:List Bool)(hb:bs.length=wide):
  ∃p:Pr,∃z13 z14' z15',p.1.length=wide/\(p.2:Int)<size/\goal44 K a n [z0,z1,z2,.fr (.int kinds),z4,.fr (.int (wide:Int)),.fr (.int size),.fr (.int base),z8,.fr (.int k),.own none (st.map encPr),.fr (.int (num:Int)),.fr (.int left),.fr (.lst (bs.map .bl)),z14,z15] =
   .nx [z0,z1,z2,.fr (.int kinds),z4,.fr (.int (wide:Int)),.fr (.int size),.fr (.int base),z8,.fr (.int k),.own none ((st++[p]).map encPr),.fr (.int (num:Int)),.fr (.int left),z13,z14',z15']:=by
 have g0:=w2k (left / 64) (show base≠0 by omega);have g1:=w2l (left / 64) h1;unfold goal44;walk_at "den";rw[if_pos h1];walk_at "den"
 by_cases hc:kinds%3=1
 ·rw[if_pos hc,if_pos h1];walk_at "den";rw[y1e _ _ (by omega)];walk_at "den";rw[if_pos h1];have k0:=w2k k (show base≠0 by omega);have k1:=w2l k h1
  have gg:∃g:Int,atI [W.int (if base-1<k%base+1 then base-1 else k%base+1),W.int 0] (if 1<(num:Int)then 1 else(num:Int))=some (.int g)/\0<=g/\g<base:=by
   by_cases q:num=0
   ·subst q;refine⟨_,rfl,?_,?_⟩<;>split<;>omega
   ·have e:(if 1<(num:Int)then 1 else(num:Int))=1:=by split<;>omega
    rw[e];exact⟨0,rfl,by omega,by omega⟩
  obtain⟨g,e1,e2,e3⟩:=gg;rw[e1];walk_at "den";obtain⟨p,z,p1,p2,p3⟩:=x1e (K:=K) (a:=a) n z0 z1 z2 z4 (.fr (.int (wide:Int))) z8 (.fr (.int left)) z15 kinds k (num:Int) g size base h1 h2 h3 e2 e3 st hl (List.replicate wide (decide (k%base=base-1)));exact⟨p,_,_,z,by rw[p1,w1f],p2,p3⟩
 ·rw[if_neg hc];walk_at "den";obtain⟨p,z,p1,p2,p3⟩:=x1e (K:=K) (a:=a) n z0 z1 z2 z4 (.fr (.int (wide:Int))) z8 (.fr (.int left)) z15 kinds k (num:Int) (left / 64%base) size base h1 h2 h3 g0 g1 st hl bs;exact⟨p,_,_,z,by rw[p1,hb],p2,p3⟩
theorem y0p(n:Nat)(ns:List Int)(p:Nat)(z2 z4 z8 z12 z13 z14 z15:S)(wide:Nat)(hw:wide<=12)(kinds k size base:Int)(num:Nat)(h1:0<base)(h2:base<=size)(h3:size<=20)(st:List Pr)(hl:st.length<=100):
  ∃q:Pr,∃z12' z13' z14' z15',q.1.length=wide/\(q.2:Int)<size/\q2i K a (run K a (n+2)) [.fr (.lst (ns.map .int)),.fr (.int (p:Int)),z2,.fr (.int kinds),z4,.fr (.int (wide:Int)),.fr (.int size),.fr (.int base),z8,.fr (.int k),.own none (st.map encPr),.fr (.int (num:Int)),z12,z13,z14,z15] =
   .nx [.fr (.lst (ns.map .int)),.fr (.int (p:Int)),z2,.fr (.int kinds),z4,.fr (.int (wide:Int)),.fr (.int size),.fr (.int base),z8,.fr (.int k),.own none ((st++[q]).map encPr),.fr (.int (num:Int)),z12',z13',z14',z15']:=by
 have k0:=w2k k (show base≠0 by omega);rw[y99];walk_at "den";rw[if_pos h1];walk_at "den";rw[q7d (n+1) ns (by omega)];walk_at "den";rw[if_pos h1];walk_at "den";rw[x1d (n+1)];walk_at "den";rw[y1e _ _ (by omega)];walk_at "den";generalize mix2 _ _=left
 by_cases hc:left%4=0
 ·rw[if_pos hc];obtain⟨bs,b1,b2⟩:=y0m (K:=K) (a:=a) (n+1) (left / 4) wide (by omega);rw[b1];walk_at "den";obtain⟨q,y13,y14,y15,q1,q2,q3⟩:=x1f (K:=K) (a:=a) n (.fr (.lst (ns.map .int))) (.fr (.int (p:Int))) z2 z4 z8 z14 z15 wide hw kinds k left size base num h1 h2 h3 st hl bs b2;exact⟨q,_,y13,y14,y15,q1,q2,q3⟩
 ·rw[if_neg hc];walk_at "den";obtain⟨q,y13,y14,y15,q1,q2,q3⟩:=x1f (K:=K) (a:=a) n (.fr (.lst (ns.map .int))) (.fr (.int (p:Int))) z2 z4 z8 z14 z15 wide hw kinds k left size base num h1 h2 h3 st hl (List.replicate wide false) w1f;exact⟨q,_,y13,y14,y15,q1,q2,q3⟩
theorem x7f(n:Nat)(ns:List Int)(p:Nat)(z2 z10 z11 z12 z13 z14 z15:S)(m wide:Nat)(hm:m<=3)(hw:wide<=12)(kinds k size base:Int)(h1:0<base)(h2:base<=size)(h3:size<=20)(sts:List (List Pr))(hl:sts.length<=100):
  ∃s:List Pr,∃y10 y11 y12 y13 y14 y15,s.length=2^m/\(∀q∈s,q.1.length=wide/\(q.2:Int)<size)/\q11 K a (run K a (n+2)) [.fr (.lst (ns.map .int)),.fr (.int (p:Int)),z2,.fr (.int kinds),.fr (.int (m:Int)),.fr (.int (wide:Int)),.fr (.int size),.fr (.int base),.own none (sts.map encSt),.fr (.int k),z10,z11,z12,z13,z14,z15] =
   .nx [.fr (.lst (ns.map .int)),.fr (.int (p:Int)),z2,.fr (.int kinds),.fr (.int (m:Int)),.fr (.int (wide:Int)),.fr (.int size),.fr (.int base),.own none ((sts++[s]).map encSt),.fr (.int k),y10,y11,y12,y13,y14,y15]:=by
 have hp:2^m<=2^3:=w1i (by decide) hm;have hp8:(2:Nat)^3=8:=rfl;unfold q11;walk_at "den";rw[x4q (n+1) m hm];generalize hR:2^m=R at hp;walk_at "den";rw[if_pos (q18 (by omega) (by omega))];walk_at "den"
 obtain⟨e',h4,s,y11,y12,y13,y14,y15,rfl,s1,s2⟩:=q1x (b:=q2i K a (run K a (n+2))) (i:=11) (lo:=0) (hi:=(R:Int)) R (by omega) (fun j e=>∃(s:List Pr)(z11 z12 z13 z14 z15:S),e=[.fr (.lst (ns.map .int)),.fr (.int (p:Int)),z2,.fr (.int kinds),.fr (.int (m:Int)),.fr (.int (wide:Int)),.fr (.int size),.fr (.int base),.own none (sts.map encSt),.fr (.int k),.own none (s.map encPr),z11,z12,z13,z14,z15]/\s.length=j/\∀q∈s,q.1.length=wide/\(q.2:Int)<size)
  [.fr (.lst (ns.map .int)),.fr (.int (p:Int)),z2,.fr (.int kinds),.fr (.int (m:Int)),.fr (.int (wide:Int)),.fr (.int size),.fr (.int base),.own none (sts.map encSt),.fr (.int k),.own none [],z11,z12,z13,z14,z15] ⟨[],z11,z12,z13,z14,z15,rfl,rfl,fun q hq=>nomatch hq⟩ (by
  rintro j e hj ⟨s,z11,z12,z13,z14,z15,rfl,s1,s2⟩;rw[w3n];obtain⟨q,y12,y13,y14,y15,q1,q2,q3⟩:=y0p (K:=K) (a:=a) n ns p z2 (.fr (.int (m:Int))) (.own none (sts.map encSt)) z12 z13 z14 z15 wide hw kinds k size base j h1 h2 h3 s (by omega);refine⟨_,q3,s++[q],_,y12,y13,y14,y15,rfl,by simp[s1],fun x hx=>?_⟩
  rcases w1q.mp hx with z|z
  ·exact s2 x z
  ·rw[w1g.mp z];exact⟨q1,q2⟩)
 rw[h4];walk_at "den";rw[if_pos (by rw[w0c];omega)];refine⟨s,.fr (.lst (s.map encPr)),y11,y12,y13,y14,y15,s1,s2,?_⟩;rw[w0t];rfl
theorem x27(n:Nat)(ns:List Int)(p:Nat)(z2:S)(m wide size:Nat)(hm:m<=3)(hw:wide<=12)(kinds:Int)(h0:0<size)(h3:size<=20):
  ∃c:Mc,c.Ok/\(sts44 K a n [.fr (.lst (ns.map .int)),.fr (.int (p:Int)),z2,.fr (.int kinds),.fr (.int (m:Int)),.fr (.int (wide:Int)),.fr (.int (size:Int)),.no,.no,.no,.no,.no,.no,.no,.no,.no]).fn=.ok (.fr (encMc c))/\c.m=m:=by
 have b0:=w2k (kinds / 24) (show(size:Int)≠0 by omega);have b1:=w2l (kinds / 24) (show(0:Int)<(size:Int) by omega);obtain⟨base,hb⟩:∃b:Int,(size:Int)-kinds / 24%(size:Int)=b:=⟨_,rfl⟩;unfold sts44;walk_at "den";rw[if_pos (show(0:Int)<(size:Int) by omega)];walk_at "den";rw[hb,if_pos (q18 (by omega) (by omega))];walk_at "den"
 obtain⟨e',h4,sts,y9,y10,y11,y12,y13,y14,y15,rfl,s1,s2⟩:=q1x (b:=q11 K a (run K a (n+2))) (i:=9) (lo:=0) (hi:=(size:Int)) size (by omega) (fun j e=>∃(sts:List (List Pr))(z9 z10 z11 z12 z13 z14 z15:S),e=[.fr (.lst (ns.map .int)),.fr (.int (p:Int)),z2,.fr (.int kinds),.fr (.int (m:Int)),.fr (.int (wide:Int)),.fr (.int (size:Int)),.fr (.int base),.own none (sts.map encSt),z9,z10,z11,z12,z13,z14,z15]/\sts.length=j/\∀s∈sts,s.length=2^m/\∀q∈s,q.1.length=wide/\(q.2:Int)<(size:Int))
  [.fr (.lst (ns.map .int)),.fr (.int (p:Int)),z2,.fr (.int kinds),.fr (.int (m:Int)),.fr (.int (wide:Int)),.fr (.int (size:Int)),.fr (.int base),.own none [],.no,.no,.no,.no,.no,.no,.no] ⟨[],_,_,_,_,_,_,_,rfl,rfl,fun q hq=>nomatch hq⟩ (by
  rintro j e hj ⟨sts,z9,z10,z11,z12,z13,z14,z15,rfl,s1,s2⟩;obtain⟨s,y10,y11,y12,y13,y14,y15,q1,q2,q3⟩:=x7f (K:=K) (a:=a) n ns p z2 z10 z11 z12 z13 z14 z15 m wide hm hw kinds (0+(j:Int)) (size:Int) base (by omega) (by omega) (by omega) sts (by omega);refine⟨_,q3,sts++[s],_,y10,y11,y12,y13,y14,y15,rfl,by simp[s1],fun x hx=>?_⟩
  rcases w1q.mp hx with z|z
  ·exact s2 x z
  ·rw[w1g.mp z];exact⟨q1,q2⟩)
 rw[h4];walk_at "den";refine⟨⟨m,wide,sts⟩,⟨hm,hw,by show 0<sts.length;omega,by show sts.length<=20;omega,fun s hs=>(s2 s hs).1,fun s hs q hq=>⟨((s2 s hs).2 q hq).1,?_⟩⟩,rfl,rfl⟩
 have:=((s2 s hs).2 q hq).2;show q.2<sts.length;omega
theorem wide8{j:Int}{x:Int}(h0:0<=j)(h1:j<8)(hx:0<=x)(hx2:x<9):∃w:Nat,atI [W.int 1,.int 2,.int 1,.int 0,.int 3,.int (4+x),.int 2,.int 1] j=some (.int (w:Int))/\w<=12:=by
 have:j=0\/j=1\/j=2\/j=3\/j=4\/j=5\/j=6\/j=7:=by omega
 rcases this with rfl|rfl|rfl|rfl|rfl|rfl|rfl|rfl
 ·exact⟨1,rfl,by omega⟩
 ·exact⟨2,rfl,by omega⟩
 ·exact⟨1,rfl,by omega⟩
 ·exact⟨0,rfl,by omega⟩
 ·exact⟨3,rfl,by omega⟩
 ·refine⟨(4+x).toNat,?_,by omega⟩;rw[show(((4+x).toNat:Nat):Int)=4+x by omega];rfl
 ·exact⟨2,rfl,by omega⟩
 ·exact⟨1,rfl,by omega⟩
theorem x28(n:Nat)(ns:List Int)(p:Nat)(m wide size:Nat)(hm:m<=3)(hw:wide<=12)(cell kinds:Int)(h0:0<size)(h3:size<=12):
  ∃c:Mc,c.Ok/\(sec44 K a n [.fr (.lst (ns.map .int)),.fr (.int (p:Int)),.fr (.int cell),.fr (.int kinds),.fr (.int (m:Int)),.fr (.int (wide:Int)),.fr (.int (size:Int)),.no,.no,.no,.no,.no,.no,.no,.no,.no]).fn=.ok (.fr (encMc c)):=by
 unfold sec44;walk_at "den"
 by_cases hc:(size:Int)=11
 ·rw[if_pos hc];walk_at "den";obtain⟨sz,e1,e2,e3⟩:∃s:Nat,12+cell / 44%9=(s:Int)/\0<s/\s<=20:=⟨(12+cell / 44%9).toNat,by omega,by omega,by omega⟩;obtain⟨mm,e4,e5⟩:∃s:Nat,(m:Int)%2=(s:Int)/\s<=3:=⟨((m:Int)%2).toNat,by omega,by omega⟩;rw[e1,e4];obtain⟨c,c1,c2,_⟩:=x27 (K:=K) (a:=a) n ns p (.fr (.int cell)) mm wide sz e5 hw kinds e2 e3;exact⟨c,c1,c2⟩
 ·rw[if_neg hc];walk_at "den";obtain⟨c,c1,c2,_⟩:=x27 (K:=K) (a:=a) n ns p (.fr (.int cell)) m wide size hm hw kinds h0 (by omega);exact⟨c,c1,c2⟩
theorem q60(n:Nat)(ns:List Int)(p:Nat):∃c:Mc,c.Ok/\run K a (n+3) q0y [.lst (ns.map .int),.int (p:Int)]=.ok (.fr (encMc c)):=by
 rw[q4j];rw[y8f];walk_at "den";rw[q7d (n+1) ns (by omega)];walk_at "den";rw[q7d (n+1) ns (by omega)];walk_at "den";generalize ns.getD _ 0=kinds;generalize ns.getD _ 0=cell;obtain⟨wide,w1,w2⟩:=wide8 (j:=kinds / 3%8) (x:=kinds / 24%9) (by omega) (by omega) (by omega) (by omega);rw[w1];obtain⟨m,m1,m2⟩:∃m:Nat,cell%4=(m:Int)/\m<=3:=⟨(cell%4).toNat,by omega,by omega⟩;obtain⟨s,s1,s2,s3⟩:∃s:Nat,1+cell / 4%11=(s:Int)/\0<s/\s<=11:=⟨(1+cell / 4%11).toNat,by omega,by omega,by omega⟩;rw[m1];walk_at "den";rw[s1]
 have big:∀A B:FR,(∃c:Mc,c.Ok/\A=.ok (.fr (encMc c)))->(∃c:Mc,c.Ok/\B=.ok (.fr (encMc c)))->∃c:Mc,c.Ok/\(if(s:Int)=9 then A else if(s:Int)=10 then A else B)=.ok (.fr (encMc c)):=by
  intro A B hA hB;split
  ·exact hA
  ·split
   ·exact hA
   ·exact hB
 refine big _ _ ?_ ?_
 ·obtain⟨s',e1,e2,e3⟩:∃s:Nat,8+cell / 44%5=(s:Int)/\0<s/\s<=12:=⟨(8+cell / 44%5).toNat,by omega,by omega,by omega⟩;rw[e1]
  have at2:∃y:Nat,atI [W.int 3,W.int 2] (if 9<(s':Int)then 1 else 0)=some (.int (y:Int)):=by
   split
   ·exact⟨2,rfl⟩
   ·exact⟨3,rfl⟩
  obtain⟨y,hy⟩:=at2;rw[hy];walk_at "den"
  obtain⟨mm,e4,e5⟩:∃q:Nat,(if(y:Int)<(m:Int)then(y:Int)else(m:Int))=(q:Int)/\q<=3:=by
   by_cases z:(y:Int)<(m:Int)
   ·exact⟨y,by rw[if_pos z],by omega⟩
   ·exact⟨m,by rw[if_neg z],m2⟩
  rw[e4];exact x28 n ns p mm wide s' e5 w2 cell kinds e2 e3
 ·exact x28 n ns p m wide s m2 w2 cell kinds s2 (by omega)
theorem x4r(q:Nat)(r:List Bool)(h:r.length<=q):plainW (encB r)=true/\depW (encB r)=1/\wgt (encB r)<=q:=by
 obtain⟨h1,h2,h3⟩:=q3s r;refine⟨h1,?_,?_⟩
 ·show depWs (r.map .bl)+1=1;rw[h2]
 ·show wgts (r.map .bl)<=q;rw[h3];exact h
theorem q9d{wide size:Nat}(hw:wide<=12)(hs:size<=20):∀s:List Pr,(∀p∈s,p.1.length=wide/\p.2<size)->plainWs (s.map encPr)=true/\depWs (s.map encPr)<=2/\wgts (s.map encPr)<=30*s.length
 |[],_=>⟨rfl,w0w _,w0w _⟩
 |p::s,h=>by
  obtain⟨i1,i2,i3⟩:=q9d hw hs s fun q hq=>h q (by simp[hq])
  obtain⟨p1,p2⟩:=h p (by simp);obtain⟨b1,b2,b3⟩:=x4r 12 p.1 (by omega);have hi:plainW (.int (p.2:Int))=true:=decide_eq_true ⟨by omega,by omega⟩;have hg:=q6n (n:=p.2) (by omega);refine⟨?_,?_,?_⟩
  ·show((plainW (encB p.1)&&(plainW (.int (p.2:Int))&&true))&&plainWs (s.map encPr))=true;rw[b1,hi,i1];rfl
  ·show max (max (depW (encB p.1)) (max 0 0)+1) (depWs (s.map encPr))<=2;rw[b2];omega
  ·show(wgt (encB p.1)+1+(wgt (.int (p.2:Int))+1+0))+1+wgts (s.map encPr)<=30*(s.length+1);omega
theorem q9e{m wide size:Nat}(hm:m<=3)(hw:wide<=12)(hs:size<=20):∀l:List (List Pr),(∀s∈l,s.length=2^m/\∀p∈s,p.1.length=wide/\p.2<size)->plainWs (l.map encSt)=true/\depWs (l.map encSt)<=3/\wgts (l.map encSt)<=250*l.length
 |[],_=>⟨rfl,w0w _,w0w _⟩
 |s::l,h=>by
  obtain⟨i1,i2,i3⟩:=q9e hm hw hs l fun q hq=>h q (by simp[hq])
  obtain⟨s1,s2⟩:=h s (by simp);obtain⟨b1,b2,b3⟩:=q9d hw hs s s2;have hp:2^m<=2^3:=w1i (by decide) hm;have hp8:(2:Nat)^3=8:=rfl;refine⟨?_,?_,?_⟩
  ·show(plainWs (s.map encPr)&&plainWs (l.map encSt))=true;rw[b1,i1];rfl
  ·show max (depWs (s.map encPr)+1) (depWs (l.map encSt))<=3;omega
  ·show wgts (s.map encPr)+1+wgts (l.map encSt)<=250*(l.length+1);omega
theorem y0q(h1:plainWs ws=true)(h2:depWs ws<=90)(h3:wgts ws<=1000000):∃x:Str,repr1 [.tup ws]=some (.str x):=by
 obtain⟨d,d1,d2,d3,d4,d5⟩:=q7a (.tup ws) h1;refine⟨d.shown,?_⟩;show(toD (.tup ws)).bind _=_;rw[d1];show(if d.showable=true/\d.depth<=100/\d.shown.length<=16777216 then some (W.str d.shown)else none)=_;have hw:d.weight<=2^20:=by rw[d5];exact w0u h3 (by decide)
 have hs:=PyData.shown_fits (B:=8) (by decide) (by decide) d3 hw;rw[sizeLine_eq]at hs;exact if_pos ⟨d2,by rw[d4];show depWs ws+1<=100;omega,hs⟩
theorem y4w(c:Mc)(hc:c.Ok):∃x:Str,repr1X [encMc c]=some (.str x):=by
 obtain⟨b1,b2,b3⟩:=q9e hc.few hc.wd hc.most c.states fun s hs=>⟨hc.st s hs,hc.pr s hs⟩
 have h1:plainW (.int (c.m:Int))=true:=decide_eq_true ⟨by omega,by have:=hc.few;omega⟩;have h2:plainW (.int (c.wide:Int))=true:=decide_eq_true ⟨by omega,by have:=hc.wd;omega⟩;have g1:=q6n (n:=c.m) (by have:=hc.few;omega);have g2:=q6n (n:=c.wide) (by have:=hc.wd;omega);have hm:=hc.most;refine y0q ?_ ?_ ?_
 ·show(plainW (.int (c.m:Int))&&(plainW (.int (c.wide:Int))&&(plainWs (c.states.map encSt)&&true)))=true;rw[h1,h2,b1];rfl
 ·show max 0 (max 0 (max (depWs (c.states.map encSt)+1) 0))<=90;omega
 ·show wgt (.int (c.m:Int))+1+(wgt (.int (c.wide:Int))+1+(wgts (c.states.map encSt)+1+0))<=1000000;omega
theorem q6s(c:Mc):W.tup [.int (c.m:Int),.int (c.wide:Int),.lst (c.states.map encSt)]=encMc c:=rfl
noncomputable def posK:List Kx->Kx->Nat
 |[],_=>0
 |k::l,x=>if k=x then 0 else posK l x+1
theorem q5r:∀{l:List Kx},x∈l->l[posK l x]?=some x
 |[],h=>nomatch h
 |k::l,h=>by
  unfold posK
  by_cases e:k=x
  ·rw[if_pos e,e];rfl
  ·rw[if_neg e,w0r];exact q5r ((w0j.mp h).resolve_left fun z=>e z.symm)
theorem x29{l:List Kx}(h:x∈l):posK l x<l.length:=(w0a.mp (q5r h)).1
theorem q7f{m:List Kx}:∀{l:List Kx},x∈l->posK (l++m) x=posK l x
 |[],h=>nomatch h
 |k::l,h=>by
  show(if k=x then 0 else posK (l++m) x+1)=(if k=x then 0 else posK l x+1)
  by_cases e:k=x
  ·rw[if_pos e,if_pos e]
  ·rw[if_neg e,if_neg e,q7f ((w0j.mp h).resolve_left fun z=>e z.symm)]
theorem x1g:∀{l:List Kx},x∉l->posK (l++[x]) x=l.length
 |[],_=>by show(if x=x then 0 else _)=0;rw[if_pos rfl]
 |k::l,h=>by
  show(if k=x then 0 else posK (l++[x]) x+1)=l.length+1;rw[if_neg (fun e=>h (by simp[e])),x1g (fun z=>h (by simp[z]))]
theorem y0r{y:Kx}{l:List Kx}(hx:x∈l)(hy:y∈l)(h:posK l x=posK l y):x=y:=by
 have h1:=q5r hx;have h2:=q5r hy;rw[h]at h1;rw[h1]at h2;exact Option.some.inj h2
noncomputable def iotaW(o:Nat):Nat->List W
 |0=>[]
 |n+1=>.int (o:Int)::iotaW (o+1) n
theorem q9f:∀(n o:Nat),iotaW o n++[.int ((o+n:Nat):Int)]=iotaW o (n+1)
 |0,o=>rfl
 |n+1,o=>by
  show W.int (o:Int)::(iotaW (o+1) n++[W.int ((o+(n+1):Nat):Int)])=W.int (o:Int)::iotaW (o+1) (n+1);rw[show o+(n+1)=(o+1)+n by omega,q9f n (o+1)]
theorem q6t:∀(l:List Kx)(o:Nat),lkW l (iotaW o l.length) x=if x∈l then some (.int ((o+posK l x:Nat):Int))else none
 |[],o=>by rw[if_neg (by simp)];rfl
 |k::l,o=>by
  show(if k=x then some (W.int (o:Int))else lkW l (iotaW (o+1) l.length) x)=_
  by_cases e:k=x
  ·rw[if_pos e,if_pos (by simp[e]),show posK (k::l) x=0 from if_pos e];rfl
  ·rw[if_neg e,q6t l (o+1),show posK (k::l) x=posK l x+1 from if_neg e]
   by_cases h:x∈l
   ·rw[if_pos h,if_pos (by simp[h]),show o+1+posK l x=o+(posK l x+1) by omega]
   ·rw[if_neg h,if_neg (by simp[h];exact fun z=>e z.symm)]
noncomputable def addK(l:List Kx)(x:Kx):List Kx:=if x∈l then l else l++[x]
theorem y0s(l:List Kx)(x:Kx):∃m,addK l x=l++m:=by
 unfold addK;split
 ·exact⟨[],by simp⟩
 ·exact⟨[x],rfl⟩
theorem x3a(l:List Kx)(x:Kx):x∈addK l x:=by
 unfold addK;split
 ·assumption
 ·simp
theorem y0t(l:List Kx)(x:Kx):(addK l x).length<=l.length+1:=by
 unfold addK;split<;>simp
theorem q7g:∀(xs l:List Kx),∃m,xs.foldl addK l=l++m
 |[],l=>⟨[],by simp⟩
 |x::xs,l=>by
  obtain⟨m1,h1⟩:=y0s l x;obtain⟨m2,h2⟩:=q7g xs (addK l x);exact⟨m1++m2,by rw[w1s,h2,h1,w1z]⟩
theorem q5b:∀(xs l:List Kx),∀x∈xs,x∈xs.foldl addK l
 |[],_,_,h=>nomatch h
 |y::xs,l,x,h=>by
  rw[w1s];rcases w0j.mp h with rfl|h
  ·obtain⟨m,e⟩:=q7g xs (addK l x);rw[e];exact w1h _ (x3a l x)
  ·exact q5b xs _ x h
theorem fold_len:∀(xs l:List Kx),(xs.foldl addK l).length<=l.length+xs.length
 |[],l=>by simp
 |x::xs,l=>by
  rw[w1s];have:=fold_len xs (addK l x);have:=y0t l x;simp only[w0p];omega
noncomputable def prK(ks:List Nat)(p:Pr):Kx:=.tup [.tup (p.1.map .bl),.int ((ks.getD p.2 0:Nat):Int)]
noncomputable def stK(ks:List Nat)(s:List Pr):Kx:=.tup (s.map (prK ks))
noncomputable def fin(c:Mc)(ks:List Nat):List Nat:=c.states.map fun s=>posK ((c.states.map (stK ks)).foldl addK []) (stK ks s)
theorem y4x(c:Mc)(ks:List Nat):(fin c ks).length=c.states.length:=by unfold fin;rw[w0c]
theorem x3b{c:Mc}(h:i<c.states.length):(fin c ks).getD i 0=posK ((c.states.map (stK ks)).foldl addK []) (stK ks (c.states.getD i [])):=by
 unfold fin;simp[List.getD,h]
theorem q36{c:Mc}(h:i<c.states.length):c.states.getD i []∈c.states:=by
 have e:c.states.getD i []=c.states[i]:=by simp[List.getD,h]
 rw[e];exact w1l h
theorem y8g{c:Mc}(hi:i<c.states.length)(hj:j<c.states.length):(fin c ks).getD i 0=(fin c ks).getD j 0↔stK ks (c.states.getD i [])=stK ks (c.states.getD j []):=by
 rw[x3b hi,x3b hj];refine⟨fun h=>y0r (q5b _ _ _ (w2f (q36 hi))) (q5b _ _ _ (w2f (q36 hj))) h,fun h=>by rw[h]⟩
theorem y8h{c:Mc}:∀k∈fin c ks,k<c.states.length:=by
 intro k hk;unfold fin at hk;obtain⟨s,hs,rfl⟩:=w0z.mp hk;have h1:=x29 (q5b (c.states.map (stK ks)) [] _ (w2f hs));have h2:=fold_len (c.states.map (stK ks)) [];simp only[w0c,w3l]at h2;omega
noncomputable def lev(c:Mc):Nat->List Nat
 |0=>List.replicate c.states.length 0
 |t+1=>fin c (lev c t)
theorem q29(c:Mc):∀t,(lev c t).length=c.states.length
 |0=>w1f
 |t+1=>y4x c _
theorem x7g{c:Mc}(h:0<c.states.length):∀t,∀k∈lev c t,k<c.states.length
 |0,k,hk=>by
  have:=w3d hk;omega
 |t+1,k,hk=>y8h k hk
noncomputable def kd(c:Mc)(t i:Nat):Nat:=(lev c t).getD i 0
noncomputable def told(c:Mc)(i r:Nat):List Bool:=((c.states.getD i []).getD r ([],0)).1
noncomputable def nxt(c:Mc)(i r:Nat):Nat:=((c.states.getD i []).getD r ([],0)).2
theorem q2l{c:Mc}(hc:c.Ok)(hi:i<c.states.length)(hr:r<2^c.m):nxt c i r<c.states.length:=by
 have hs:=q36 hi;have hl:=hc.st _ hs;unfold nxt;have hr':r<(c.states.getD i []).length:=by omega
 have e:(c.states.getD i []).getD r ([],0)=(c.states.getD i [])[r]:=by generalize c.states.getD i []=s at hr';simp[List.getD,hr']
 rw[e];exact(hc.pr _ hs _ (w1l hr')).2
theorem q3q(c:Mc)(i:Nat):kd c 0 i=0:=by
 unfold kd lev
 by_cases h:i<c.states.length
 ·simp[List.getD,h]
 ·simp[List.getD,h]
theorem prK_inj{p q:Pr}:prK ks p=prK ks q↔p.1=q.1/\ks.getD p.2 0=ks.getD q.2 0:=by
 unfold prK;constructor
 ·intro h;injection h with h
  injection h with h1 h2
  injection h1 with h1
  injection h2 with h2 _
  injection h2 with h2
  exact⟨(w3u (fun x y h=>by injection h)).mp h1,by omega⟩
 ·rintro⟨h1,h2⟩;rw[h1,h2]
theorem q37{c:Mc}(hc:c.Ok){t:Nat}(hi:i<c.states.length)(hj:j<c.states.length):kd c (t+1) i=kd c (t+1) j↔∀r,r<2^c.m->told c i r=told c j r/\kd c t (nxt c i r)=kd c t (nxt c j r):=by
 show(fin c (lev c t)).getD i 0=(fin c (lev c t)).getD j 0↔_;rw[y8g hi hj];have l1:=hc.st _ (q36 hi);have l2:=hc.st _ (q36 hj);unfold stK told nxt kd;generalize c.states.getD i []=s at l1;generalize c.states.getD j []=s' at l2
 have key:∀(s s':List Pr),s.length=s'.length->(s.map (prK (lev c t))=s'.map (prK (lev c t))↔∀r,r<s.length->prK (lev c t) (s.getD r ([],0))=prK (lev c t) (s'.getD r ([],0))):=by
  intro s s' hl;constructor
  ·intro h r hr;have z:=congrArg (fun l=>l[r]?) h
   simp only[w0f,w0d hr,w0d (hl ▸ hr),w2t]at z
   simpa [List.getD,hr,hl ▸ hr]using Option.some.inj z
  ·intro h;apply w3a;intro r
   by_cases hr:r<s.length
   ·have z:=h r hr;simp only[w0f,w0d hr,w0d (hl ▸ hr),w2t];congr 1
    simpa [List.getD,hr,hl ▸ hr]using z
   ·simp[hr,hl ▸ hr]
 have e:(Kx.tup (s.map (prK (lev c t)))=Kx.tup (s'.map (prK (lev c t))))↔s.map (prK (lev c t))=s'.map (prK (lev c t)):=⟨fun h=>by injection h,fun h=>by rw[h]⟩
 rw[e,key s s' (by omega),l1];exact⟨fun h r hr=>prK_inj.mp (h r hr),fun h r hr=>prK_inj.mpr (h r hr)⟩
theorem q4u{c:Mc}(hc:c.Ok):∀(t:Nat){i j:Nat},i<c.states.length->j<c.states.length->kd c (t+1) i=kd c (t+1) j->kd c t i=kd c t j
 |0,i,j,_,_,_=>by rw[q3q,q3q]
 |t+1,i,j,hi,hj,h=>by
  rw[q37 hc hi hj]at h |-
  exact fun r hr=>⟨(h r hr).1,q4u hc t (q2l hc hi hr) (q2l hc hj hr) (h r hr).2⟩
theorem q9y{c : Mc}(hc : c.Ok)(hi : i < c.states.length)(hj : j < c.states.length) : ∀ {s t : Nat}, s <= t -> kd c t i = kd c t j -> kd c s i = kd c s j
  | s, 0, h, e => by have : s = 0 := by omega
                     subst this; exact e
  | s, t + 1, h, e => by
    by_cases z : s = t + 1
    . rw [z]; exact e
    . exact q9y hc hi hj (by omega) (q4u hc t hi hj e)
def Sep(c:Mc)(t i j:Nat):Prop:=kd c (t+1) i≠kd c (t+1) j/\kd c t i=kd c t j
theorem x7h{c:Mc}{i j:Nat}:∀{L:Nat},kd c L i≠kd c L j->∃t,t<L/\Sep c t i j
 |0,h=>absurd (by rw[q3q,q3q]) h
 |L+1,h=>by
  by_cases e:kd c L i=kd c L j
  ·exact⟨L,by omega,h,e⟩
  ·obtain⟨t,h1,h2⟩:=x7h (L:=L) e;exact⟨t,by omega,h2⟩
theorem y4y{c:Mc}(hc:c.Ok){s t:Nat}(hi:i<c.states.length)(hj:j<c.states.length)(h1:Sep c s i j)(h2:Sep c t i j):s=t:=by
 rcases Nat.lt_trichotomy s t with h|h|h
 ·exact absurd (q9y hc hi hj (show s+1<=t by omega) h2.2) h1.1
 ·exact h
 ·exact absurd (q9y hc hi hj (show t+1<=s by omega) h1.2) h2.1
def Part(c:Mc)(t i j r:Nat):Prop:=if t=0 then told c i r≠told c j r else kd c t (nxt c i r)≠kd c t (nxt c j r)
theorem x3c{c:Mc}(hc:c.Ok){t:Nat}(hi:i<c.states.length)(hj:j<c.states.length)(h:Sep c t i j):∃r,r<2^c.m/\Part c t i j r/\∀q,q<r->¬Part c t i j q:=by
 have ex:∃r,r<2^c.m/\Part c t i j r:=Classical.byContradiction fun hn=>by
  refine h.1 ((q37 hc hi hj).mpr fun r hr=>?_)
  have np:¬Part c t i j r:=fun z=>hn ⟨r,hr,z⟩
  unfold Part at np
  by_cases ht:t=0
  ·subst ht;rw[if_pos rfl]at np;exact⟨Classical.not_not.mp np,by rw[q3q,q3q]⟩
  ·rw[if_neg ht]at np;obtain⟨t',rfl⟩:∃t',t=t'+1:=⟨t-1,by omega⟩;exact⟨((q37 hc hi hj).mp h.2 r hr).1,Classical.not_not.mp np⟩
 obtain⟨r,hr,hp⟩:=ex
 have:∀n r,r<=n->r<2^c.m->Part c t i j r->∃r,r<2^c.m/\Part c t i j r/\∀q,q<r->¬Part c t i j q:=by
  intro n
  induction n with
  |zero=>intro r h0 hr hp;exact⟨r,hr,hp,fun q hq=>by omega⟩
  |succ n ih=>
   intro r h0 hr hp
   by_cases hq:∃q,q<r/\Part c t i j q
   ·obtain⟨q,h1,h2⟩:=hq;exact ih q (by omega) (by omega) h2
   ·exact⟨r,hr,hp,fun q h1 h2=>hq ⟨q,h1,h2⟩⟩
 exact this r r (w0i _) hr hp
inductive Rows(c:Mc):Nat->Nat->Nat->List Nat->Prop
 |nil {i j:Nat}:Rows c 0 i j []
 |cons {t i j r:Nat} {rs:List Nat} (hr:r<2^c.m) (hp:Part c t i j r) (hl:∀q,q<r->¬Part c t i j q) (h:Rows c t (nxt c i r) (nxt c j r) rs):Rows c (t+1) i j (r::rs)
theorem Rows.len{c:Mc}{t:Nat}(h:Rows c t i j rs):rs.length=t:=by
 induction h with
 |nil=>rfl
 |cons _ _ _ _ ih=>simp[ih]
theorem x1h{c:Mc}(hc:c.Ok){t:Nat}(hi:i<c.states.length)(hj:j<c.states.length)(h:Sep c (t+1) i j)(hr:r<2^c.m)(hp:Part c (t+1) i j r):Sep c t (nxt c i r) (nxt c j r):=by
 unfold Part at hp;rw[if_neg (by omega)]at hp;exact⟨hp,((q37 hc hi hj).mp h.2 r hr).2⟩
theorem x3d{c:Mc}(hc:c.Ok):∀(t:Nat){i j:Nat},i<c.states.length->j<c.states.length->Sep c t i j->∃rs,Rows c (t+1) i j rs
 |0,i,j,hi,hj,h=>by
  obtain⟨r,h1,h2,h3⟩:=x3c hc hi hj h;exact⟨[r],.cons h1 h2 h3 .nil⟩
 |t+1,i,j,hi,hj,h=>by
  obtain⟨r,h1,h2,h3⟩:=x3c hc hi hj h;obtain⟨rs,h4⟩:=x3d hc t (q2l hc hi h1) (q2l hc hj h1) (x1h hc hi hj h h1 h2);exact⟨r::rs,.cons h1 h2 h3 h4⟩
noncomputable def nW50(k:Nat):W:=.int (k:Int)
noncomputable def encK(ks:List Nat):W:=.lst (ks.map nW50)
theorem y1f:∀bs:List Bool,kxWs (bs.map .bl)=some (bs.map .bl)
 |[]=>rfl
 |b::bs=>by
  show(match kxW (.bl b),kxWs (bs.map .bl)with|some k,some ks=>some (k::ks)|_,_=>none)=_;rw[y1f bs];rfl
noncomputable def seenW(ks:List Nat)(p:Pr):W:=.tup [encB p.1,nW50 (ks.getD p.2 0)]
theorem z0a(ks:List Nat)(p:Pr):kxW (seenW ks p)=some (prK ks p):=by
 show(kxWs [encB p.1,nW50 (ks.getD p.2 0)]).map Kx.tup=_
 have e:kxWs [encB p.1,nW50 (ks.getD p.2 0)]=some [.tup (p.1.map .bl),.int ((ks.getD p.2 0:Nat):Int)]:=by
  show(match(kxWs (p.1.map .bl)).map Kx.tup,(some [Kx.int ((ks.getD p.2 0:Nat):Int)]:Option (List Kx))with|some k,some ks=>some (k::ks)|_,_=>none)=_;rw[y1f];rfl
 rw[e];rfl
theorem x7i(ks:List Nat):∀s:List Pr,kxWs (s.map (seenW ks))=some (s.map (prK ks))
 |[]=>rfl
 |p::s=>by
  show(match kxW (seenW ks p),kxWs (s.map (seenW ks))with|some k,some ks=>some (k::ks)|_,_=>none)=_;rw[z0a,x7i ks s];rfl
theorem x1i(ks:List Nat)(s:List Pr):keyT (.tup (s.map (seenW ks)))=some (stK ks s):=by
 show(kxWs (s.map (seenW ks))).map Kx.tup=_;rw[x7i];rfl
theorem x3e:∀bs:List Bool,ConfM (bs.map .bl) .bl
 |[]=>trivial
 |_::bs=>⟨trivial,x3e bs⟩
theorem x7j:∀bs:List Bool,Kx.depths (bs.map .bl)=0
 |[]=>rfl
 |b::bs=>by show max 0 (Kx.depths (bs.map .bl))=0;rw[x7j bs];rfl
theorem q8q(ks:List Nat)(s:List Pr):fits (stK ks s) (.many (.tup [.many .bl,.int])):=by
 have h1:∀s:List Pr,ConfM (s.map (prK ks)) (.tup [.many .bl,.int]):=fun s=>by
  induction s with
  |nil=>trivial
  |cons p s ih=>exact⟨⟨x3e p.1,trivial,trivial⟩,ih⟩
 have h2:∀s:List Pr,Kx.depths (s.map (prK ks))<=2:=fun s=>by
  induction s with
  |nil=>exact w0w _
  |cons p s ih=>
   show max (max (Kx.depths (p.1.map .bl)+1) (max 0 0)+1) (Kx.depths (s.map (prK ks)))<=2;rw[x7j];omega
 refine⟨h1 s,?_⟩;show Kx.depths (s.map (prK ks))+1<=7;have:=h2 s;omega
noncomputable def Dj(c:Mc)(ks:List Nat)(j:Nat):List Kx:=((c.states.take j).map (stK ks)).foldl addK []
theorem x3f{c:Mc}(h:j<c.states.length):Dj c ks (j+1)=addK (Dj c ks j) (stK ks c.states[j]):=by
 unfold Dj;rw[q9c h,w0t,List.foldl_append];rfl
theorem y8i{c:Mc}(j:Nat):(Dj c ks j).length<=j:=by
 have:=fold_len ((c.states.take j).map (stK ks)) [];unfold Dj;simp only[w0c,List.length_take,w3l]at this;omega
theorem y8j{c:Mc}(h:x∈Dj c ks j):posK ((c.states.map (stK ks)).foldl addK []) x=posK (Dj c ks j) x:=by
 have e:(c.states.map (stK ks)).foldl addK []=(((c.states.drop j).map (stK ks)).foldl addK (Dj c ks j)):=by
  unfold Dj;rw[<- List.foldl_append,<- w0t,List.take_append_drop]
 rw[e];obtain⟨m,hm⟩:=q7g ((c.states.drop j).map (stK ks)) (Dj c ks j);rw[hm];exact q7f h
noncomputable def fpos(c:Mc)(ks:List Nat)(s:List Pr):Nat:=posK ((c.states.map (stK ks)).foldl addK []) (stK ks s)
theorem q5c(h:i<ks.length):atI (ks.map nW50) (i:Int)=some (nW50 (ks.getD i 0)):=by
 refine q2x ?_;rw[w0f,w0d h];simp[List.getD,h]
theorem x7k{c:Mc}{w:W}(h:(c.states.map encSt)[j]?=some w):∃hj:j<c.states.length,w=encSt c.states[j]:=by
 have hj:j<c.states.length:=by have:=(w0a.mp h).1;simpa using this
 refine⟨hj,?_⟩;rw[w0f,w0d hj]at h;exact(Option.some.inj h).symm
theorem x7l(n:Nat)(c:Mc)(hc:c.Ok)(ks:List Nat)(hk:ks.length=c.states.length)(j:Nat)(hj:j<c.states.length)(out:List Nat)(ho:out.length<=100)(w0:W)(z5:S):
  ∃z5',q2r K a (run K a n) [.fr w0,.fr (encK ks),.dw (.many (.tup [.many .bl,.int])) (Dj c ks j) (iotaW 0 (Dj c ks j).length),.own none (out.map nW50),.fr (encSt c.states[j]),z5] =
   .nx [.fr w0,.fr (encK ks),.dw (.many (.tup [.many .bl,.int])) (Dj c ks (j+1)) (iotaW 0 (Dj c ks (j+1)).length),.own none ((out++[fpos c ks c.states[j]]).map nW50),.fr (encSt c.states[j]),z5']:=by
 have hmost:=hc.most;have hs:=hc.st _ (w1l hj);have hpr:=hc.pr _ (w1l hj);have p8:2^c.m<=8:=w0u (w1i (by decide) hc.few) (by decide);have hin:=x3a (Dj c ks j) (stK ks c.states[j]);have hpos:=y8j (c:=c) (ks:=ks) (j:=j+1) (x:=stK ks c.states[j]) (by rw[x3f hj];exact hin);have hdl:=y8i (c:=c) (ks:=ks) j;have hsucc:=x3f (c:=c) (ks:=ks) hj;generalize hst:c.states[j]=s at *
 have hseen:List.map (fun p:W×W=>W.tup [p.1,(ixW (encK ks) p.2).getD .non]) (List.filter (fun _=>true) (s.map fun p=>(encB p.1,W.int (p.2:Int))))=s.map (seenW ks):=by
  rw[List.filter_eq_self.mpr (fun _ _=>rfl),w1u]
  refine w3s fun p hp=>?_
  show W.tup [encB p.1,(atI (ks.map nW50) (p.2:Int)).getD .non]=seenW ks p;rw[q5c (by rw[hk];exact(hpr p hp).2)];rfl
 unfold q2r;unfold encSt;walk_at "den";rw[q6z];walk_at "den";rw[if_pos (by rw[w0c];omega)];simp only[frz1,pj1,w0r,w3f];rw[q87 (q:=fun _=>true) (g:=fun p=>.tup [p.1,(ixW (encK ks) p.2).getD .non])]
 ·walk_at "den";rw[hseen,y75 (x1i ks s) (q8q ks s),q6t]
  have app:∀D:List Kx,D=addK (Dj c ks j) (stK ks s)->∃z5',(dApp 3 (dCons (dBorrow (dOp ixT (dVar 2) (dVar 5))) dNil)) [.fr w0,.fr (encK ks),.dw (.many (.tup [.many .bl,.int])) D (iotaW 0 D.length),.own none (out.map nW50),.fr (.lst (s.map encPr)),.fr (.tup (s.map (seenW ks)))] =
    .nx [.fr w0,.fr (encK ks),.dw (.many (.tup [.many .bl,.int])) (Dj c ks (j+1)) (iotaW 0 (Dj c ks (j+1)).length),.own none ((out++[fpos c ks s]).map nW50),.fr (.lst (s.map encPr)),z5']:=by
   rintro D rfl;walk_at "den";rw[y1c (x1i ks s) (q8q ks s),q6t,if_pos hin];walk_at "den";rw[if_pos (by rw[w0c];omega),hsucc];refine⟨.fr (.tup (s.map (seenW ks))),?_⟩;rw[hsucc]at hpos;rw[<- hpos,w0t];rfl
  by_cases hm:stK ks s∈Dj c ks j
  ·rw[if_pos hm];have e:addK (Dj c ks j) (stK ks s)=Dj c ks j:=if_pos hm;have q:=app (Dj c ks j) e.symm;revert q;walk_at "den";exact id
  ·rw[if_neg hm];have e:addK (Dj c ks j) (stK ks s)=Dj c ks j++[stK ks s]:=if_neg hm;have q:=app _ e.symm;revert q;walk_at "den";intro q;rw[y36 (x1i ks s) (by omega) (by rfl) (q8q ks s) (by rw[q6t,if_neg hm])];walk_at "den";rw[show iotaW 0 (Dj c ks j).length++[W.int ((Dj c ks j).length:Int)]=iotaW 0 (Dj c ks j++[stK ks s]).length by rw[w1b];have:=q9f (Dj c ks j).length 0;rw[w2x]at this;exact this];exact q
 ·intro q hq;obtain⟨p,hp,rfl⟩:=w0z.mp hq;refine⟨_,rfl,fun _=>?_⟩
  unfold q4q encK;walk_at "den";rw[q5c (by rw[hk];exact(hpr p hp).2)];walk_at "den";exact⟨_,rfl⟩
theorem q9g(n:Nat)(c:Mc)(hc:c.Ok)(ks:List Nat)(hk:ks.length=c.states.length):run K a (n+1) q1l [.lst (c.states.map encSt),encK ks]=.ok (.own none ((fin c ks).map nW50)):=by
 have hmost:=hc.most;rw[q4r];unfold q2j;walk_at "den"
 obtain⟨e',h1,z4,z5,h2⟩:=x0i (b:=q2r K a (run K a n)) (i:=4) (fun j e=>∃z4 z5,e=[.fr (.lst (c.states.map encSt)),.fr (encK ks),.dw (.many (.tup [.many .bl,.int])) (Dj c ks j) (iotaW 0 (Dj c ks j).length),.own none (((c.states.take j).map (fpos c ks)).map nW50),z4,z5]) (c.states.map encSt) 0 [.fr (.lst (c.states.map encSt)),.fr (encK ks),.dw (.many (.tup [.many .bl,.int])) [] [],.own none [],.no,.no] ⟨_,_,rfl⟩ (by
  rintro j w e hw ⟨z4,z5,rfl⟩;obtain⟨hj,rfl⟩:=x7k hw;rw[w2x]at *;obtain⟨z5',q⟩:=x7l (K:=K) (a:=a) n c hc ks hk j hj ((c.states.take j).map (fpos c ks)) (by simp;omega) _ z5;refine⟨_,q,.fr (encSt c.states[j]),z5',?_⟩;rw[q9c hj,w0t (f:=fpos c ks)];rfl)
 rw[h1,h2];walk_at "den";rw[w0c,List.take_of_length_le (by omega)];rfl
noncomputable def levs(c:Mc)(t:Nat):List W:=(List.range (t+1)).map fun s=>encK (lev c s)
theorem q9h(c:Mc)(t:Nat):levs c (t+1)=levs c t++[encK (lev c (t+1))]:=by
 unfold levs;rw[List.range_succ (n:=t+1),w0t];rfl
theorem y0u(c:Mc)(t:Nat):(levs c t).length=t+1:=by unfold levs;simp
theorem q8r{l:List α}{x:α}:atI (l++[x]) (-1)=some x:=by
 unfold atI ixN;rw[if_neg (by decide),if_pos (by simp;omega)];have e:(-1+((l++[x]).length:Int)).toNat=l.length:=by simp;omega
 show(l++[x])[(-1+((l++[x]).length:Int)).toNat]?=some x;rw[e];simp
theorem q9i(c:Mc)(t:Nat):atI (levs c t) (-1)=some (encK (lev c t)):=by
 cases t with
 |zero=>exact q8r (l:=[])
 |succ t=>rw[q9h];exact q8r
theorem q5d(c:Mc){t s:Nat}(h:s<=t):atI (levs c t) (s:Int)=some (encK (lev c s)):=by
 refine q2x ?_;unfold levs;rw[w0f,List.getElem?_range (by omega)];rfl
theorem z0b(m:Nat)(h:m<=100):repW (.lst [.int 0]) (.int (m:Int))=some (encK (List.replicate m 0)):=by
 rw[x6a,if_pos ⟨q18 (by omega) (by omega),by simp;omega⟩,w1t];unfold encK;congr 2
 have:∀k:Nat,(List.replicate k [W.int 0]).flatten=(List.replicate k 0).map nW50:=fun k=>by
  induction k with
  |zero=>rfl
  |succ k ih=>rw[w0x,w1d,ih,w0x];rfl
 exact this _
theorem x7m{c:Mc}(hc:c.Ok)(t:Nat):lev c t≠[]:=fun h=>by
 have:=q29 c t;rw[h]at this;have:=hc.pos;simp at *;omega
theorem q8s:∀x y:List Bool,eqWs (x.map .bl) (y.map .bl)=some (decide (x=y))
 |[],[]=>rfl
 |[],_::_=>rfl
 |_::_,[]=>rfl
 |a::x,b::y=>by
  show(match eqW (.bl a) (.bl b),eqWs (x.map .bl) (y.map .bl)with|some p,some q=>some (p&&q)|_,_=>none)=_;rw[q8s x y];show some ((a==b)&&decide (x=y))=_;congr 1;cases a<;>cases b<;>simp
theorem ne_bb(x y:List Bool):ne2 (encB x) (encB y)=some (.bl (!decide (x=y))):=by
 have h:depWs (x.map .bl)=0:=(q3s x).2.1;unfold ne2 encB;rw[if_pos (show depW (.tup (x.map .bl))<=150 by show depWs (x.map .bl)+1<=150;omega)];show(eqWs (x.map .bl) (y.map .bl)).map _=_;rw[q8s];rfl
theorem q9z(s:List Pr)(k:Int):ixW (encSt s) (.int k)=atI (s.map encPr) k:=rfl
theorem q79(p:Pr):ixW (encPr p) (.int 0)=some (encB p.1):=rfl
theorem q3x(p:Pr):ixW (encPr p) (.int 1)=some (.int (p.2:Int)):=rfl
noncomputable def prAt(c:Mc)(i r:Nat):Pr:=(c.states.getD i []).getD r ([],0)
theorem q3y{c:Mc}(hc:c.Ok)(hi:i<c.states.length)(hr:r<2^c.m):atI ((c.states.getD i []).map encPr) (r:Int)=some (encPr (prAt c i r)):=by
 have hl:=hc.st _ (q36 hi);have hr':r<(c.states.getD i []).length:=by omega
 refine q2x ?_;rw[w0f,w0d hr'];unfold prAt;generalize c.states.getD i []=s at hr';simp[List.getD,hr']
theorem q9j(n:Nat)(c:Mc)(hc:c.Ok)(t i j r:Nat)(hi:i<c.states.length)(hj:j<c.states.length)(hr:r<2^c.m):
  ∃b:Bool,(b=true↔Part c t i j r)/\run K a (n+1) q3p [encPr (prAt c i r),encPr (prAt c j r),encK (lev c t),.int (t:Int)]=.ok (.fr (.bl b)):=by
 have n1:(prAt c i r).2<(lev c t).length:=by rw[q29];exact q2l hc hi hr
 have n2:(prAt c j r).2<(lev c t).length:=by rw[q29];exact q2l hc hj hr
 rw[q9b];unfold q43 encPr encK;walk_at "den"
 by_cases ht:t=0
 ·subst ht;rw[if_pos (by rfl)];try rw[Q.ne_bb]
  refine⟨_,?_,rfl⟩;unfold Part;rw[if_pos rfl];simp[told,prAt]
 ·rw[if_neg (by omega),q5c n1];walk_at "den";rw[q5c n2];unfold nW50;walk_at "den";refine⟨_,?_,rfl⟩;unfold Part;rw[if_neg ht];unfold kd nxt;simp only[prAt,Bool.not_eq_true'];constructor
  ·intro h z;exact of_decide_eq_false h (congrArg (fun k:Nat=>(k:Int)) z)
  ·intro h;exact decide_eq_false fun z=>h (by omega)
theorem x7n(n:Nat)(c:Mc)(hc:c.Ok)(t i j r:Nat)(hi:i<c.states.length)(hj:j<c.states.length)(hr:r<2^c.m)(hp:Part c t i j r)(hl:∀q,q<r->¬Part c t i j q):∀(d fuel q:Nat),q+d=r->d<=fuel ->
  whileD (q1u K a (run K a (n+1))) (q2s K a (run K a (n+1))) (fuel+1) [.fr (encSt (c.states.getD i [])),.fr (encSt (c.states.getD j [])),.fr (encK (lev c t)),.fr (.int (t:Int)),.fr (.int (q:Int))]=.nx [.fr (encSt (c.states.getD i [])),.fr (encSt (c.states.getD j [])),.fr (encK (lev c t)),.fr (.int (t:Int)),.fr (.int (r:Int))]:=by
 intro d
 induction d with
 |zero=>
  intro fuel q hq _;have hq:q=r:=by omega
  subst hq;obtain⟨b,b1,b2⟩:=q9j (K:=K) (a:=a) n c hc t i j q hi hj hr;rw[b1.mpr hp]at b2;rw[q3n]
  have hw:q1u K a (run K a (n+1)) [.fr (encSt (c.states.getD i [])),.fr (encSt (c.states.getD j [])),.fr (encK (lev c t)),.fr (.int (t:Int)),.fr (.int (q:Int))]=.ok false [.fr (encSt (c.states.getD i [])),.fr (encSt (c.states.getD j [])),.fr (encK (lev c t)),.fr (.int (t:Int)),.fr (.int (q:Int))]:=by
   unfold q1u encSt;walk_at "den";rw[q3y hc hi hr];walk_at "den";rw[q3y hc hj hr];walk_at "den";rw[b2];walk_at "den"
  rw[hw];walk_at "den"
 |succ d ih=>
  intro fuel q hq hf;obtain⟨fuel,rfl⟩:∃f,fuel=f+1:=⟨fuel-1,by omega⟩;have hq2:q<2^c.m:=by omega
  obtain⟨b,b1,b2⟩:=q9j (K:=K) (a:=a) n c hc t i j q hi hj hq2
  have hb:b=false:=by
   cases b with
   |false=>rfl
   |true=>exact absurd (b1.mp rfl) (hl q (by omega))
  rw[hb]at b2;rw[q3n]
  have hw:q1u K a (run K a (n+1)) [.fr (encSt (c.states.getD i [])),.fr (encSt (c.states.getD j [])),.fr (encK (lev c t)),.fr (.int (t:Int)),.fr (.int (q:Int))]=.ok true [.fr (encSt (c.states.getD i [])),.fr (encSt (c.states.getD j [])),.fr (encK (lev c t)),.fr (.int (t:Int)),.fr (.int (q:Int))]:=by
   unfold q1u encSt;walk_at "den";rw[q3y hc hi hq2];walk_at "den";rw[q3y hc hj hq2];walk_at "den";rw[b2];walk_at "den"
  have hb2:q2s K a (run K a (n+1)) [.fr (encSt (c.states.getD i [])),.fr (encSt (c.states.getD j [])),.fr (encK (lev c t)),.fr (.int (t:Int)),.fr (.int (q:Int))]=.nx [.fr (encSt (c.states.getD i [])),.fr (encSt (c.states.getD j [])),.fr (encK (lev c t)),.fr (.int (t:Int)),.fr (.int ((q+1:Nat):Int))]:=by
   unfold q2s;walk_at "den";rfl
  rw[hw];walk_at "den";rw[hb2];walk_at "den";exact ih fuel (q+1) (by omega) (by omega)
theorem y4z(n:Nat)(c:Mc)(hc:c.Ok)(t i j r:Nat)(hi:i<c.states.length)(hj:j<c.states.length)(hr:r<2^c.m)(hp:Part c t i j r)(hl:∀q,q<r->¬Part c t i j q):
  run K a (n+2) q1v [encSt (c.states.getD i []),encSt (c.states.getD j []),encK (lev c t),.int (t:Int)]=.ok (.fr (.int (r:Int))):=by
 have p8:2^c.m<=8:=w0u (w1i (by decide) hc.few) (by decide);rw[q4s];unfold q2k;walk_at "den";have q:=x7n (K:=K) (a:=a) n c hc t i j r hi hj hr hp hl r 999999 0 (by omega) (by omega);rw[show(1000000:Nat)=999999+1 from rfl];rw[show(W.int 0)=W.int ((0:Nat):Int)from rfl,q];walk_at "den"
theorem x1j{f:α->W}(h:∀x,flatW (f x)=true):∀l:List α,flatWs (l.map f)=true
 |[]=>rfl
 |x::l=>by show(flatW (f x)&&flatWs (l.map f))=true;rw[h x,x1j h l];rfl
theorem y40(s:List Nat):flatWs (s.map nW50)=true:=x1j (fun _=>rfl) s
theorem q5e{c:Mc}(t:Nat)(hi:i<c.states.length):atI ((lev c t).map nW50) (i:Int)=some (.int ((kd c t i:Nat):Int)):=q5c (by rw[q29];exact hi)
theorem x7o(n:Nat)(c:Mc)(hc:c.Ok)(w0:W)(L t i j:Nat)(hi:i<c.states.length)(hj:j<c.states.length)(hs:Sep c t i j)(hL:t+1<=L):∀(d fuel s:Nat),s+d=t+1->d<=fuel ->
  whileD (q1p K a (run K a n)) (q2h K a (run K a n)) (fuel+1) [.fr w0,.fr (.lst (levs c L)),.fr (.int (i:Int)),.fr (.int (j:Int)),.fr (.int (s:Int)),.no,.no,.no,.no]=.nx [.fr w0,.fr (.lst (levs c L)),.fr (.int (i:Int)),.fr (.int (j:Int)),.fr (.int ((t+1:Nat):Int)),.no,.no,.no,.no]:=by
 intro d
 induction d with
 |zero=>
  intro fuel s hq _;have hq:s=t+1:=by omega
  subst hq
  have hw:q1p K a (run K a n) [.fr w0,.fr (.lst (levs c L)),.fr (.int (i:Int)),.fr (.int (j:Int)),.fr (.int ((t+1:Nat):Int)),.no,.no,.no,.no]=.ok false [.fr w0,.fr (.lst (levs c L)),.fr (.int (i:Int)),.fr (.int (j:Int)),.fr (.int ((t+1:Nat):Int)),.no,.no,.no,.no]:=by
   unfold q1p;walk_at "den";rw[q5d c hL];unfold encK;walk_at "den";rw[q5e (t+1) hi];walk_at "den";rw[q5d c hL];unfold encK;walk_at "den";rw[q5e (t+1) hj];walk_at "den";rw[decide_eq_false (show ¬((kd c (t+1) i:Nat):Int)=((kd c (t+1) j:Nat):Int)from fun z=>hs.1 (by omega))]
  rw[q3n,hw];walk_at "den"
 |succ d ih=>
  intro fuel s hq hf;obtain⟨fuel,rfl⟩:∃f,fuel=f+1:=⟨fuel-1,by omega⟩;have hsL:s<=L:=by omega
  have he:kd c s i=kd c s j:=q9y hc hi hj (show s<=t by omega) hs.2
  have hw:q1p K a (run K a n) [.fr w0,.fr (.lst (levs c L)),.fr (.int (i:Int)),.fr (.int (j:Int)),.fr (.int (s:Int)),.no,.no,.no,.no]=.ok true [.fr w0,.fr (.lst (levs c L)),.fr (.int (i:Int)),.fr (.int (j:Int)),.fr (.int (s:Int)),.no,.no,.no,.no]:=by
   unfold q1p;walk_at "den";rw[q5d c hsL];unfold encK;walk_at "den";rw[q5e s hi];walk_at "den";rw[q5d c hsL];unfold encK;walk_at "den";rw[q5e s hj];walk_at "den";rw[decide_eq_true (by rw[he])]
  have hb2:q2h K a (run K a n) [.fr w0,.fr (.lst (levs c L)),.fr (.int (i:Int)),.fr (.int (j:Int)),.fr (.int (s:Int)),.no,.no,.no,.no]=.nx [.fr w0,.fr (.lst (levs c L)),.fr (.int (i:Int)),.fr (.int (j:Int)),.fr (.int ((s+1:Nat):Int)),.no,.no,.no,.no]:=by
   unfold q2h;walk_at "den";rfl
  rw[q3n,hw];walk_at "den";rw[hb2];walk_at "den";exact ih fuel (s+1) (by omega) (by omega)
theorem x7p(n:Nat)(c:Mc)(hc:c.Ok)(L:Nat)(z2 z3:S):∀{t l r:Nat}{rs:List Nat},Rows c t l r rs->l<c.states.length->r<c.states.length->t<=L->∀(fuel:Nat)(acc:List Nat)(z8:S),t<=fuel->acc.length+t<=100 ->
  ∃z4 z6 z7 z8',whileD (q1o K a (run K a (n+2))) (q2g K a (run K a (n+2))) (fuel+1) [.fr (.lst (c.states.map encSt)),.fr (.lst (levs c L)),z2,z3,.fr (.int (t:Int)),.own none (acc.map nW50),.fr (.int (l:Int)),.fr (.int (r:Int)),z8]=.nx [.fr (.lst (c.states.map encSt)),.fr (.lst (levs c L)),z2,z3,z4,.own none ((acc++rs).map nW50),z6,z7,z8']:=by
 intro t l r rs h
 induction h with
 | @nil i j=>
  intro _ _ _ fuel acc z8 _ _;rw[q3n]
  have hw:q1o K a (run K a (n+2)) [.fr (.lst (c.states.map encSt)),.fr (.lst (levs c L)),z2,z3,.fr (.int ((0:Nat):Int)),.own none (acc.map nW50),.fr (.int (i:Int)),.fr (.int (j:Int)),z8]=.ok false [.fr (.lst (c.states.map encSt)),.fr (.lst (levs c L)),z2,z3,.fr (.int ((0:Nat):Int)),.own none (acc.map nW50),.fr (.int (i:Int)),.fr (.int (j:Int)),z8]:=by
   unfold q1o;walk_at "den"
  rw[hw];walk_at "den";exact⟨_,_,_,_,by rw[w1r]⟩
 | @cons t i j q rs hr hp hl h ih=>
  intro hi hj ht fuel acc z8 hf ha;obtain⟨fuel,rfl⟩:∃f,fuel=f+1:=⟨fuel-1,by omega⟩;have ni:=q2l hc hi hr;have nj:=q2l hc hj hr
  have hw:q1o K a (run K a (n+2)) [.fr (.lst (c.states.map encSt)),.fr (.lst (levs c L)),z2,z3,.fr (.int ((t+1:Nat):Int)),.own none (acc.map nW50),.fr (.int (i:Int)),.fr (.int (j:Int)),z8]=.ok true [.fr (.lst (c.states.map encSt)),.fr (.lst (levs c L)),z2,z3,.fr (.int ((t+1:Nat):Int)),.own none (acc.map nW50),.fr (.int (i:Int)),.fr (.int (j:Int)),z8]:=by
   unfold q1o;walk_at "den";rw[decide_eq_true (by omega)]
  have hb:q2g K a (run K a (n+2)) [.fr (.lst (c.states.map encSt)),.fr (.lst (levs c L)),z2,z3,.fr (.int ((t+1:Nat):Int)),.own none (acc.map nW50),.fr (.int (i:Int)),.fr (.int (j:Int)),z8]=.nx [.fr (.lst (c.states.map encSt)),.fr (.lst (levs c L)),z2,z3,.fr (.int (t:Int)),.own none ((acc++[q]).map nW50),.fr (.int ((nxt c i q:Nat):Int)),.fr (.int ((nxt c j q:Nat):Int)),.fr (.int (q:Int))]:=by
   unfold q2g;walk_at "den";rw[show((t+1:Nat):Int)-1=(t:Int) by omega,q35 hi];walk_at "den";rw[q35 hj];walk_at "den";rw[q5d c (show t<=L by omega)];walk_at "den";rw[y4z n c hc t i j q hi hj hr hp hl];walk_at "den";rw[if_pos (by rw[w0c];omega)];walk_at "den";rw[q35 hi];walk_at "den";rw[q9z,q3y hc hi hr];walk_at "den";rw[q3x];walk_at "den";rw[q35 hj];walk_at "den";rw[q9z,q3y hc hj hr];walk_at "den";rw[q3x];walk_at "den";rw[w0t];rfl
  rw[q3n,hw];walk_at "den";rw[hb];walk_at "den";obtain⟨z4,z6,z7,z8',g⟩:=ih ni nj (by omega) fuel (acc++[q]) (.fr (.int (q:Int))) (by omega) (by simp;omega);refine⟨z4,z6,z7,z8',?_⟩;rw[g,w1z];rfl
theorem x7q(n:Nat)(c:Mc)(hc:c.Ok)(L t i j:Nat)(hi:i<c.states.length)(hj:j<c.states.length)(hs:Sep c t i j)(hL:t+1<=L)(hL2:L<=50)(rs:List Nat)(hr:Rows c (t+1) i j rs):
  run K a (n+3) q1m [.lst (c.states.map encSt),.lst (levs c L),.int (i:Int),.int (j:Int)]=.ok (.x (.new (.lst (rs.map nW50)))):=by
 rw[q4g];unfold q2a;walk_at "den";have q:=x7o (K:=K) (a:=a) (n+2) c hc (.lst (c.states.map encSt)) L t i j hi hj hs hL (t+1) 999999 0 (by omega) (by omega);rw[show(1000000:Nat)=999999+1 from rfl];rw[show(W.int 0)=W.int ((0:Nat):Int)from rfl,q];walk_at "den";obtain⟨z4,z6,z7,z8',g⟩:=x7p (K:=K) (a:=a) n c hc L (.fr (.int (i:Int))) (.fr (.int (j:Int))) hr hi hj hL 999999 [] .no (by omega) (by simp;omega);rw[show([]:List W)=([]:List Nat).map nW50 from rfl];rw[g];walk_at "den";rw[y4b,if_pos (y40 _)];walk_at "den"
theorem x1k:∀(n:Nat){l:List Nat},l.Nodup->(∀x∈l,x<n)->l.length<=n
 |0,l,_,h=>by
  cases l with
  |nil=>simp
  |cons x l=>exact absurd (h x (by simp)) (by omega)
 |n+1,l,hn,h=>by
  by_cases m:n∈l
  ·have e:=List.length_erase_of_mem m
   have:=x1k n (hn.erase n) (fun x hx=>by
    have:=(hn.mem_erase_iff).mp hx;have:=h x this.2;omega)
   have:0<l.length:=List.length_pos_of_mem m;omega
  ·have:=x1k n hn (fun x hx=>by
    have:=h x hx;have:x≠n:=fun z=>m (z ▸ hx)
    omega)
   omega
theorem y8k{n:Nat}{l:List Nat}(hn:l.Nodup)(h:∀x∈l,x<n)(hl:n<=l.length){y:Nat}(hy:y<n):y∈l:=Classical.byContradiction fun z=>by
 have:=x1k n (l:=y::l) (w2h.mpr ⟨z,hn⟩) (fun x hx=>by
  rcases w0j.mp hx with rfl|hx
  ·exact hy
  ·exact h x hx)
 simp at this;omega
def Stab(c:Mc)(L:Nat):Prop:=∀i j,i<c.states.length->j<c.states.length->kd c L i=kd c L j->kd c (L+1) i=kd c (L+1) j
theorem q9k:∀(xs D:List Kx),(∀k,k<D.length->∃x∈D,posK D x=k)->∀k,k<(xs.foldl addK D).length->∃x∈xs.foldl addK D,posK (xs.foldl addK D) x=k
 |[],D,h=>h
 |y::xs,D,h=>by
  rw[w1s];refine q9k xs (addK D y) fun k hk=>?_
  unfold addK at hk |-
  by_cases hy:y∈D
  ·rw[if_pos hy]at hk |-
   exact h k hk
  ·rw[if_neg hy]at hk |-
   by_cases hk':k<D.length
   ·obtain⟨x,hx,e⟩:=h k hk';exact⟨x,w1h _ hx,by rw[q7f hx,e]⟩
   ·refine⟨y,by simp,?_⟩;rw[x1g hy];simp at hk;omega
theorem q9l:∀(xs D:List Kx),∀x∈xs.foldl addK D,x∈D\/x∈xs
 |[],D,x,h=>.inl h
 |y::xs,D,x,h=>by
  rw[w1s]at h;rcases q9l xs (addK D y) x h with z|z
  ·unfold addK at z;split at z
   ·exact .inl z
   ·rcases w1q.mp z with z|z
    ·exact .inl z
    ·exact .inr (by simp[w1g.mp z])
  ·exact .inr (by simp[z])
theorem x7r{c:Mc}{t:Nat}(h:i<c.states.length):kd c t i∈lev c t:=by
 have h':i<(lev c t).length:=by rw[q29];exact h
 unfold kd;rw[show(lev c t).getD i 0=(lev c t)[i] by simp[List.getD,h']];exact w1l h'
theorem y8l{c:Mc}{t k:Nat}(h:k∈lev c t):∃i,i<c.states.length/\kd c t i=k:=by
 obtain⟨i,hi,e⟩:=List.getElem_of_mem h;refine⟨i,by rw[<- q29 c t];exact hi,?_⟩;unfold kd;rw[<- e];simp[List.getD,hi]
theorem y0v{c:Mc}(hc:c.Ok):∀(t:Nat){M k:Nat},M∈lev c t->k<=M->∃i,i<c.states.length/\kd c t i=k
 |0,M,k,hM,hk=>by
  have e:M=0:=w3d hM;exact⟨0,hc.pos,by rw[q3q];omega⟩
 |t+1,M,k,hM,hk=>by
  have hM':M∈fin c (lev c t):=hM;unfold fin at hM';obtain⟨s,hs,e⟩:=w0z.mp hM';have h1:=x29 (q5b (c.states.map (stK (lev c t))) [] _ (w2f hs));obtain⟨x,hx,e2⟩:=q9k (c.states.map (stK (lev c t))) [] (fun k hk=>by simp at hk) k (by omega)
  rcases q9l _ _ x hx with z|z
  ·simp at z
  ·obtain⟨s',hs',rfl⟩:=w0z.mp z;refine y8l (t:=t+1) ?_;show k∈fin c (lev c t);unfold fin;exact w0z.mpr ⟨s',hs',e2⟩
theorem y41{c:Mc}(hc:c.Ok){M M':Nat}(hM:M∈lev c L)(hM2:∀k∈lev c L,k<=M)(hM3:∀k∈lev c (L+1),k<=M')(hle:M'<=M):Stab c L:=by
 have sur:=fun k (hk:k<=M)=>y0v hc L hM hk
 let rep:Nat->Nat:=fun k=>Classical.epsilon fun i=>i<c.states.length/\kd c L i=k
 have hrep:∀k,k<=M->rep k<c.states.length/\kd c L (rep k)=k:=fun k hk=>Classical.epsilon_spec (p:=fun i=>i<c.states.length/\kd c L i=k) (sur k hk)
 have hnd:((List.range (M+1)).map fun k=>kd c (L+1) (rep k)).Nodup:=by
  refine List.pairwise_map.mpr (List.Pairwise.imp_of_mem (R:=(·≠·)) ?_ List.nodup_range);intro x y hx hy hne e;refine hne ?_;have hx:=hrep x (by have:=w1n.mp hx;omega);have hy:=hrep y (by have:=w1n.mp hy;omega);have:=q4u hc L hx.1 hy.1 e;rw[hx.2,hy.2]at this;exact this
 have key:∀i,i<c.states.length->kd c (L+1) i=kd c (L+1) (rep (kd c L i)):=fun i hi=>by
  have hm:=y8k (n:=M+1) hnd (fun x hx=>by
   obtain⟨k,hk,rfl⟩:=w0z.mp hx;have hk:=hrep k (by have:=w1n.mp hk;omega);have:=hM3 _ (x7r (t:=L+1) hk.1);omega) (by simp) (y:=kd c (L+1) i) (by have:=hM3 _ (x7r (t:=L+1) hi);omega)
  obtain⟨k,hk,e⟩:=w0z.mp hm;have hk:=hrep k (by have:=w1n.mp hk;omega);have:=q4u hc L hk.1 hi e;rw[hk.2]at this;rw[<- this];exact e.symm
 intro i j hi hj e;rw[key i hi,key j hj,e]
theorem x7s(h:ks≠[]):∃M:Nat,max1 [encK ks]=some (.int (M:Int))/\M∈ks/\∀k∈ks,k<=M:=by
 cases ks with
 |nil=>exact absurd rfl h
 |cons k ks=>
  have e:max1 [encK (k::ks)]=some (.int (maxL (k:Int) (ks.map fun x:Nat=>(x:Int)))):=by
   have:=y74 (n:=(k:Int)) (ns:=ks.map fun x:Nat=>(x:Int))
   rw[w0v,w1u]at this;exact this
  obtain⟨h1,h2,h3⟩:=q8j (ks.map fun x:Nat=>(x:Int)) (k:Int)
  have hall:∀M:Nat,maxL (k:Int) (ks.map fun x:Nat=>(x:Int))=(M:Int)->∀x∈k::ks,x<=M:=fun M hM x hx=>by
   rcases w0j.mp hx with rfl|hx
   ·omega
   ·have:=h3 (x:Int) (w0z.mpr ⟨x,hx,rfl⟩);omega
  rcases h1 with h1|h1
  ·exact⟨k,by rw[e,h1],by simp,hall k h1⟩
  ·obtain⟨x,hx,hx2⟩:=w0z.mp h1;exact⟨x,by rw[e,<- hx2],by simp[hx],hall x hx2.symm⟩
theorem x4s(n:Nat)(c:Mc)(hc:c.Ok):∀(fuel t M:Nat),max1 [encK (lev c t)]=some (.int (M:Int))->M∈lev c t->(∀k∈lev c t,k<=M)->t<=M->M<c.states.length->c.states.length<=t+fuel ->
  ∃(L:Nat)(z:S),Stab c L/\L<c.states.length/\whileD (q12 K a (run K a (n+1))) (q2o K a (run K a (n+1))) (fuel+1) [.fr (.lst (c.states.map encSt)),.own none (levs c t),.fr (encK (lev c (t+1)))]=.nx [.fr (.lst (c.states.map encSt)),.own none (levs c L),z]:=by
 intro fuel
 induction fuel with
 |zero=>intro t M h1 _ _ h2 h3 h4;omega
 |succ fuel ih=>
  intro t M h1 hM1 hM2 h2 h3 h4;have hmost:=hc.most;obtain⟨M',m1,m2,m3⟩:=x7s (x7m hc (t+1));have hM':=x7g hc.pos (t+1) M' m2
  have hw:q12 K a (run K a (n+1)) [.fr (.lst (c.states.map encSt)),.own none (levs c t),.fr (encK (lev c (t+1)))]=.ok (decide ((M:Int)<(M':Int))) [.fr (.lst (c.states.map encSt)),.own none (levs c t),.fr (encK (lev c (t+1)))]:=by
   unfold q12;walk_at "den";rw[m1];walk_at "den";rw[q9i];walk_at "den";rw[h1];walk_at "den"
  rw[q3n,hw];walk_at "den"
  by_cases hlt:(M:Int)<(M':Int)
  ·rw[if_pos hlt];unfold q2o;walk_at "den";rw[if_pos (by rw[y0u];omega)];walk_at "den";rw[q9g n c hc (lev c (t+1)) (q29 c (t+1))];walk_at "den";have q:=ih (t+1) M' m1 m2 m3 (by omega) hM' (by omega);rw[q9h]at q;exact q
  ·rw[if_neg hlt];exact⟨t,_,y41 hc hM1 hM2 m3 (by omega),by omega,rfl⟩
theorem y0w(n:Nat)(c:Mc)(hc:c.Ok):∃L:Nat,Stab c L/\L<c.states.length/\run K a (n+2) q05 [.lst (c.states.map encSt)]=.ok (.own none (levs c L)):=by
 have hmost:=hc.most;have hpos:=hc.pos;rw[q3i];unfold q1w;walk_at "den";rw[w0c,z0b _ (by omega)];walk_at "den";rw[show atI [encK (List.replicate c.states.length 0)] (-1)=some (encK (lev c 0)) by exact q8r (l:=[])];walk_at "den";rw[q9g n c hc (lev c 0) (q29 c 0)];walk_at "den";obtain⟨M,m1,m2,m3⟩:=x7s (x7m hc 0);have hM:=x7g hc.pos 0 M m2;obtain⟨L,z,q0,q1,q2⟩:=x4s (K:=K) (a:=a) n c hc 999999 0 M m1 m2 m3 (by omega) hM (by omega);have e:([encK (List.replicate c.states.length 0)]:List W)=levs c 0:=rfl;rw[e];rw[show(W.lst (List.map nW50 (fin c (lev c 0))))=encK (lev c 1)from rfl];rw[show(1000000:Nat)=999999+1 from rfl];rw[q2];walk_at "den";exact⟨L,q0,q1,rfl⟩
theorem eqBd(x y:List Bool):eq2 (encB x) (encB y)=some (.bl (decide (x=y))):=by
 have h:depWs (x.map .bl)=0:=(q3s x).2.1;unfold eq2 encB;rw[if_pos (show depW (.tup (x.map .bl))<=150 by show depWs (x.map .bl)+1<=150;omega)];show(eqWs (x.map .bl) (y.map .bl)).map _=_;rw[q8s];rfl
noncomputable def kx2(p:Nat×Nat):Kx:=.tup [.int (p.1:Int),.int (p.2:Int)]
theorem y42{p:Nat×Nat}(h:kx2 p=kx2 q):p=q:=by
 unfold kx2 at h;injection h with h
 injection h with h1 h2
 injection h2 with h2 _
 injection h1 with h1
 injection h2 with h2
 exact Prod.ext (by omega) (by omega)
noncomputable def rowsOf(c:Mc)(p:Nat×Nat):List Nat:=Classical.epsilon fun rs=>∃t,Sep c t p.1 p.2/\Rows c (t+1) p.1 p.2 rs
theorem q3u{c:Mc}(hc:c.Ok)(hi:i<c.states.length)(hj:j<c.states.length)(h:kd c L i≠kd c L j):∃t,t+1<=L/\Sep c t i j/\Rows c (t+1) i j (rowsOf c (i,j)):=by
 obtain⟨t,ht,hs⟩:=x7h h;obtain⟨rs,hr⟩:=x3d hc t hi hj hs;obtain⟨t',hs',hr'⟩:∃t,Sep c t i j/\Rows c (t+1) i j (rowsOf c (i,j)):=Classical.epsilon_spec (p:=fun rs=>∃t,Sep c t (i,j).1 (i,j).2/\Rows c (t+1) (i,j).1 (i,j).2 rs) ⟨rs,t,hs,hr⟩
 have e:=y4y hc hi hj hs hs';subst e;exact⟨t,by omega,hs,hr'⟩
noncomputable def rowW(c:Mc)(p:Nat×Nat):W:=encK (rowsOf c p)
theorem q4k{f:Nat×Nat->W}:∀ps:List (Nat×Nat),lkW (ps.map kx2) (ps.map f) (kx2 q)=if q∈ps then some (f q)else none
 |[]=>by rw[if_neg (by simp)];rfl
 |p::ps=>by
  show(if kx2 p=kx2 q then some (f p)else lkW (ps.map kx2) (ps.map f) (kx2 q))=_
  by_cases e:p=q
  ·rw[if_pos (by rw[e]),if_pos (by simp[e]),e]
  ·rw[if_neg (fun z=>e (y42 z)),q4k ps]
   by_cases h:q∈ps
   ·rw[if_pos h,if_pos (by simp[h])]
   ·rw[if_neg h,if_neg (by simp[h];exact fun z=>e z.symm)]
noncomputable def pairW(p:Nat×Nat):W:=.tup [.int (p.1:Int),.int (p.2:Int)]
theorem q5s(p:Nat×Nat):keyT (pairW p)=some (kx2 p):=rfl
theorem q3z(p:Nat×Nat):fits (kx2 p) (.many .int):=⟨⟨trivial,trivial,trivial⟩,by show max 0 (max 0 0)+1<=7;decide⟩
def Gd2(c:Mc)(L:Nat)(p:Nat×Nat):Prop:=p.1<p.2/\p.2<c.states.length/\kd c L p.1≠kd c L p.2
theorem y43(h:UpP ps)(hq:∀p∈ps,p.1<q.1\/p.1=q.1/\p.2<q.2):UpP (ps++[q]):=by
 unfold UpP at h |-
 rw[List.pairwise_append];exact⟨h,by simp,fun p hp r hr=>by rw[w1g.mp hr];exact hq p hp⟩
theorem x7t(n:Nat)(c:Mc)(hc:c.Ok)(L:Nat)(hL:L<c.states.length)(w0:W)(ps:List (Nat×Nat))(i j:Nat)(hij:i<j)(hj:j<c.states.length)(hn:(i,j)∉ps)(hl:ps.length<=1000):
  ∃ps':List (Nat×Nat),q3e K a (run K a (n+3)) [.fr w0,.fr (.lst (c.states.map encSt)),.fr (.lst (levs c L)),.fr (encK (lev c L)),.dw (.many .int) (ps.map kx2) (ps.map (rowW c)),.fr (.int (i:Int)),.fr (.int (j:Int))] =
   .nx [.fr w0,.fr (.lst (c.states.map encSt)),.fr (.lst (levs c L)),.fr (encK (lev c L)),.dw (.many .int) (ps'.map kx2) (ps'.map (rowW c)),.fr (.int (i:Int)),.fr (.int (j:Int))] /\
   (ps'=ps\/ps'=ps++[(i,j)])/\∀p,p∈ps'↔p∈ps\/(p=(i,j)/\Gd2 c L p):=by
 have hi:i<c.states.length:=by omega
 have hmost:=hc.most;unfold q3e encK;walk_at "den";rw[q5e L hi];walk_at "den";rw[q5e L hj];walk_at "den"
 by_cases h:kd c L i=kd c L j
 ·rw[h];simp only[decide_true,w1j,w0k,if_false];refine⟨ps,rfl,.inl rfl,fun p=>⟨.inl,fun z=>?_⟩⟩
  rcases z with z|⟨rfl,z⟩
  ·exact z
  ·exact absurd h z.2.2
 ·obtain⟨t,t1,t2,t3⟩:=q3u hc hi hj h;rw[if_pos (by simp;omega),x7q n c hc L t i j hi hj t2 t1 (by omega) _ t3];walk_at "den";rw[show W.tup [W.int (i:Int),W.int (j:Int)]=pairW (i,j)from rfl,y4r (q5s (i,j)) (by rw[w0c];omega) (by rfl) (q3z (i,j)) (by rw[q4k,if_neg hn])];refine⟨ps++[(i,j)],?_,.inr rfl,fun p=>?_⟩
  ·rw[w0t,w0t];rfl
  ·rw[w1q,w1g];refine⟨fun z=>z.imp id fun e=>⟨e,by rw[e];exact⟨hij,hj,h⟩⟩,fun z=>z.imp id fun e=>e.1⟩
theorem x4t(n:Nat)(c:Mc)(hc:c.Ok)(L:Nat)(hL:L<c.states.length)(w0:W)(ps:List (Nat×Nat))(i:Nat)(hi:i<c.states.length)(hl:ps.length<=20*i)(hu:UpP ps)(hm:∀p,p∈ps↔Gd2 c L p/\p.1<i)(z6:S):
  ∃(ps':List (Nat×Nat))(z6':S),q3f K a (run K a (n+3)) [.fr w0,.fr (.lst (c.states.map encSt)),.fr (.lst (levs c L)),.fr (encK (lev c L)),.dw (.many .int) (ps.map kx2) (ps.map (rowW c)),.fr (.int (i:Int)),z6] =
   .nx [.fr w0,.fr (.lst (c.states.map encSt)),.fr (.lst (levs c L)),.fr (encK (lev c L)),.dw (.many .int) (ps'.map kx2) (ps'.map (rowW c)),.fr (.int (i:Int)),z6'] /\
   ps'.length<=20*(i+1)/\UpP ps'/\∀p,p∈ps'↔Gd2 c L p/\p.1<i+1:=by
 have hmost:=hc.most;unfold q3f;walk_at "den";rw[w0c,if_pos ⟨q18 (by omega) (by omega),q18 (by omega) (by omega)⟩];walk_at "den"
 obtain⟨e',h2,ps',z6',rfl,q1,qu,q2⟩:=q1x (b:=q3e K a (run K a (n+3))) (i:=6) (lo:=(i:Int)+1) (hi:=(c.states.length:Int)) (c.states.length-(i+1)) (by omega) (fun j e=>∃(ps':List (Nat×Nat))(z:S),e=[.fr w0,.fr (.lst (c.states.map encSt)),.fr (.lst (levs c L)),.fr (encK (lev c L)),.dw (.many .int) (ps'.map kx2) (ps'.map (rowW c)),.fr (.int (i:Int)),z]/\ps'.length<=20*i+j/\UpP ps'/\∀p,p∈ps'↔Gd2 c L p/\(p.1<i\/(p.1=i/\p.2<i+1+j)))
  [.fr w0,.fr (.lst (c.states.map encSt)),.fr (.lst (levs c L)),.fr (encK (lev c L)),.dw (.many .int) (ps.map kx2) (ps.map (rowW c)),.fr (.int (i:Int)),z6] ⟨ps,z6,rfl,by omega,hu,fun p=>by
   rw[hm p];refine⟨fun h=>⟨h.1,.inl h.2⟩,fun h=>⟨h.1,?_⟩⟩
   rcases h.2 with z|⟨z1,z2⟩
   ·exact z
   ·have:=h.1.1;omega⟩ (by
  rintro j e hj ⟨ps',z,rfl,q1,qu,q2⟩
  obtain⟨ps2,r1,r2,r3⟩:=x7t (K:=K) (a:=a) n c hc L hL w0 ps' i (i+1+j) (by omega) (by omega) (fun h=>by
   have:=(q2 _).mp h;rcases this.2 with z|z
   ·have:i<i:=z;omega
   ·have:i+1+j<i+1+j:=z.2;omega) (by omega)
  have e1:((i:Int)+1+(j:Int))=((i+1+j:Nat):Int):=by omega
  rw[e1];refine⟨_,r1,ps2,_,rfl,?_,?_,fun p=>?_⟩
  ·rcases r2 with rfl|rfl
   ·omega
   ·rw[w1b,w3k];omega
  ·rcases r2 with rfl|rfl
   ·exact qu
   ·refine y43 qu fun p hp=>?_
    rcases((q2 p).mp hp).2 with z|z
    ·exact .inl z
    ·exact .inr z
  rw[r3 p,q2 p];constructor
  ·rintro(⟨g,h⟩|⟨rfl,g⟩)
   ·refine⟨g,h.imp id fun h=>⟨h.1,by omega⟩⟩
   ·exact⟨g,.inr ⟨rfl,by show i+1+j<i+1+(j+1);omega⟩⟩
  ·rintro⟨g,h⟩;rcases h with h|⟨h1,h2⟩
   ·exact .inl ⟨g,.inl h⟩
   ·by_cases hp:p.2=i+1+j
    ·exact .inr ⟨Prod.ext h1 hp,g⟩
    ·exact .inl ⟨g,.inr ⟨h1,by omega⟩⟩)
 rw[h2];refine⟨ps',z6',rfl,by omega,qu,fun p=>?_⟩
 rw[q2 p];refine⟨fun h=>⟨h.1,?_⟩,fun h=>⟨h.1,?_⟩⟩
 ·rcases h.2 with z|z<;>omega
 ·have:=h.1.2.1;have:=h.2
  by_cases z:p.1=i
  ·exact .inr ⟨z,by omega⟩
  ·exact .inl (by omega)
theorem q6j(n:Nat)(c:Mc)(hc:c.Ok):∃(L:Nat)(ps:List (Nat×Nat)),Stab c L/\L<c.states.length/\run K a (n+4) q1b [encMc c]=.ok (.x (.new (.dw true (.many .int) (ps.map kx2) (ps.map (rowW c)))))/\(ps.length<=400/\UpP ps)/\∀p,p∈ps↔Gd2 c L p:=by
 have hmost:=hc.most;obtain⟨L,hS,hL,k1⟩:=y0w (K:=K) (a:=a) (n+1) c hc;rw[q6d];unfold q3g;walk_at "den";rw[x7e (n+1) c hc];walk_at "den";rw[q78];walk_at "den";rw[k1];walk_at "den";rw[q9i];walk_at "den";rw[w0c,if_pos (q18 (by omega) (by omega))];walk_at "den"
 obtain⟨e',h2,ps,z5,z6,rfl,q1,qu,q2⟩:=q1x (b:=q3f K a (run K a (n+3))) (i:=5) (lo:=0) (hi:=(c.states.length:Int)) c.states.length (by omega) (fun j e=>∃(ps:List (Nat×Nat))(z5 z6:S),e=[.fr (encMc c),.fr (.lst (c.states.map encSt)),.fr (.lst (levs c L)),.fr (encK (lev c L)),.dw (.many .int) (ps.map kx2) (ps.map (rowW c)),z5,z6]/\ps.length<=20*j/\UpP ps/\∀p,p∈ps↔Gd2 c L p/\p.1<j)
  [.fr (encMc c),.fr (.lst (c.states.map encSt)),.fr (.lst (levs c L)),.fr (encK (lev c L)),.dw (.many .int) [] [],.no,.no] ⟨[],_,_,rfl,by simp,List.Pairwise.nil,fun p=>by simp⟩ (by
  rintro j e hj ⟨ps,z5,z6,rfl,q1,qu,q2⟩;rw[w3n];obtain⟨ps',z6',r1,r2,ru,r3⟩:=x4t (K:=K) (a:=a) n c hc L hL (encMc c) ps j hj q1 qu q2 z6;exact⟨_,r1,ps',_,z6',rfl,r2,ru,r3⟩)
 rw[h2];walk_at "den";rw[y4s];walk_at "den";exact⟨L,ps,hS,hL,rfl,⟨by omega,qu⟩,fun p=>by rw[q2 p];exact⟨fun h=>h.1,fun h=>⟨h,by have:=h.1;have:=h.2.1;omega⟩⟩⟩
theorem x7u(n:Nat)(x y:Nat):run K a (n+1) q16 [.int (x:Int),.int (y:Int)]=.ok (.fr (pairW (min x y,max x y))):=by
 rw[q5w];unfold q26;walk_at "den";unfold pairW;have e1:(if(y:Int)<(x:Int)then(y:Int)else(x:Int))=((min x y:Nat):Int):=by split<;>omega
 have e2:(if(x:Int)<(y:Int)then(y:Int)else(x:Int))=((max x y:Nat):Int):=by split<;>omega
 rw[e1,e2]
theorem q61{cc:Den Bool}{d:Den W}{pe:List S}{q:W->Bool}{g:W->W}:∀(ws:List W),(∀w∈ws,∃e1,cc (.fr w::pe)=.ok (q w) e1/\(q w=true->∃e2,d e1=.ok (g w) e2))->compD cc d pe ws=some ((ws.filter q).map g)
 |[],_=>rfl
 |w::ws,h=>by
  obtain⟨e1,h1,h2⟩:=h w (by simp);have ih:=q61 (cc:=cc) (d:=d) (pe:=pe) (q:=q) (g:=g) ws fun u hu=>h u (by simp[hu])
  rw[x52,h1];cases hq:q w with
  |true=>
   obtain⟨e2,h3⟩:=h2 hq;simp only[hq,h3,ih,w2p,if_true];rfl
  |false=>simp[hq,ih,w2p]
theorem x1l:∀rs:List Nat,depWs (rs.map nW50)=0
 |[]=>rfl
 |r::rs=>by show max 0 (depWs (rs.map nW50))=0;rw[x1l rs];rfl
theorem y8m:ne2 (.lst []) (.lst [])=some (.bl false):=rfl
theorem x7v{cc:Den Bool}{d:Den W}{pe:List S}:∀ws:List W,(∀w∈ws,∃e1,cc (.fr w::pe)=.ok false e1)->compD cc d pe ws=some []:=fun ws h=>by
 rw[q61 (q:=fun _=>false) (g:=fun w=>w)]
 ·simp
 ·intro w hw;obtain⟨e1,q⟩:=h w hw;exact⟨e1,q,fun z=>nomatch z⟩
theorem y8n{c:Mc}{x y:Nat}(hx:x<c.states.length)(hy:y<c.states.length):Gd2 c L (min x y,max x y)↔kd c L x≠kd c L y:=by
 unfold Gd2;show min x y<max x y/\max x y<c.states.length/\kd c L (min x y)≠kd c L (max x y)↔_;rcases Nat.lt_trichotomy x y with h|h|h
 ·rw[Nat.min_eq_left (by omega),Nat.max_eq_right (by omega)];exact⟨fun z=>z.2.2,fun z=>⟨h,hy,z⟩⟩
 ·subst h;rw[w4b];rw[Nat.max_self];exact⟨fun z=>absurd rfl z.2.2,fun z=>absurd rfl z⟩
 ·rw[Nat.min_eq_right (by omega),Nat.max_eq_left (by omega)];exact⟨fun z=>z.2.2.symm,fun z=>⟨h,hx,z.symm⟩⟩
theorem y44(s:List Pr):len1 [encSt s]=some (.int (s.length:Int)):=by
 show some (W.int ((s.map encPr).length:Int))=_;rw[w0c]
theorem q8a{k:Nat}(h:rs[k]?=some r):atI (rs.map nW50) (k:Int)=some (.int (r:Int)):=by
 refine q2x ?_;rw[w0f,h];rfl
def Ptd(c:Mc)(rs:List Nat)(k lo hi:Nat):Prop:=∃t,t+k=rs.length/\Rows c t lo hi (rs.drop k)/\(∀t',t=t'+1->Sep c t' lo hi)/\lo<c.states.length/\hi<c.states.length
theorem y45(M:Exs K mg a)(n:Nat)(c:Mc)(hc:c.Ok)(w1:W)(rs:List Nat)(hrs:rs.length<=100)(k lo hi:Nat)(hk:k<rs.length)(h:Ptd c rs k lo hi)(z6 z7:S):
  ∃(lo' hi':Nat)(z6' z7':S),Ptd c rs (k+1) lo' hi'/\q2z K a (run K a n) [.fr (.lst (c.states.map encSt)),.fr w1,.fr (.lst (rs.map nW50)),.fr (.int (lo:Int)),.fr (.int (hi:Int)),.fr (.int (k:Int)),z6,z7] =
   .nx [.fr (.lst (c.states.map encSt)),.fr w1,.fr (.lst (rs.map nW50)),.fr (.int (lo':Int)),.fr (.int (hi':Int)),.fr (.int (k:Int)),z6',z7']:=by
 obtain⟨t,ht,hr,hs,h1,h2⟩:=h;obtain⟨t',rfl⟩:∃t',t=t'+1:=⟨t-1,by omega⟩;have hs:=hs t' rfl;have hd:rs.drop k=rs[k]::rs.drop (k+1):=w2d hk;rw[hd]at hr;have hg:rs[k]?=some rs[k]:=w0d hk;generalize rs[k]=r at hr hg
 obtain⟨hr1,hr2,hr3⟩:r<2^c.m/\Part c t' lo hi r/\Rows c t' (nxt c lo r) (nxt c hi r) (rs.drop (k+1)):=by
  cases hr with
  |cons q1 q2 q3 q4=>exact⟨q1,q2,q4⟩
 have hlen:(c.states.getD lo []).length=2^c.m:=hc.st _ (q36 h1)
 have hb:decide (told c lo r=told c hi r)=decide ((k:Int)<(rs.length:Int)-1):=by
  cases t' with
  |zero=>
   have q:told c lo r≠told c hi r:=by unfold Part at hr2;rwa [if_pos rfl]at hr2
   rw[decide_eq_false q,decide_eq_false (by omega)]
  |succ t'=>
   have q:told c lo r=told c hi r:=((q37 hc h1 h2).mp hs.2 r hr1).1;rw[decide_eq_true q,decide_eq_true (by omega)]
 refine⟨nxt c lo r,nxt c hi r,.fr (encPr (prAt c lo r)),.fr (encPr (prAt c hi r)),⟨t',by omega,hr3,fun t'' e=>?_,q2l hc h1 hr1,q2l hc h2 hr1⟩,?_⟩
 ·subst e;exact x1h hc h1 h2 hs hr1 hr2
 unfold q2z;walk_at "den";rw[q8a hg];walk_at "den";rw[x2m M.t_int_int];walk_at "den";rw[q8a hg];walk_at "den";rw[x2m M.t_int_bool];walk_at "den";rw[q8a hg];walk_at "den";rw[if_pos (show(0:Int)<=(r:Int) by omega)];walk_at "den";rw[q35 h1];walk_at "den";rw[y44,hlen];walk_at "den";rw[decide_eq_true (show(r:Int)<((2^c.m:Nat):Int) by omega)];walk_at "den";rw[q35 h1];walk_at "den";rw[q8a hg];walk_at "den";rw[q9z,q3y hc h1 hr1];walk_at "den";rw[q35 h2];walk_at "den";rw[q8a hg];walk_at "den";rw[q9z,q3y hc h2 hr1];walk_at "den";rw[q79];walk_at "den";rw[q79];walk_at "den";rw[eqBd];walk_at "den";rw[w0c];walk_at "den";rw[show(prAt c lo r).1=told c lo r from rfl,show(prAt c hi r).1=told c hi r from rfl,hb];walk_at "den";try rw[D.ne_bb,decide_eq_true rfl]
 walk_at "den";rw[q3x];walk_at "den";rw[q3x];walk_at "den";rfl
theorem y46:∀{rs:List Nat},rs≠[]->eq2 (.lst (rs.map nW50)) (.lst [])=some (.bl false)
 |[],h=>absurd rfl h
 |r::rs,_=>by
  unfold eq2;have:depWs ((r::rs).map nW50)=0:=x1l _;rw[if_pos (show depW (.lst ((r::rs).map nW50))<=150 by show depWs ((r::rs).map nW50)+1<=150;omega)];rfl
theorem y1g{w:W}{sh:Sh}{ks:List Kx}{fz:Bool}(hk:keyT w=some x)(hc:fits x sh):inT w (.dw fz sh ks ws)=some (.bl (lkW ks ws x).isSome):=by
 unfold inT;rw[hk];exact if_pos hc
theorem y47(M:Exs K mg a)(n:Nat)(c:Mc)(hc:c.Ok)(t i j:Nat)(hi:i<c.states.length)(hj:j<c.states.length)(hs:Sep c t i j)(rs:List Nat)(hr:Rows c (t+1) i j rs)(hrs:rs.length<=100):
  run K a (n+1) q1z [.lst (c.states.map encSt),pairW (i,j),.lst (rs.map nW50)]=.ok (.fr (.bl true)):=by
 have hl:=hr.len;have hne:rs≠[]:=fun z=>by rw[z]at hl;simp at hl
 rw[q45];unfold q2v pairW;walk_at "den";rw[y25 M.t_list_list];walk_at "den";rw[y46 hne];walk_at "den";rw[w0c,if_pos (q18 (by omega) (by omega))];walk_at "den"
 obtain⟨e',h2,lo,hh,z5,z6,z7,rfl,_⟩:=q1x (b:=q2z K a (run K a n)) (i:=5) (lo:=0) (hi:=(rs.length:Int)) rs.length (by omega) (fun k e=>∃(lo hi:Nat)(z5 z6 z7:S),e=[.fr (.lst (c.states.map encSt)),.fr (.tup [.int (i:Int),.int (j:Int)]),.fr (.lst (rs.map nW50)),.fr (.int (lo:Int)),.fr (.int (hi:Int)),z5,z6,z7]/\Ptd c rs k lo hi)
  [.fr (.lst (c.states.map encSt)),.fr (.tup [.int (i:Int),.int (j:Int)]),.fr (.lst (rs.map nW50)),.fr (.int (i:Int)),.fr (.int (j:Int)),.no,.no,.no] ⟨i,j,_,_,_,rfl,t+1,by omega,hr,fun t' e=>by cases e;exact hs,hi,hj⟩ (by
  rintro k e hk ⟨lo,hh,z5,z6,z7,rfl,hp⟩;rw[w3n];obtain⟨lo',hi',z6',z7',g1,g2⟩:=y45 (K:=K) (a:=a) M n c hc (.tup [.int (i:Int),.int (j:Int)]) rs hrs k lo hh hk hp z6 z7;exact⟨_,g2,lo',hi',_,z6',z7',rfl,g1⟩)
 rw[h2];walk_at "den"
theorem y48(n:Nat)(c:Mc)(hc:c.Ok)(L:Nat)(ps:List (Nat×Nat))(hps:∀p,p∈ps↔Gd2 c L p)(i j:Nat)(hi:i<c.states.length)(hj:j<c.states.length)(he:kd c (L+1) i=kd c (L+1) j)(w0 w1 w2:W)(r:Nat)(hr:r<2^c.m)(w3:W)(hw3:w3=.dw true (.many .int) (ps.map kx2) (ps.map (rowW c))):
  q20 K a (run K a (n+1)) [.fr w0,.fr w1,.fr w2,.fr w3,.fr (encPr (prAt c i r)),.fr (encPr (prAt c j r))]=.nx [.fr w0,.fr w1,.fr w2,.fr w3,.fr (encPr (prAt c i r)),.fr (encPr (prAt c j r))]:=by
 obtain⟨e1,e2⟩:=(q37 hc hi hj).mp he r hr;have hx:=q2l hc hi hr;have hy:=q2l hc hj hr;have hn:¬(min (nxt c i r) (nxt c j r),max (nxt c i r) (nxt c j r))∈ps:=fun z=>((y8n hx hy).mp ((hps _).mp z)) e2
 unfold q20;walk_at "den";rw[q79];walk_at "den";rw[q79];walk_at "den";try rw[Q.ne_bb]
 walk_at "den";rw[show(prAt c i r).1=told c i r from rfl,show(prAt c j r).1=told c j r from rfl,e1];simp only[decide_true,w1j,w0k,if_false];rw[q3x];walk_at "den";rw[q3x];walk_at "den";rw[show((prAt c i r).2:Int)=((nxt c i r:Nat):Int)from rfl,show((prAt c j r).2:Int)=((nxt c j r:Nat):Int)from rfl]
 by_cases h:((nxt c i r:Nat):Int)=((nxt c j r:Nat):Int)
 ·rw[h];simp only[decide_true,w1j,w0k,if_false];walk_at "den"
 ·rw[decide_eq_false h];simp only[w3q,if_true];rw[q3x];walk_at "den";rw[q3x];walk_at "den";rw[show((prAt c i r).2:Int)=((nxt c i r:Nat):Int)from rfl,show((prAt c j r).2:Int)=((nxt c j r:Nat):Int)from rfl,x7u n];walk_at "den";subst hw3;rw[y1g (q5s _) (q3z _),q4k,if_neg hn];walk_at "den";try simp only[w3y]
  walk_at "den"
theorem y8o{c:Mc}(hc:c.Ok)(hi:i<c.states.length)(hj:j<c.states.length):((c.states.getD i []).map encPr).zip ((c.states.getD j []).map encPr)=(List.range (2^c.m)).map fun r=>(encPr (prAt c i r),encPr (prAt c j r)):=by
 have h1:=hc.st _ (q36 hi);have h2:=hc.st _ (q36 hj);unfold prAt;generalize c.states.getD i []=s at h1 |-
 generalize c.states.getD j []=t at h2 |-
 refine List.ext_getElem (by simp[h1,h2]) fun k k1 k2=>?_
 have hk:k<2^c.m:=by simpa using k2
 rw[List.getElem_zip,w2q,w2q,w2q,List.getElem_range];rw[w2w,w2w,w0d (by omega),w0d (by omega)];rfl
theorem y8p(n:Nat)(c:Mc)(hc:c.Ok)(L:Nat)(ps:List (Nat×Nat))(hps:∀p,p∈ps↔Gd2 c L p)(i j:Nat)(hi:i<c.states.length)(hj:j<c.states.length)(he:kd c (L+1) i=kd c (L+1) j):
  run K a (n+2) q10 [.lst (c.states.map encSt),.int (i:Int),.int (j:Int),.dw true (.many .int) (ps.map kx2) (ps.map (rowW c))]=.ok (.fr (.bl true)):=by
 rw[q46];unfold q2w;walk_at "den";rw[q35 hi];walk_at "den";rw[q35 hj];unfold encSt;walk_at "den";rw[y8o hc hi hj]
 obtain⟨e',h1,z4,z5,rfl⟩:=q7e (i:=4) (j:=5) (b:=q20 K a (run K a (n+1))) (fun e=>∃z4 z5,e=[.fr (.lst (c.states.map encSt)),.fr (.int (i:Int)),.fr (.int (j:Int)),.fr (.dw true (.many .int) (ps.map kx2) (ps.map (rowW c))),z4,z5]) ((List.range (2^c.m)).map fun r=>(encPr (prAt c i r),encPr (prAt c j r))) [.fr (.lst (c.states.map encSt)),.fr (.int (i:Int)),.fr (.int (j:Int)),.fr (.dw true (.many .int) (ps.map kx2) (ps.map (rowW c))),.no,.no] ⟨_,_,rfl⟩ (by
  rintro p hp e ⟨z4,z5,rfl⟩;obtain⟨r,hr,rfl⟩:=w0z.mp hp;exact⟨_,y48 (K:=K) (a:=a) n c hc L ps hps i j hi hj he _ _ _ r (w1n.mp hr) _ rfl,_,_,rfl⟩)
 unfold encSt at h1;rw[h1];walk_at "den"
theorem x3g:∀ps:List (Nat×Nat),eqWs (ps.map pairW) (ps.map pairW)=some true
 |[]=>rfl
 |p::ps=>by
  rw[w0v];show(match eqW (pairW p) (pairW p),eqWs (ps.map pairW) (ps.map pairW)with|some x,some y=>some (x&&y)|_,_=>none)=_;rw[x3g ps];simp[eqW,eqWs,pairW]
noncomputable def cnt(ps:List (Nat×Nat))(i j:Nat):Nat:=ps.countP fun p=>decide (p.1<i\/p.1=i/\p.2<j)
theorem x1m{i j:Nat}:∀{ps:List (Nat×Nat)},UpP ps->cnt ps i (j+1)=cnt ps i j+if(i,j)∈ps then 1 else 0
 |[],_=>rfl
 |p::ps,h=>by
  have h1:=List.pairwise_cons.mp h;have ih:=x1m (i:=i) (j:=j) (ps:=ps) h1.2;unfold cnt at ih |-
  rw[List.countP_cons,List.countP_cons,ih]
  by_cases e:p=(i,j)
  ·have hn:(i,j)∉ps:=fun z=>by
    have:=h1.1 _ z;rw[e]at this;simp at this
   subst e;rw[if_neg hn,if_pos (w0s ..)];simp
  ·have e2:decide (p.1<i\/p.1=i/\p.2<j+1)=decide (p.1<i\/p.1=i/\p.2<j):=by
    rw[decide_eq_decide];have:¬(p.1=i/\p.2=j):=fun z=>e (Prod.ext z.1 z.2)
    omega
   rw[e2]
   have e3:((i,j)∈p::ps)=((i,j)∈ps):=by
    rw[w0j];exact propext ⟨fun z=>z.elim (fun y=>absurd y.symm e) id,.inr⟩
   simp only[e3];omega
theorem y49{N:Nat}(h:∀p∈ps,p.2<N):cnt ps i N=cnt ps (i+1) 0:=by
 unfold cnt;refine List.countP_congr fun p hp=>?_
 have:=h p hp;simp;omega
theorem x7w{i:Nat}(h:∀p∈ps,p.1<p.2):cnt ps i (i+1)=cnt ps i 0:=by
 unfold cnt;refine List.countP_congr fun p hp=>?_
 have:=h p hp;simp;omega
theorem y0x:cnt ps 0 0=0:=by
 unfold cnt;rw[List.countP_eq_zero];intro p _;simp
theorem y5a{N:Nat}(h:∀p∈ps,p.1<N):cnt ps N 0=ps.length:=by
 unfold cnt;rw[List.countP_eq_length];intro p hp;have:=h p hp;simp[this]
theorem x1n:∀ps:List (Nat×Nat),prNs (ps.map pairW)=some ps
 |[]=>rfl
 |p::ps=>by
  rw[w0v];unfold prNs;rw[x1n ps];rfl
theorem y5b{c:Mc}{t:Nat}(h:Rows c t i j rs):∀r∈rs,r<2^c.m:=by
 induction h with
 |nil=>intro r hr;cases hr
 |cons hr _ _ _ ih=>
  intro r hm;rcases w0j.mp hm with rfl|hm
  ·exact hr
  ·exact ih r hm
theorem x7x:∀ps:List (Nat×Nat),depWs (ps.map pairW)<=1
 |[]=>w0w _
 |p::ps=>by show max 1 (depWs (ps.map pairW))<=1;have:=x7x ps;omega
theorem z0c(ps:List (Nat×Nat)):ne2 (.lst (ps.map pairW)) (.lst (ps.map pairW))=some (.bl false):=by
 unfold ne2;have:=x7x ps;rw[if_pos (show depW (.lst (ps.map pairW))<=150 by show depWs _+1<=150;omega)];simp[eqW,x3g]
theorem y8q:∀x y:Fin 32,(kxD (.tup [.int ((x.val:Nat):Int),.int ((y.val:Nat):Int)])).showable=true/\(kxD (.tup [.int ((x.val:Nat):Int),.int ((y.val:Nat):Int)])).leavesShort 8=true/\(kxD (.tup [.int ((x.val:Nat):Int),.int ((y.val:Nat):Int)])).depth<=3/\(kxD (.tup [.int ((x.val:Nat):Int),.int ((y.val:Nat):Int)])).weight<=40:=by decide +kernel
theorem x3h:∀rs:List Nat,(∀r∈rs,r<32)->plainWs (rs.map nW50)=true/\wgts (rs.map nW50)<=9*rs.length
 |[],_=>⟨rfl,w0w _⟩
 |r::rs,h=>by
  obtain⟨h1,h2⟩:=x3h rs fun x hx=>h x (by simp[hx])
  have hr:=h r (by simp);refine⟨?_,?_⟩
  ·show(plainW (nW50 r)&&plainWs (rs.map nW50))=true;rw[h1,w2r];show decide (0<=(r:Int)/\(r:Int)<32)=true;exact decide_eq_true (by omega)
  ·show wgt (nW50 r)+1+wgts (rs.map nW50)<=_;have:=q6n hr;rw[w0p];show wgt (.int (r:Int))+1+_<=_;omega
theorem x7y{f:Nat×Nat->W}:∀{ps:List (Nat×Nat)},(∀p∈ps,p.1<32/\p.2<32/\∃rs:List Nat,f p=.lst (rs.map nW50)/\rs.length<=100/\∀r∈rs,r<32)->∃ds,toDs (ps.map f)=some ds/\PyData.showableKv (zipD (ps.map kx2) ds)=true/\PyData.leavesShortKv 8 (zipD (ps.map kx2) ds)=true/\PyData.depthKv (zipD (ps.map kx2) ds)<=50/\PyData.weightKv (zipD (ps.map kx2) ds)<=1000*ps.length
 |[],_=>⟨[],rfl,rfl,rfl,w0w _,w0i _⟩
 |p::ps,h=>by
  obtain⟨ds,i1,i2,i3,i4,i5⟩:=x7y (f:=f) (ps:=ps) fun q hq=>h q (by simp[hq])
  obtain⟨h1,h2,rs,e,h3,h4⟩:=h p (by simp);obtain⟨k1,k2,k3,k4⟩:=y8q ⟨p.1,h1⟩ ⟨p.2,h2⟩;obtain⟨g1,g2⟩:=x3h rs h4;obtain⟨d,d1,d2,d3,d4,d5⟩:=q7a (.lst (rs.map nW50)) g1;have d4:d.depth=depWs (rs.map nW50)+1:=d4;have d5:d.weight=wgts (rs.map nW50):=d5;rw[x1l]at d4;refine⟨d::ds,?_,?_,?_,?_,?_⟩
  ·rw[w0v];unfold toDs;rw[e,d1,i1]
  ·show PyData.showableKv ((kxD (kx2 p),d)::zipD (ps.map kx2) ds)=true;simp only[PyData.showableKv,i2,d2,w2r];exact k1
  ·show PyData.leavesShortKv 8 ((kxD (kx2 p),d)::zipD (ps.map kx2) ds)=true;simp only[PyData.leavesShortKv,i3,d3,w2r];exact k2
  ·show PyData.depthKv ((kxD (kx2 p),d)::zipD (ps.map kx2) ds)<=50;have k3:(kxD (kx2 p)).depth<=3:=k3;simp only[PyData.depthKv];omega
  ·show PyData.weightKv ((kxD (kx2 p),d)::zipD (ps.map kx2) ds)<=_;have k4:(kxD (kx2 p)).weight<=40:=k4;simp only[PyData.weightKv,w0p];omega
theorem y5c{c:Mc}(hc:c.Ok)(hl:ps.length<=400)(hL:L<=50)(hps:∀p,p∈ps↔Gd2 c L p):∃x:Str,∀fz,reprD1 [.dw fz (.many .int) (ps.map kx2) (ps.map (rowW c))]=some (.str x):=by
 have hmost:=hc.most;have p8:2^c.m<=8:=w0u (w1i (by decide) hc.few) (by decide)
 obtain⟨ds,h1,h2,h3,h4,h5⟩:=x7y (f:=rowW c) (ps:=ps) fun p hp=>by
  have g:=(hps p).mp hp;obtain⟨t,t1,t2,t3⟩:=q3u hc (show p.1<c.states.length by have:=g.1;have:=g.2.1;omega) g.2.1 g.2.2;have t3:Rows c (t+1) p.1 p.2 (rowsOf c p):=t3;have hlen:=t3.len;exact⟨by have:=g.1;have:=g.2.1;omega,by have:=g.2.1;omega,rowsOf c p,rfl,by omega,fun r hr=>by have:=y5b t3 r hr;omega⟩
 refine⟨(PyData.dict (zipD (ps.map kx2) ds)).shown,fun fz=>?_⟩
 show(if Sh.isI (.many .int)=true then none else(dtD (ps.map kx2) (ps.map (rowW c))).bind _)=_;rw[if_neg (by decide)];unfold dtD;rw[h1];have hs:=PyData.shown_fits (B:=8) (d:=.dict (zipD (ps.map kx2) ds)) (by decide) (by decide) h3 (w0u h5 (w0u (Nat.mul_le_mul_left _ hl) (by decide)));rw[sizeLine_eq]at hs;exact if_pos ⟨h2,by show PyData.depthKv _+1<=100;omega,hs⟩
theorem y1h(ps:List (Nat×Nat)):(ps.map kx2).map wK=ps.map pairW:=by
 rw[w1u];rfl
theorem y5d(M:Exs K mg a)(n:Nat)(c:Mc)(hc:c.Ok)(L:Nat)(hS:Stab c L)(hL:L<=50)(ps:List (Nat×Nat))(hps:∀p,p∈ps↔Gd2 c L p)(i j:Nat)(hij:i<j)(hj:j<c.states.length)(z0 z1 z2 z8 z9:S)(m:Nat):
  q6q K a (run K a (n+2)) [z0,z1,z2,.x (.new (.dw true (.many .int) (ps.map kx2) (ps.map (rowW c)))),.fr (.lst (c.states.map encSt)),.fr (.int (m:Int)),.fr (.int (i:Int)),.fr (.int (j:Int)),z8,z9] =
   .nx [z0,z1,z2,.x (.new (.dw true (.many .int) (ps.map kx2) (ps.map (rowW c)))),.fr (.lst (c.states.map encSt)),.fr (.int ((m+if(i,j)∈ps then 1 else 0:Nat):Int)),.fr (.int (i:Int)),.fr (.int (j:Int)),z8,z9]:=by
 have hi:i<c.states.length:=by omega
 unfold q6q;walk_at "den";rw[show W.tup [W.int (i:Int),W.int (j:Int)]=pairW (i,j)from rfl,y1g (q5s _) (q3z _),q4k]
 by_cases h:(i,j)∈ps
 ·have g:=(hps _).mp h;obtain⟨t,t1,t2,t3⟩:=q3u hc hi hj g.2.2;rw[if_pos h,if_pos h];walk_at "den";try simp only[w3w,if_true]
  walk_at "den";rw[show W.tup [W.int (i:Int),W.int (j:Int)]=pairW (i,j)from rfl,y1c (q5s _) (q3z _),q4k,if_pos h];walk_at "den";unfold rowW encK;rw[y47 (K:=K) (a:=a) M (n+1) c hc t i j hi hj t2 _ t3 (by rw[t3.len];omega)];walk_at "den";rfl
 ·have he:kd c (L+1) i=kd c (L+1) j:=hS i j hi hj (Classical.byContradiction fun z=>h ((hps _).mpr ⟨hij,hj,z⟩))
  rw[if_neg h,if_neg h];walk_at "den";try simp only[w3y,w0k,if_false]
  walk_at "den";rw[y8p (K:=K) (a:=a) n c hc L ps hps i j hi hj he];walk_at "den";rfl
def Sm(z:S):Prop:=z=.no\/∃k:Int,z=.fr (.int k)
theorem Sm.t{z:S}(h:Sm z):isT (rew z)=false:=by
 rcases h with rfl|⟨k,rfl⟩<;>rfl
theorem y8r(M:Exs K mg a)(n:Nat)(c:Mc)(hc:c.Ok)(L:Nat)(hS:Stab c L)(hL:L<=50)(ps:List (Nat×Nat))(hu:UpP ps)(hps:∀p,p∈ps↔Gd2 c L p)(i:Nat)(hi:i<c.states.length)(z0 z1 z2 z7 z8 z9:S)(h7:Sm z7):
  ∃z7',Sm z7'/\q6r K a (run K a (n+2)) [z0,z1,z2,.x (.new (.dw true (.many .int) (ps.map kx2) (ps.map (rowW c)))),.fr (.lst (c.states.map encSt)),.fr (.int (cnt ps i 0:Int)),.fr (.int (i:Int)),z7,z8,z9] =
   .nx [z0,z1,z2,.x (.new (.dw true (.many .int) (ps.map kx2) (ps.map (rowW c)))),.fr (.lst (c.states.map encSt)),.fr (.int (cnt ps (i+1) 0:Int)),.fr (.int (i:Int)),z7',z8,z9]:=by
 have hmost:=hc.most;unfold q6r;walk_at "den";rw[w0c,if_pos ⟨q18 (by omega) (by omega),q18 (by omega) (by omega)⟩];walk_at "den";rw[<- x7w (i:=i) fun p hp=>((hps p).mp hp).1]
 obtain⟨e',h2,z7',h7',rfl⟩:=q1x (b:=q6q K a (run K a (n+2))) (i:=7) (lo:=(i:Int)+1) (hi:=(c.states.length:Int)) (c.states.length-(i+1)) (by omega) (fun k e=>∃z:S,Sm z/\e=[z0,z1,z2,.x (.new (.dw true (.many .int) (ps.map kx2) (ps.map (rowW c)))),.fr (.lst (c.states.map encSt)),.fr (.int (cnt ps i (i+1+k):Int)),.fr (.int (i:Int)),z,z8,z9])
  [z0,z1,z2,.x (.new (.dw true (.many .int) (ps.map kx2) (ps.map (rowW c)))),.fr (.lst (c.states.map encSt)),.fr (.int (cnt ps i (i+1):Int)),.fr (.int (i:Int)),z7,z8,z9] ⟨z7,h7,rfl⟩ (by
  rintro k e hk ⟨z,_,rfl⟩;have e1:((i:Int)+1+(k:Int))=((i+1+k:Nat):Int):=by omega
  rw[e1];refine⟨_,y5d (K:=K) (a:=a) M n c hc L hS hL ps hps i (i+1+k) (by omega) (by omega) z0 z1 z2 z8 z9 (cnt ps i (i+1+k)),.fr (.int ((i+1+k:Nat):Int)),.inr ⟨_,rfl⟩,?_⟩;rw[<- x1m hu];rfl)
 rw[h2,show i+1+(c.states.length-(i+1))=c.states.length by omega,y49 fun p hp=>((hps p).mp hp).2.1]
 exact⟨_,h7',rfl⟩
theorem y0y(M:Exs K mg a)(ns:List Int)(hl:ns.length<=63):run K a 151 q4p [.lst (ns.map .int)]=.ok (.fr (.bl true)):=by
 obtain⟨c,hc,r1⟩:=q60 (K:=K) (a:=a) 147 ns 0;have r1:run K a 150 q0y [.lst (ns.map .int),.int 0]=_:=r1;obtain⟨c2,hc2,r2⟩:=q60 (K:=K) (a:=a) 147 ns 8;have r2:run K a 150 q0y [.lst (ns.map .int),.int 8]=_:=r2;obtain⟨L,ps,hS,hL,s1,⟨hpl,hu⟩,hps⟩:=q6j (K:=K) (a:=a) 146 c hc;obtain⟨L2,ps2,_,_,s2,_⟩:=q6j (K:=K) (a:=a) 146 c2 hc2;have s1:run K a 150 q1b [encMc c]=_:=s1;have s2:run K a 150 q1b [encMc c2]=_:=s2;have cp:=y0o (K:=K) (a:=a) 149 c hc;have cp:run K a 150 q1q [encMc c]=_:=cp;have hmost:=hc.most;obtain⟨x0,rx⟩:=y4w c hc;obtain⟨x1,rf⟩:=y5c hc hpl (by omega) hps;rw[x24];unfold q7z;walk_at "den";rw[r1];walk_at "den";rw[cp];walk_at "den";rw[q6s,s1];walk_at "den";rw[y8d,M.t_dict_dict];walk_at "den";rw[y1h,x67 (x1n ps) (by omega) hu];walk_at "den";rw[z0c];walk_at "den";rw[q78];walk_at "den";rw[w0c,if_pos (q18 (by omega) (by omega))];walk_at "den"
 obtain⟨e',h2,z6,z7,h6,h7,rfl⟩:=q1x (b:=q6r K a (run K a 150)) (i:=6) (lo:=0) (hi:=(c.states.length:Int)) c.states.length (by omega) (fun k e=>∃z6 z7:S,Sm z6/\Sm z7/\e=[.x (.old (.lst (ns.map .int))),.x (.old (encMc c)),.x (.thro [.int (c.m:Int),.int (c.wide:Int)] (c.states.map encSt) []),.x (.new (.dw true (.many .int) (ps.map kx2) (ps.map (rowW c)))),.fr (.lst (c.states.map encSt)),.fr (.int (cnt ps k 0:Int)),z6,z7,.no,.no])
  [.x (.old (.lst (ns.map .int))),.x (.old (encMc c)),.x (.thro [.int (c.m:Int),.int (c.wide:Int)] (c.states.map encSt) []),.x (.new (.dw true (.many .int) (ps.map kx2) (ps.map (rowW c)))),.fr (.lst (c.states.map encSt)),.fr (.int 0),.no,.no,.no,.no] ⟨.no,.no,.inl rfl,.inl rfl,by rw[y0x];rfl⟩ (by
  rintro k e hk ⟨z6,z7,_,h7,rfl⟩;rw[w3n];obtain⟨z7',h7',g⟩:=y8r (K:=K) (a:=a) M 148 c hc L hS (by omega) ps hu hps k hk (.x (.old (.lst (ns.map .int)))) (.x (.old (encMc c))) (.x (.thro [.int (c.m:Int),.int (c.wide:Int)] (c.states.map encSt) [])) z7 .no .no h7;exact⟨_,g,.fr (.int (k:Int)),z7',.inr ⟨_,rfl⟩,h7',rfl⟩)
 rw[h2,y5a fun p hp=>by have:=((hps p).mp hp).1;have:=((hps p).mp hp).2.1;omega]
 walk_at "den";rw[rf];walk_at "den";rw[w0c];walk_at "den";rw[y0j,y1h];walk_at "den";rw[if_pos (by rw[w0c];omega)];try simp only[frz1,pj1,w0r,w3f]
 rw[x7v _ (by
  intro w hw;obtain⟨p,_,rfl⟩:=w0z.mp hw;unfold x23 pairW;walk_at "den";rw[y24 M.t_tuple_tuple];walk_at "den";exact⟨_,rfl⟩)]
 walk_at "den";rw[y8m];walk_at "den";rw[q6s,rx];walk_at "den";try rw[rx]
 walk_at "den";try simp only[decide_true,w1j,w0k,if_false]
 walk_at "den";rw[r2];walk_at "den";rw[s2];walk_at "den";rw[rf];walk_at "den";try simp only[decide_true,w1j,w0k,if_false]
 walk_at "den"
 rw[y0h (by simp) rfl (by rw[w0c];omega) (fun k hk=>by obtain⟨p,_,rfl⟩:=w0z.mp hk;exact q3z p) (fun w hw=>by
  obtain⟨p,hp,rfl⟩:=w0z.mp hw;refine⟨(rowsOf c p).map nW50,rfl,?_⟩;have g:=(hps p).mp hp;obtain⟨t,t1,t2,t3⟩:=q3u hc (show p.1<c.states.length by have:=g.1;have:=g.2.1;omega) g.2.1 g.2.2;have t3:Rows c (t+1) p.1 p.2 (rowsOf c p):=t3;rw[w0c,t3.len];omega)]
 walk_at "den";rw[q6s,s1];walk_at "den";rw[rf];walk_at "den";try simp only[decide_true,w1j,w0k,if_false]
 walk_at "den"
 rw[x64,if_pos ⟨rfl,by
  simp only[List.set_cons_zero,List.set_cons_succ,List.all_cons,List.all_nil,h6.t,h7.t];rfl⟩]
 walk_at "den";rw[cp];walk_at "den";rw[q6s,s1];walk_at "den";rw[rf];walk_at "den"
theorem walk{l:PySem.W.OpenLaw}{q:Program}{loose:List Str}{XP:(Str->Option Value)->Heap->Prop}{YP:World->Heap->Prop}{d:DefRec}{K:Params->PySem.W.Frag}(hn:l.most=some 63)(hdf:d.params.defaults=[])
  (hY:∀(w:World)(h:Heap),YP w h->(K w.params).In h)
  (F:∀(w:World)(mg:Str->Option Value)(fa:Addr)(h:Heap),(K w.params).In h->h.Ns mainGlobals mg->mg d.name=some (.ref fa) ->
   ∃fd:FuncData,(∀(s:Shared)(u:Value),BindsTo s fd ⟨[u],[]⟩ [("_law_script", u)])/\∀base:Heap,(K w.params).In base->base.Ns mainGlobals mg->FnOk l.prog w (K w.params) mg base (CX1 l.prog w) 151 fa fd ["_law_script"] (spLaw (K w.params)))(hNM:∀w:World,noMark (K w.params)=true):
  PySem.W.WalkO q loose XP YP l.row.toRowW d [] (fun f vs=>PySem.call f vs):=
 L2.x2b (n:=63) (k:=151) (x:="_law_script") (CX:=fun w=>CX1 l.prog w) (sp:=fun w=>spLaw (K w.params)) hn (by decide) hdf ⟨rfl,by decide,by decide,rfl⟩ hY F (fun _ _ a ns hl _ hS=>⟨a,ns,rfl,hS,hl,fun _=>rfl⟩) (fun _ _ _ _ _ z=>y6b z) hNM
theorem walkD{l:PySem.W.OpenLaw}{q:Program}{loose:List Str}{XP:(Str->Option Value)->Heap->Prop}{YP:World->Heap->Prop}{d:DefRec}{K:Params->PySem.W.Frag}(hn:l.most=some 63)(hdf:d.params.defaults=[])
  (hY:∀(w:World)(h:Heap),YP w h->(K w.params).In h)
  (F:∀(w:World)(mg:Str->Option Value)(fa:Addr)(h:Heap),(D.dropT (K w.params)).In h->h.Ns mainGlobals mg->mg d.name=some (.ref fa) ->
   ∃fd:FuncData,(∀(s:Shared)(u:Value),BindsTo s fd ⟨[u],[]⟩ [("_law_script", u)])/\∀base:Heap,(D.dropT (K w.params)).In base->base.Ns mainGlobals mg->FnOk l.prog w (D.dropT (K w.params)) mg base (CX1 l.prog w) 151 fa fd ["_law_script"] (spLaw (D.dropT (K w.params))))(hNM:∀w:World,noMark (K w.params)=true):
  PySem.W.WalkO q loose XP YP l.row.toRowW d [] (fun f vs=>PySem.call f vs):=
 walk (K:=fun p=>D.dropT (K p)) hn hdf (fun w h Y=>D.x9o (hY w h Y)) F (fun w=>D.x1v (hNM w))
end Q
open PySem PySem.W PyProof.Rows
set_option maxRecDepth 100000 in
set_option maxHeartbeats 0 in
theorem PySem.Challenge.cw_circuits_k49_partings_part_holds : PySem.Challenge.rw_circuits_k49_partings_part.Holds := by
 w_on; o_law; k_head; (case hw => w_witness2)
 k_fill
 refine Q.walkD (l := PySem.Challenge.rw_circuits_k49_partings_part) rfl rfl (fun w h Y => PySem.W.kIn_of Y) ?F (fun w => by kernel_rfl)
 case F =>
  intro w mg fa h KX G hmg;refine' Q.mk KX G hmg ?a0 ?l0 ?c0 ?k0 ?a1 ?l1 ?c1 ?k1 ?a2 ?l2 ?c2 ?k2 ?a3 ?l3 ?c3 ?k3 ?a4 ?l4 ?c4 ?k4 ?a5 ?l5 ?c5 ?k5 ?a6 ?l6 ?c6 ?k6 ?a7 ?l7 ?c7 ?k7 ?a8 ?l8 ?c8 ?k8 ?a9 ?l9 ?c9 ?k9 ?a10 ?l10 ?c10 ?k10 ?a11 ?l11 ?c11 ?k11 ?a12 ?l12 ?c12 ?k12 ?a13 ?l13 ?c13 ?k13 ?a14 ?l14 ?c14 ?k14 ?a15 ?l15 ?c15 ?k15 ?a16 ?l16 ?c16 ?k16 ?a17 ?l17 ?c17 ?k17 ?a18 ?l18 ?c18 ?k18 ?n_CircuitError ?n_NoMachine ?z_bool ?z_dict ?z_int ?z_isinstance ?z_len ?z_list ?z_max ?z_min ?z_range ?z_repr ?z_sorted ?z_tuple ?z_zip ?e_NoMachine ?c_NoMachine ?t_NoneType_list ?t_bool_list ?t_int_list ?t_str_list ?t_tuple_list ?t_list_list ?t_dict_list ?t_NoneType_bool ?t_bool_bool ?t_int_bool ?t_str_bool ?t_tuple_bool ?t_list_bool ?t_dict_bool ?t_NoneType_int ?t_bool_int ?t_int_int ?t_str_int ?t_tuple_int ?t_list_int ?t_dict_int ?t_NoneType_dict ?t_bool_dict ?t_int_dict ?t_str_dict ?t_tuple_dict ?t_list_dict ?t_dict_dict ?t_NoneType_tuple ?t_bool_tuple ?t_int_tuple ?t_str_tuple ?t_tuple_tuple ?t_list_tuple ?t_dict_tuple ?nt 150 ?hL
  (case a0 => exact D.q0h (by k_is) (by kernel_rfl))
  (case l0 => exact D.q0m (by k_is) (by kernel_rfl))
  (case c0 => exact D.q0o (by k_is) (by kernel_rfl))
  (case k0 => exact D.q0p (by kernel_rfl))
  (case a1 => exact D.q0h (by k_is) (by kernel_rfl))
  (case l1 => exact D.q0m (by k_is) (by kernel_rfl))
  (case c1 => exact D.q0o (by k_is) (by kernel_rfl))
  (case k1 => exact D.q0p (by kernel_rfl))
  (case a2 => exact D.q0h (by k_is) (by kernel_rfl))
  (case l2 => exact D.q0m (by k_is) (by kernel_rfl))
  (case c2 => exact D.q0o (by k_is) (by kernel_rfl))
  (case k2 => exact D.q0p (by kernel_rfl))
  (case a3 => exact D.q0h (by k_is) (by kernel_rfl))
  (case l3 => exact D.q0m (by k_is) (by kernel_rfl))
  (case c3 => exact D.q0o (by k_is) (by kernel_rfl))
  (case k3 => exact D.q0p (by kernel_rfl))
  (case a4 => exact D.q0h (by k_is) (by kernel_rfl))
  (case l4 => exact D.q0m (by k_is) (by kernel_rfl))
  (case c4 => exact D.q0o (by k_is) (by kernel_rfl))
  (case k4 => exact D.q0p (by kernel_rfl))
  (case a5 => exact D.q0h (by k_is) (by kernel_rfl))
  (case l5 => exact D.q0m (by k_is) (by kernel_rfl))
  (case c5 => exact D.q0o (by k_is) (by kernel_rfl))
  (case k5 => exact D.q0p (by kernel_rfl))
  (case a6 => exact D.q0h (by k_is) (by kernel_rfl))
  (case l6 => exact D.q0m (by k_is) (by kernel_rfl))
  (case c6 => exact D.q0o (by k_is) (by kernel_rfl))
  (case k6 => exact D.q0p (by kernel_rfl))
  (case a7 => exact D.q0h (by k_is) (by kernel_rfl))
  (case l7 => exact D.q0m (by k_is) (by kernel_rfl))
  (case c7 => exact D.q0o (by k_is) (by kernel_rfl))
  (case k7 => exact D.q0p (by kernel_rfl))
  (case a8 => exact D.q0h (by k_is) (by kernel_rfl))
  (case l8 => exact D.q0m (by k_is) (by kernel_rfl))
  (case c8 => exact D.q0o (by k_is) (by kernel_rfl))
  (case k8 => exact D.q0p (by kernel_rfl))
  (case a9 => exact D.q0h (by k_is) (by kernel_rfl))
  (case l9 => exact D.q0m (by k_is) (by kernel_rfl))
  (case c9 => exact D.q0o (by k_is) (by kernel_rfl))
  (case k9 => exact D.q0p (by kernel_rfl))
  (case a10 => exact D.q0h (by k_is) (by kernel_rfl))
  (case l10 => exact D.q0m (by k_is) (by kernel_rfl))
  (case c10 => exact D.q0o (by k_is) (by kernel_rfl))
  (case k10 => exact D.q0p (by kernel_rfl))
  (case a11 => exact D.q0h (by k_is) (by kernel_rfl))
  (case l11 => exact D.q0m (by k_is) (by kernel_rfl))
  (case c11 => exact D.q0o (by k_is) (by kernel_rfl))
  (case k11 => exact D.q0p (by kernel_rfl))
  (case a12 => exact D.q0h (by k_is) (by kernel_rfl))
  (case l12 => exact D.q0m (by k_is) (by kernel_rfl))
  (case c12 => exact D.q0o (by k_is) (by kernel_rfl))
  (case k12 => exact D.q0p (by kernel_rfl))
  (case a13 => exact D.q0h (by k_is) (by kernel_rfl))
  (case l13 => exact D.q0m (by k_is) (by kernel_rfl))
  (case c13 => exact D.q0o (by k_is) (by kernel_rfl))
  (case k13 => exact D.q0p (by kernel_rfl))
  (case a14 => exact D.q0h (by k_is) (by kernel_rfl))
  (case l14 => exact D.q0m (by k_is) (by kernel_rfl))
  (case c14 => exact D.q0o (by k_is) (by kernel_rfl))
  (case k14 => exact D.q0p (by kernel_rfl))
  (case a15 => exact D.q0h (by k_is) (by kernel_rfl))
  (case l15 => exact D.q0m (by k_is) (by kernel_rfl))
  (case c15 => exact D.q0o (by k_is) (by kernel_rfl))
  (case k15 => exact D.q0p (by kernel_rfl))
  (case a16 => exact D.q0h (by k_is) (by kernel_rfl))
  (case l16 => exact D.q0m (by k_is) (by kernel_rfl))
  (case c16 => exact D.q0o (by k_is) (by kernel_rfl))
  (case k16 => exact D.q0p (by kernel_rfl))
  (case a17 => exact D.q0h (by k_is) (by kernel_rfl))
  (case l17 => exact D.q0m (by k_is) (by kernel_rfl))
  (case c17 => exact D.q0o (by k_is) (by kernel_rfl))
  (case k17 => exact D.q0p (by kernel_rfl))
  (case a18 => exact D.q0h (by k_is) (by kernel_rfl))
  (case l18 => exact D.q0m (by k_is) (by kernel_rfl))
  (case c18 => exact D.q0o (by k_is) (by kernel_rfl))
  (case k18 => exact D.q0p (by kernel_rfl))
  (case n_CircuitError => exact D.q0h (by k_is) (by kernel_rfl))
  (case n_NoMachine => exact D.q0h (by k_is) (by kernel_rfl))
  (case z_bool => exact D.q0h (by k_is) (by kernel_rfl))
  (case z_dict => exact D.q0h (by k_is) (by kernel_rfl))
  (case z_int => exact D.q0h (by k_is) (by kernel_rfl))
  (case z_isinstance => exact D.q0h (by k_is) (by kernel_rfl))
  (case z_len => exact D.q0h (by k_is) (by kernel_rfl))
  (case z_list => exact D.q0h (by k_is) (by kernel_rfl))
  (case z_max => exact D.q0h (by k_is) (by kernel_rfl))
  (case z_min => exact D.q0h (by k_is) (by kernel_rfl))
  (case z_range => exact D.q0h (by k_is) (by kernel_rfl))
  (case z_repr => exact D.q0h (by k_is) (by kernel_rfl))
  (case z_sorted => exact D.q0h (by k_is) (by kernel_rfl))
  (case z_tuple => exact D.q0h (by k_is) (by kernel_rfl))
  (case z_zip => exact D.q0h (by k_is) (by kernel_rfl))
  (case e_NoMachine => kernel_rfl)
  (case c_NoMachine => kernel_rfl)
  (case t_NoneType_list => kernel_rfl)
  (case t_bool_list => kernel_rfl)
  (case t_int_list => kernel_rfl)
  (case t_str_list => kernel_rfl)
  (case t_tuple_list => kernel_rfl)
  (case t_list_list => kernel_rfl)
  (case t_dict_list => kernel_rfl)
  (case t_NoneType_bool => kernel_rfl)
  (case t_bool_bool => kernel_rfl)
  (case t_int_bool => kernel_rfl)
  (case t_str_bool => kernel_rfl)
  (case t_tuple_bool => kernel_rfl)
  (case t_list_bool => kernel_rfl)
  (case t_dict_bool => kernel_rfl)
  (case t_NoneType_int => kernel_rfl)
  (case t_bool_int => kernel_rfl)
  (case t_int_int => kernel_rfl)
  (case t_str_int => kernel_rfl)
  (case t_tuple_int => kernel_rfl)
  (case t_list_int => kernel_rfl)
  (case t_dict_int => kernel_rfl)
  (case t_NoneType_dict => kernel_rfl)
  (case t_bool_dict => kernel_rfl)
  (case t_int_dict => kernel_rfl)
  (case t_str_dict => kernel_rfl)
  (case t_tuple_dict => kernel_rfl)
  (case t_list_dict => kernel_rfl)
  (case t_dict_dict => kernel_rfl)
  (case t_NoneType_tuple => kernel_rfl)
  (case t_bool_tuple => kernel_rfl)
  (case t_int_tuple => kernel_rfl)
  (case t_str_tuple => kernel_rfl)
  (case t_tuple_tuple => kernel_rfl)
  (case t_list_tuple => kernel_rfl)
  (case t_dict_tuple => kernel_rfl)
  (case nt => exact D.x9p)
  (case hL => exact fun a M ns hl => Q.y0y M ns hl)
