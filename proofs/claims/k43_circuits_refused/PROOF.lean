import PyProof.Rows.All
import Wide.All
import OpenK.AllK
import Wide.FinOn
import PyProof.TupleKey
import PyProof.EqAt
import PyProof.EqKinds
import Wide.Seal
import Lean
import PyProof.TupleCall
import KE.KTryMore
import KE.KRevIter
import PyProof.CollectIter
import PyProof.ConsumeWalk
import PyProof.TupleOfStr
import KE.KIsAll
import PyProof.ExcArgs
import PyProof.ExcAttrAll.ValueError
import PyProof.CompUse
import PyProof.NeKinds
import PyProof.EnumIter
import PyProof.EnumFor
import PyProof.EnumMake
import PyProof.EnumStmt
import PyProof.ListMulRoad
import PyProof.ZipIter
import PyProof.TupleIter
import PyProof.Rows.SortWalk
import PyProof.SetKind
import PyProof.Rows.SetFrom
import PyProof.FactsAll.set_1
import KE.KDictSum
import PyProof.FactsAll.set_2
import PyProof.FactsAll.tuple_2
import PyProof.ReprRoads
import PyProof.Rows.SeqMore
import PyProof.ReprLen
import PyProof.WalkInts
import PyProof.SeqI3
import PyProof.Rows.TupIter
import PyProof.ListRange
import PyProof.SumWalk
import PyProof.DictIter
import PyProof.DictWalks
import PyProof.DictRoadsH
import PyProof.DictTruth
import PyProof.Rows.TupDisplay
import KE.KDictList
import PyProof.Draws
import PyProof.StrBlockI
import PyProof.StrLawsIn
import PyProof.StrOps2
import PyProof.ReprStr
import PyProof.ListNew
import PyProof.Rows.SortRev
import KE.KRevSl
import PySem.Challenge.RW_circuits_k43_circuits_refused
set_option Elab.async false
set_option linter.all false
set_option maxRecDepth 100000
set_option maxHeartbeats 1000000
local macro_rules | `(tactic| omega) => `(tactic| first | with_reducible assumption | decide | with_reducible exact Nat.le_refl _ | with_reducible exact Nat.zero_le _ | lia)
set_option genSizeOf false
set_option genInjectivity false
local macro_rules | `(tactic| walk_at "1") => `(tactic| (first | exact Or.inl rfl | exact Or.inr (Or.inl rfl) | exact Or.inr (Or.inr rfl)))
local macro_rules | `(tactic| walk_at "2") => `(tactic| (first | exact .inl rfl | exact .inr rfl | assumption))
local macro_rules | `(tactic| walk_at "3") => `(tactic| (first | exact Or.inl rfl | exact Or.inr rfl))
open PySem.W (callWith_K cellsFrom_some codeHdIn exmOne exm_one findIn hideAll hideAll_get hideAll_none keepIn kia_one kitOne kla_fn kla_obj methodObj mg_none_of mg_of of_hideAll specialIn tabObj takesIn)
def w0a:=@List.length_map
def w0b:=@List.getElem?_eq_some_iff
def w0c:=@List.size_toArray
def w0d:=@List.getElem?_eq_getElem
def w0e:=@Nat.le_refl
def w0f:=@Option.map_eq_some_iff
def w0g:=@List.mem_singleton
def w0h:=@List.getElem?_cons_succ
def w0i:=@List.map_append
def w0j:=@Nat.ne_of_lt
def w0k:=@Nat.lt_of_lt_of_le
def w0l:=@List.getElem?_set_self
def w0m:=@List.getElem?_set_ne
def w0n:=@List.mem_map
def w0o:=@List.mem_append_right
def w0p:=@List.mem_cons
def w0q:=@List.length_append
def w0r:=@List.getElem?_map
def w0s:=@List.getElem?_cons_zero
def w0t:=@List.lookup_cons
def w0u:=@List.map_cons
def w0v:=@List.mem_of_getElem?
def w0w:=@Nat.le_trans
def w0x:=@List.append_nil
def w0y:=@List.map_map
def w0z:=@List.mem_cons_of_mem
def w1a:=@List.mem_append
def w1b:=@Array.getElem?_eq_some_iff
def w1c:=@Int.toNat_natCast
def w1d:=@List.getElem?_append_left
def w1e:=@List.all_eq_true
def w1f:=@Nat.zero_le
def w1g:=@Bool.and_eq_true
def w1h:=@Array.getElem?_eq_getElem
def w1i:=@Nat.pow_le_pow_right
def w1j:=@List.mem_cons_self
def w1k:=@Int.emod_lt_of_pos
def w1l:=@List.length_cons
def w1m:=@List.mem_range
def w1n:=@List.getElem?_append_right
def w1o:=@List.getElem?_eq_none
def w1p:=@List.mem_filterMap
def w1q:=@Int.emod_nonneg
def w1r:=@Array.getElem?_append_left
def w1s:=@Bool.eq_false_iff
def w1t:=@List.reverse_cons
def w1u:=@Nat.lt_succ_of_lt
def w1v:=@Nat.lt_irrefl
def w1w:=@List.mem_filter
def w1x:=@Array.getElem?_toList
def w1y:=@List.getElem?_replicate
def w1z:=@List.append_assoc
def w2a:=@Bool.false_eq_true
def w2b:=@List.pairwise_cons
def w2c:=@List.mem_or_eq_of_mem_set
def w2d:=@List.mem_append_left
def w2e:=@Array.getElem_toList
def w2f:=@Bool.or_eq_true
def w2g:=@List.find?_cons
def w2h:=@List.mem_iff_getElem
def w2i:=@List.pairwise_iff_getElem
def w2j:=@List.length_take
def w2k:=@Nat.lt_succ_self
def w2l:=@List.drop_length
def w2m:=@Array.length_toList
def w2n:=@List.length_reverse
def w2o:=@List.filter_eq_self
def w2p:=@Nat.zero_add
def w2q:=@List.forIn_cons
def w2r:=@List.length_eq_zero_iff
def w2s:=@List.filter_cons_of_pos
def w2t:=@List.pairwise_lt_range
def w2u:=@Nat.not_lt
def w2v:=@Nat.le_of_lt
def w2w:=@List.length_replicate
def w2x:=@List.any_eq_true
def w2y:=@List.getElem_mem
def w2z:=@Int.mul_le_mul_of_nonneg_left
def w3a:=@List.filterMap_cons
def w3b:=@List.nodup_cons
def w3c:=@List.of_mem_zip
def w3d:=@Nat.le_succ
def w3e:=@List.map_congr_left
def w3f:=@List.length_eraseIdx_of_lt
def w3g:=@List.drop_eq_getElem_cons
def w3h:=@List.getElem?_eq_none_iff
def w3i:=@List.ext_getElem?
def w3j:=@Option.isSome_iff_exists
def w3k:=@Option.isSome_map
def w3l:=@Option.bind_eq_some_iff
def w3m:=@List.filter_cons_of_neg
def w3n:=@Nat.min_le_right
def w3o:=@List.length_drop
def w3p:=@List.not_mem_nil
def w3q:=@List.range_succ_eq_map
def w3r:=@List.take_of_length_le
def w3s:=@List.length_eq_one_iff
def w3t:=@List.length_set
def w3u:=@List.length_singleton
def w3v:=@List.dropLast_eq_take
def w3w:=@Nat.lt_trans
def w3x:=@Int.zero_add
def w3y:=@List.map_set
def w3z:=@List.pairwise_append
def w4a:=@Bool.and_false
def w4b:=@Array.toList_append
def w4c:=@List.replicate_zero
def w4d:=@Array.forIn_toList
def w4e:=@Bool.false_ne_true
def w4f:=@List.map_inj_right
def w4g:=@Nat.lt_or_eq_of_le
def w4h:=@Nat.lt_of_le_of_lt
def w4i:=@List.any_cons
def w4j:=@List.lookup_append
def w4k:=@Nat.ne_of_gt
def w4l:=@List.map_nil
def w4m:=@Int.sub_zero
def w4n:=@Int.pow_succ
def w4o:=@Bool.or_true
def w4p:=@Nat.pow_succ
namespace PySem.W.Fast
theorem tw1279098278585675054:True:=trivial
theorem tw12501384709467383613:True:=trivial
theorem tw10849079854924633212:True:=trivial
theorem tw8043059568249378165:True:=trivial
theorem tw12916795601885533973:True:=trivial
theorem tw4243636471044024984:True:=trivial
theorem tw9314464170497280404:True:=trivial
theorem tw16960741471442946996:True:=trivial
theorem tw129619937063797406:True:=trivial
theorem tw12046531262165205479:True:=trivial
theorem tw13290993318727380459:True:=trivial
theorem tw1201300882789516955:True:=trivial
theorem tw8842432662221820651:True:=trivial
theorem tw989056864066227112:True:=trivial
theorem tw6008172689325502145:True:=trivial
theorem tw18129372625421530201:True:=trivial
theorem tw6397781291271049946:True:=trivial
theorem tw178468422480684983:True:=trivial
theorem tw7588644912013637733:True:=trivial
theorem tw8759801969250824225:True:=trivial
theorem tw2037739805813298038:True:=trivial
theorem tw12336451899076775155:True:=trivial
theorem tw8771827090797334723:True:=trivial
theorem tw9349957563330206449:True:=trivial
theorem tw1347858135216468374:True:=trivial
theorem tw17342187909116005970:True:=trivial
theorem tw14497267969560639030:True:=trivial
theorem tw17303624829151950817:True:=trivial
theorem tw4433126348557393730:True:=trivial
theorem tw9623936970956161148:True:=trivial
theorem tw17803928598986504392:True:=trivial
theorem tw3833902620642381478:True:=trivial
theorem tw9251696903872034041:True:=trivial
theorem tw10860893848637779523:True:=trivial
theorem tw11427200360889990184:True:=trivial
theorem tw9657867043368273724:True:=trivial
theorem tw15961672413752198898:True:=trivial
theorem tw15367279708526498817:True:=trivial
theorem tw1815843411807971250:True:=trivial
theorem tw15777642726250581737:True:=trivial
theorem tw18029892016577383599:True:=trivial
theorem tw10589509378177239441:True:=trivial
theorem tw5710219415122356635:True:=trivial
theorem tw14399429553490370042:True:=trivial
theorem tw16632623531918221307:True:=trivial
theorem tw15264636272404226858:True:=trivial
theorem tw7066372235129544125:True:=trivial
theorem tw5084598295266313215:True:=trivial
theorem tw5921652007987271906:True:=trivial
theorem tw17376732084920262212:True:=trivial
theorem tw7431157708743810174:True:=trivial
theorem tw15511674075119076767:True:=trivial
theorem tw3308201440043222826:True:=trivial
theorem tw8948189397866808219:True:=trivial
theorem tw1782490815162003661:True:=trivial
theorem tw16840017806908257104:True:=trivial
theorem tw11215220209301624154:True:=trivial
theorem tw8983000036671274618:True:=trivial
theorem tw2716798654712162944:True:=trivial
theorem tw922926357079455670:True:=trivial
end PySem.W.Fast
namespace L2
open PySem PySem.Spec PyProof.Rows
variable{a b:Addr}{A:Around}{op:CmpOp}{c e tg:Expr}{fd:FuncData}{base h h':Heap}{pins:List (Addr×Obj)}{ch fp:List Addr}{es:List Expr}{N ps:List Str}{us:List Value}{i k t':Nat}{p pos:Pos}{P prog:Program}{K:PySem.W.Frag}{s:Shared}{x:Str}{mg:Str->Option Value}{u:Value}{E:Value->Shared->Prop}{f:Value->Value->Sem Value}{w:World}
set_option genInjectivity true in
inductive Kx where
 |bl (b:Bool)|int (i:Int)|str (x:Str)|tup (ks:List Kx)
inductive Sh where
 |bl|int|str|tup (ss:List Sh)|many (s:Sh)
noncomputable instance:DecidableEq Kx:=fun _ _=>Classical.propDecidable _
mutual
noncomputable def Kx.depth:Kx->Nat
 |.tup ks=>Kx.depths ks+1
 |_=>0
noncomputable def Kx.depths:List Kx->Nat
 |[]=>0
 |k::ks=>max k.depth (Kx.depths ks)
end
mutual
def Conf:Kx->Sh->Prop
 |.bl _,.bl=>True
 |.int _,.int=>True
 |.str _,.str=>True
 |.tup ks,.tup ss=>Confs ks ss
 |.tup ks,.many s=>ConfM ks s
 |_,_=>False
def Confs:List Kx->List Sh->Prop
 |[],[]=>True
 |k::ks,s::ss=>Conf k s/\Confs ks ss
 |_,_=>False
def ConfM:List Kx->Sh->Prop
 |[],_=>True
 |k::ks,s=>Conf k s/\ConfM ks s
end
mutual
def KIs(h:Heap):Kx->Value->Prop
 |.bl b,v=>v=.bool b
 |.int i,v=>∃t,v=.int i t
 |.str x,v=>∃t,v=.str x t
 |.tup ks,v=>∃a o items n,v=.ref a/\h.get? a=some o/\o.cls=.type "tuple" /\ o.data=.seq items n/\KAre h ks items.toList
def KAre(h:Heap):List Kx->List Value->Prop
 |[],vs=>vs=[]
 |k::ks,vs=>∃v r,vs=v::r/\KIs h k v/\KAre h ks r
end
mutual
theorem x3y{h:Heap}:∀(k k':Kx){v:Value},KIs h k v->KIs h k' v->k=k'
 |.bl b,k',v,x,y=>by
  cases(show v=.bool b from x);cases k' with
  |bl c=>cases(show Value.bool b=.bool c from y);rfl
  |int i=>obtain⟨t,e⟩:=y;cases e
  |str i=>obtain⟨t,e⟩:=y;cases e
  |tup ks=>obtain⟨_,_,_,_,e,_⟩:=y;cases e
 |.int b,k',v,x,y=>by
  obtain⟨t,rfl⟩:=x;cases k' with
  |bl c=>cases y
  |int i=>obtain⟨t,e⟩:=y;cases e;rfl
  |str i=>obtain⟨t,e⟩:=y;cases e
  |tup ks=>obtain⟨_,_,_,_,e,_⟩:=y;cases e
 |.str b,k',v,x,y=>by
  obtain⟨t,rfl⟩:=x;cases k' with
  |bl c=>cases y
  |int i=>obtain⟨t,e⟩:=y;cases e
  |str i=>obtain⟨t,e⟩:=y;cases e;rfl
  |tup ks=>obtain⟨_,_,_,_,e,_⟩:=y;cases e
 |.tup ks,k',v,x,y=>by
  obtain⟨a,o,it,n,rfl,h1,h2,h3,h4⟩:=x;cases k' with
  |bl c=>cases y
  |int i=>obtain⟨t,e⟩:=y;cases e
  |str i=>obtain⟨t,e⟩:=y;cases e
  |tup ks'=>
   obtain⟨a',o',it',n',e,g1,g2,g3,g4⟩:=y;cases e;rw[h1]at g1;cases g1;rw[h3]at g3;injection g3 with e1 _
   subst e1;rw[q8h ks ks' h4 g4]
theorem q8h{h:Heap}:∀(ks ks':List Kx){vs:List Value},KAre h ks vs->KAre h ks' vs->ks=ks'
 |[],ks',vs,x,y=>by
  cases(show vs=[]from x);cases ks' with
  |nil=>rfl
  |cons k ks'=>obtain⟨v,r,e,_⟩:=y;cases e
 |k::ks,ks',vs,x,y=>by
  obtain⟨v,r,rfl,h1,h2⟩:=x;cases ks' with
  |nil=>cases(show v::r=[]from y)
  |cons k' ks'=>
   obtain⟨v',r',e,g1,g2⟩:=y;cases e;rw[x3y k k' h1 g1,q8h ks ks' h2 g2]
end
mutual
theorem x0l{h h':Heap}(hk:∀a o,h.get? a=some o->o.cls=.type "tuple"->(∃it n,o.data=.seq it n)->h'.get? a=some o):∀(k:Kx){v:Value},KIs h k v->KIs h' k v
 |.bl b,v,x=>x
 |.int b,v,x=>x
 |.str b,v,x=>x
 |.tup ks,v,x=>by
  obtain⟨a,o,it,n,rfl,h1,h2,h3,h4⟩:=x;exact⟨a,o,it,n,rfl,hk a o h1 h2 ⟨it,n,h3⟩,h2,h3,q85 hk ks h4⟩
theorem q85{h h':Heap}(hk:∀a o,h.get? a=some o->o.cls=.type "tuple"->(∃it n,o.data=.seq it n)->h'.get? a=some o):∀(ks:List Kx){vs:List Value},KAre h ks vs->KAre h' ks vs
 |[],vs,x=>x
 |k::ks,vs,x=>by
  obtain⟨v,r,rfl,h1,h2⟩:=x;exact⟨v,r,rfl,x0l hk k h1,q85 hk ks h2⟩
end
theorem KAre.length:∀(ks:List Kx){vs:List Value},KAre h ks vs->vs.length=ks.length
 |[],vs,x=>by cases(show vs=[]from x);rfl
 |k::ks,vs,x=>by
  obtain⟨v,r,rfl,h1,h2⟩:=x;rw[w1l,w1l,KAre.length ks h2]
mutual
noncomputable def kHash(w:World):Kx->Int
 |.bl b=>reduceHash (if b=true then 1 else 0)
 |.int i=>hashInt i
 |.str x=>hashStr w x
 |.tup ks=>reduceHash (Builtin.Tuple.tupleHashOf (kHashes w ks))
noncomputable def kHashes(w:World):List Kx->List Int
 |[]=>[]
 |k::ks=>kHash w k::kHashes w ks
end
mutual
noncomputable def kDraws:Kx->Nat
 |.tup ks=>kDrawss ks+1
 |_=>1
noncomputable def kDrawss:List Kx->Nat
 |[]=>0
 |k::ks=>kDraws k+kDrawss ks
end
mutual
theorem x3z:∀(k:Kx)(v:Value)(A:Around)(s:Shared)(Q:Int->Shared->Prop),KIs s.heap k v->A.units+k.depth<cLine->Q (kHash w k) {s with toks:=s.toks+kDraws k}->wpAny (model prog w) A (pyHash v) Q E s
 |.bl b,v,A,s,Q,x,hu,h=>by
  cases(show v=.bool b from x);refine PySem.W.pyHash_slot (T:="bool") rfl F.slot_bool_hash entry_int_hash (args_int_hash _) (beq_builtin_none _) (.inr (by omega)) ?_;cases b
  ·exact(show wpAny _ _ (do ret (<- mkInt 0)) _ _ s from wpAny_bind (wpAny_mkInt (wpAny_pure ⟨_,_,rfl,h⟩)))
  ·exact(show wpAny _ _ (do ret (<- mkInt 1)) _ _ s from wpAny_bind (wpAny_mkInt (wpAny_pure ⟨_,_,rfl,h⟩)))
 |.int i,v,A,s,Q,x,hu,h=>by
  obtain⟨t,rfl⟩:=x;exact wpAny_pyHash_int h
 |.str i,v,A,s,Q,x,hu,h=>by
  obtain⟨t,rfl⟩:=x;exact wpAny_pyHash_str h
 |.tup ks,v,A,s,Q,x,hu,h=>by
  obtain⟨a,o,it,n,rfl,h1,h2,h3,h4⟩:=x;refine PySem.W.pyHash_slot (T:="tuple") ⟨_,h1,h2⟩ F.slot_tuple_hash F.entry_tuple_hash (F.args_tuple_hash_1 _) (beq_builtin_none _) (.inr (by omega)) ?_;show wpAny _ _ (Builtin.Tuple.tupleItemsOf (.ref a) >>= _) _ _ s;refine wpAny_bind (wpAny_tupleItemsOf h1 h3 ?_);refine wpAny_bind ?_;rw[<- w4d];refine x0m ks it.toList A.in1 s #[] _ h4 (by simp only[Kx.depth,Around.in1_units]at hu |-;omega) fun b hb=>?_
  show wpAny _ _ (retInt (Builtin.Tuple.tupleHashOf b.toList)) _ _ _;rw[hb];exact wpAny_bind (wpAny_mkInt (wpAny_pure ⟨_,_,rfl,by simpa [kHash,kDraws,Nat.add_assoc]using h⟩))
theorem x0m:∀(ks:List Kx)(vs:List Value)(A:Around)(s:Shared)(b:Array Int)(Q:Array Int->Shared->Prop),KAre s.heap ks vs->A.units+Kx.depths ks<cLine ->
  (∀b',b'.toList=b.toList++kHashes w ks->Q b' {s with toks:=s.toks+kDrawss ks}) ->
  wpAny (model prog w) A (forIn vs b fun x r=>do let h <- pyHash x;pure PUnit.unit;pure (ForInStep.yield (r.push h))) Q E s
 |[],vs,A,s,b,Q,x,hu,h=>by
  cases(show vs=[]from x);exact wpAny_pure (h b (by simp[kHashes]))
 |k::ks,vs,A,s,b,Q,x,hu,h=>by
  obtain⟨v,r,rfl,h1,h2⟩:=x;simp only[Kx.depths]at hu;rw[w2q];refine wpAny_bind (wpAny_bind (x3z k v A s _ h1 (by omega) ?_));refine wpAny_bind (wpAny_pure (wpAny_pure ?_))
  exact x0m ks r A _ _ Q h2 (by omega) fun b' hb=>by
   have:=h b' (by simp[hb,kHashes])
   simpa [kDrawss,Nat.add_assoc]using this
end
theorem y2a(a b:Bool):decide (Kx.bl a=Kx.bl b)=(a==b):=by
 by_cases e:a=b
 ·subst e;simp
 ·rw[decide_eq_false (fun z=>e (by injection z))];exact(beq_eq_false_iff_ne.mpr e).symm
theorem x8z(a b:Int):decide (Kx.int a=Kx.int b)=(a==b):=by
 by_cases e:a=b
 ·subst e;simp
 ·rw[decide_eq_false (fun z=>e (by injection z))];exact(beq_eq_false_iff_ne.mpr e).symm
theorem x80(a b:Str):decide (Kx.str a=Kx.str b)=(a==b):=by
 by_cases e:a=b
 ·subst e;simp
 ·rw[decide_eq_false (fun z=>e (by injection z))];exact(beq_eq_false_iff_ne.mpr e).symm
noncomputable def sameAt(ks ks':List Kx)(j:Nat):Bool:=decide (ks[j]?=ks'[j]?)
theorem x81:∀ks ks':List Kx,((List.range (min ks.length ks'.length)).all (sameAt ks ks')&&ks.length==ks'.length)=decide (Kx.tup ks=Kx.tup ks'):=by
 intro ks ks'
 by_cases e:ks=ks'
 ·subst e;rw[decide_eq_true rfl];simp[sameAt]
 ·rw[decide_eq_false (fun z=>e (by injection z))]
  rw[Bool.and_eq_false_iff]
  by_cases hl:ks.length=ks'.length
  ·left
   rw[w1s];intro ha;refine e (w3i fun j=>?_)
   by_cases hj:j<ks.length
   ·have:=w1e.mp ha j (w1m.mpr (by omega));exact of_decide_eq_true this
   ·rw[w1o (by omega),w1o (by omega)]
  ·right
   simpa using hl
theorem q6u:∀(ks:List Kx){vs:List Value},KAre h ks vs->∀(j:Nat)(v:Value),vs[j]?=some v->∃k,ks[j]?=some k/\KIs h k v
 |[],vs,x,j,v,e=>by cases(show vs=[]from x);simp at e
 |k::ks,vs,x,j,v,e=>by
  obtain⟨u,r,rfl,h1,h2⟩:=x;cases j with
  |zero=>cases e;exact⟨k,rfl,h1⟩
  |succ j=>exact q6u ks h2 j v (by simpa using e)
theorem q7a:∀(ks:List Kx)(j:Nat)(k:Kx),ks[j]?=some k->k.depth<=Kx.depths ks
 |[],j,k,e=>by simp at e
 |x::ks,j,k,e=>by
  simp only[Kx.depths];cases j with
  |zero=>cases e;omega
  |succ j=>have:=q7a ks j k (by simpa using e);omega
theorem q7b:∀(ks:List Kx)(ss:List Sh),Confs ks ss->∀(j:Nat)(k:Kx),ks[j]?=some k->∃s,ss[j]?=some s/\Conf k s
 |[],ss,_,j,k,e=>by simp at e
 |x::ks,[],c,j,k,e=>c.elim
 |x::ks,s::ss,c,j,k,e=>by
  cases j with
  |zero=>cases e;exact⟨s,rfl,c.1⟩
  |succ j=>exact q7b ks ss c.2 j k (by simpa using e)
theorem q7c:∀(ks:List Kx)(s:Sh),ConfM ks s->∀(j:Nat)(k:Kx),ks[j]?=some k->Conf k s
 |[],s,_,j,k,e=>by simp at e
 |x::ks,s,c,j,k,e=>by
  cases j with
  |zero=>cases e;exact c.1
  |succ j=>exact q7c ks s c.2 j k (by simpa using e)
theorem y8q(s:Shared):∀(n:Nat)(k k':Kx)(sh:Sh)(v v':Value)(A:Around),k.depth<=n->Conf k sh->Conf k' sh->KIs s.heap k v->KIs s.heap k' v'->A.units+n<cLine->SeqAt.EqAt A s v v' (decide (k=k')):=by
 intro n
 induction n with
 |zero=>
  intro k k' sh v v' A hd c c' x y hu;cases k with
  |bl a=>
   cases sh with
   |bl=>
    cases k' with
    |bl b=>cases(show v=.bool a from x);cases(show v'=.bool b from y);rw[y2a];exact .bool_bool a b
    |_=>exact c'.elim
   |_=>exact c.elim
  |int a=>
   cases sh with
   |int=>
    cases k' with
    |int b=>obtain⟨t,rfl⟩:=x;obtain⟨u,rfl⟩:=y;rw[x8z];exact .int_int a t b u
    |_=>exact c'.elim
   |_=>exact c.elim
  |str a=>
   cases sh with
   |str=>
    cases k' with
    |str b=>obtain⟨t,rfl⟩:=x;obtain⟨u,rfl⟩:=y;rw[x80];exact .str_str a t b u
    |_=>exact c'.elim
   |_=>exact c.elim
  |tup ks=>simp only[Kx.depth]at hd;omega
 |succ n ih=>
  intro k k' sh v v' A hd c c' x y hu;cases k with
  |bl a=>exact ih (.bl a) k' sh v v' A (w1f _) c c' x y (by omega)
  |int a=>exact ih (.int a) k' sh v v' A (w1f _) c c' x y (by omega)
  |str a=>exact ih (.str a) k' sh v v' A (w1f _) c c' x y (by omega)
  |tup ks=>
   obtain⟨a,o,it,m,rfl,h1,h2,h3,h4⟩:=x
   have tail:∀ks',k'=.tup ks'->(∀(j:Nat)(u u':Kx),ks[j]?=some u->ks'[j]?=some u'->∃s,Conf u s/\Conf u' s)->SeqAt.EqAt A s (.ref a) v' (decide (Kx.tup ks=k')):=by
    rintro ks' rfl hc;obtain⟨b,o',it',m',rfl,g1,g2,g3,g4⟩:=y
    by_cases hab:a=b
    ·subst hab;rw[h1]at g1;cases g1;rw[h3]at g3;injection g3 with e1 _
     subst e1;rw[q8h ks ks' h4 g4,decide_eq_true rfl];exact .same _
    ·have l1:=KAre.length ks h4;have l2:=KAre.length ks' g4;rw[<- x81]
     have:=SeqAt.RcAt.tuples (A:=A) (s:=s) (e:=sameAt ks ks') (show s.heap.IsTuple a it from⟨o,h1,h2,m,h3⟩) (show s.heap.IsTuple b it' from⟨o',g1,g2,m',g3⟩) (by omega) (fun j j1 j2=>by
      obtain⟨u,u1,u2⟩:=q6u ks h4 j it[j] (by simp[j1]);obtain⟨u',u1',u2'⟩:=q6u ks' g4 j it'[j] (by simp[j2]);obtain⟨sh',c1,c2⟩:=hc j u u' u1 u1';have hdj:=q7a ks j u u1;simp only[Kx.depth]at hd;have z:=ih u u' sh' _ _ A.in1 (by omega) c1 c2 u2 u2' (by rw[Around.in1_units];omega)
      have e:sameAt ks ks' j=decide (u=u'):=by
       unfold sameAt;rw[u1,u1']
       by_cases q:u=u'
       ·rw[q];simp
       ·rw[decide_eq_false q,decide_eq_false (fun z=>q (Option.some.inj z))]
      rw[e];exact z)
     rw[show it.size=ks.length by simpa using l1,show it'.size=ks'.length by simpa using l2]at this;exact .of_refs hab this
   cases sh with
   |tup ss=>
    cases k' with
    |tup ks'=>
     refine tail ks' rfl fun j u u' e1 e2=>?_
     obtain⟨s1,q1,q2⟩:=q7b ks ss c j u e1;obtain⟨s2,q3,q4⟩:=q7b ks' ss c' j u' e2;rw[q1]at q3;cases q3;exact⟨s1,q2,q4⟩
    |_=>exact c'.elim
   |many s1=>
    cases k' with
    |tup ks'=>exact tail ks' rfl fun j u u' e1 e2=>⟨s1,q7c ks s1 c j u e1,q7c ks' s1 c' j u' e2⟩
    |_=>exact c'.elim
   |_=>exact c.elim
theorem x82:∀(n:Nat)(k:Kx)(v:Value)(s:Shared)(Q:Bool->Shared->Prop),k.depth<=n->KIs s.heap k v->Q true s->wpAny (model prog w) A (eqIsQuiet n v) Q E s:=by
 intro n
 induction n with
 |zero=>
  intro k v s Q hd x h;cases k with
  |bl b=>cases(show v=.bool b from x);rw[eqIsQuiet_byValue _ rfl];exact wpAny_pure h
  |int i=>obtain⟨t,rfl⟩:=x;rw[eqIsQuiet_byValue _ rfl];exact wpAny_pure h
  |str i=>obtain⟨t,rfl⟩:=x;rw[eqIsQuiet_byValue _ rfl];exact wpAny_pure h
  |tup ks=>simp only[Kx.depth]at hd;omega
 |succ n ih=>
  intro k v s Q hd x h;cases k with
  |bl b=>cases(show v=.bool b from x);rw[eqIsQuiet_byValue _ rfl];exact wpAny_pure h
  |int i=>obtain⟨t,rfl⟩:=x;rw[eqIsQuiet_byValue _ rfl];exact wpAny_pure h
  |str i=>obtain⟨t,rfl⟩:=x;rw[eqIsQuiet_byValue _ rfl];exact wpAny_pure h
  |tup ks=>
   obtain⟨a,o,it,m,rfl,h1,h2,h3,h4⟩:=x;have hT:s.TypeIs (.ref a) "tuple":=⟨o,h1,h2⟩;unfold eqIsQuiet;refine wpAny_bind (wpAny_specialOf hT F.slot_tuple_eq.lookup ?_);show wpAny _ _ (isInstance (.ref a) (.type "tuple") >>= _) _ _ s;refine wpAny_bind (wpAny_isInstance hT isSubtype_tuple_tuple ?_);simp only[Bool.not_true,w2a,if_false];refine wpAny_bind (wpAny_seqItems h1 h3 ?_);refine wpAny_bind ?_;show wpAny _ _ (forIn it _ _) _ _ s;rw[<- w4d];refine wpAny_forIn_list _ (fun rest r s'=>r.1=none/\s'=s/\∀v∈rest,∃k:Kx,k.depth<=n/\KIs s.heap k v) _ ?_ ?_ _ _ ⟨rfl,rfl,fun v hv=>?_⟩
   ·rintro v rest r s' ⟨hr,rfl,hall⟩;obtain⟨k,k1,k2⟩:=hall v w1j;refine wpAny_bind (ih k v _ _ k1 k2 ?_);simp only[Bool.not_true,w2a,if_false];exact wpAny_pure ⟨rfl,rfl,fun u hu'=>hall u (w0z _ hu')⟩
   ·rintro⟨r1,r2⟩ s' ⟨hr,rfl,_⟩;simp only at hr;subst hr;exact wpAny_pure h
   ·obtain⟨j,hj,e⟩:=w2h.mp hv;obtain⟨k,k1,k2⟩:=q6u ks h4 j v (by rw[w0d hj,e]);have:=q7a ks j k k1;simp only[Kx.depth]at hd;exact⟨k,by omega,k2⟩
noncomputable def treeKind(prog:Program)(w:World)(sh:Sh):HeapKind prog w Kx where
 is:=fun h k a=>KIs h k (.ref a)/\Conf k sh/\k.depth<=7
 hash:=kHash w
 draws:=kDraws
 room:=fun A=>A.units+8<cLine
 inj:=fun hx hy=>x3y _ _ hx.1 hy.1
 keeps:=fun {h h' k a d o es ep} x ho hd hs=>⟨x0l (fun b ob e1 e2 e3=>by
  have hne:b≠d:=by
   rintro rfl;rw[ho]at e1;cases e1;obtain⟨it,n,e⟩:=e3;rw[hd]at e;cases e
  exact(hs.2 b hne).trans e1) _ x.1,x.2⟩
 pyHash:=fun {A E s k a Q} hu hk h=>x3z k _ A s Q hk.1 (by have:=hk.2.2;omega) h
 eqBool:=fun {A E s x y a b Q} hu hx hy h=>y8q s 7 x y sh _ _ A hx.2.2 hx.2.1 hy.2.1 hx.1 hy.1 (by omega) prog w E Q h
 quiet:=fun {A E s k a Q} hk h=>x82 8 k _ s Q (by have:=hk.2.2;omega) hk.1 h
set_option Elab.async false
set_option linter.all false
set_option maxRecDepth 100000
noncomputable abbrev Key:=Sum Int Str
noncomputable def keyIs:Key->Value->Bool
 |.inl k,v=>Value.isInt k v
 |.inr x,v=>Value.isStrOf x v
noncomputable def keyH(w:World):Key->Int
 |.inl k=>hashInt k
 |.inr x=>hashStr w x
theorem q1w:∀{k:Key}{v:Value},keyIs k v=true->(∃i t,k=Sum.inl i/\v=Value.int i t)\/(∃x t,k=Sum.inr x/\v=Value.str x t)
 |.inl i,v,h=>by
  obtain⟨t,e⟩:=Value.isInt_shape (k:=i) (v:=v) h;exact .inl ⟨i,t,rfl,e⟩
 |.inr x,v,h=>by
  obtain⟨t,e⟩:=Value.isStrOf_shape (x:=x) (v:=v) h;exact .inr ⟨x,t,rfl,e⟩
theorem x57(i:Int)(t:Tok):keyIs (.inl i) (.int i t)=true:=by simp[keyIs,Value.isInt]
theorem x58(x:Str)(t:Tok):keyIs (.inr x) (.str x t)=true:=by simp[keyIs,Value.isStrOf]
theorem y5g(a b:Int):decide ((Sum.inl a:Key)=Sum.inl b)=(a==b):=by
 by_cases e:a=b
 ·subst e;simp
 ·have h:¬(Sum.inl a:Key)=Sum.inl b:=fun q=>e (Sum.inl.inj q)
  rw[decide_eq_false h];exact(beq_eq_false_iff_ne.mpr e).symm
theorem y5h(a b:Str):decide ((Sum.inr a:Key)=Sum.inr b)=decide (a=b):=by
 by_cases e:a=b
 ·subst e;simp
 ·have h:¬(Sum.inr a:Key)=Sum.inr b:=fun q=>e (Sum.inr.inj q)
  rw[decide_eq_false h,decide_eq_false e]
theorem y5i(a:Int)(b:Str):decide ((Sum.inl a:Key)=Sum.inr b)=false:=decide_eq_false (fun q=>nomatch q)
theorem y5j(a:Str)(b:Int):decide ((Sum.inr a:Key)=Sum.inl b)=false:=decide_eq_false (fun q=>nomatch q)
noncomputable def mixKind(prog:Program)(w:World):PySem.KeyKind prog w Key where
 is:=keyIs
 hash:=keyH w
 inj:=fun v a b ha hb=>by
  rcases q1w ha with⟨i,t,rfl,rfl⟩|⟨x,t,rfl,rfl⟩
  ·rcases q1w hb with⟨j,u,rfl,e⟩|⟨y,u,rfl,e⟩
   ·injection e with e1 _;rw[e1]
   ·exact nomatch e
  ·rcases q1w hb with⟨j,u,rfl,e⟩|⟨y,u,rfl,e⟩
   ·exact nomatch e
   ·injection e with e1 _;rw[e1]
 byValue:=fun k v h=>by
  rcases q1w h with⟨i,t,rfl,rfl⟩|⟨x,t,rfl,rfl⟩<;>rfl
 pyHash:=fun hv h=>by
  rcases q1w hv with⟨i,t,rfl,rfl⟩|⟨x,t,rfl,rfl⟩
  ·exact wpAny_pyHash_int h
  ·exact wpAny_pyHash_str h
 eqBool:=fun hu hv h=>by
  rcases q1w hu with⟨i,t,rfl,rfl⟩|⟨x,t,rfl,rfl⟩
  ·rcases q1w hv with⟨j,u,rfl,rfl⟩|⟨y,u,rfl,rfl⟩
   ·rw[y5g]at h;exact wpAny_eqBool_int h
   ·rw[y5i]at h;exact SeqAt.EqAt.int_str i t y u _ _ _ _ h
  ·rcases q1w hv with⟨j,u,rfl,rfl⟩|⟨y,u,rfl,rfl⟩
   ·rw[y5j]at h;exact SeqAt.EqAt.str_int x t j u _ _ _ _ h
   ·rw[y5h]at h;exact wpAny_eqBool_str h
 «strs»:=fun k x t v h=>by
  rcases q1w h with⟨i,u,rfl,e⟩|⟨y,u,rfl,e⟩
  ·exact nomatch e
  ·injection e with e1 _
   subst e1;cases v<;>rfl
theorem x3g(prog:Program)(w:World)(i:Int)(t:Tok):(mixKind prog w).is (.inl i) (.int i t)=true:=x57 i t
theorem x3h(prog:Program)(w:World)(x:Str)(t:Tok):(mixKind prog w).is (.inr x) (.str x t)=true:=x58 x t
set_option genInjectivity true in
inductive V where
 |non|bl (b:Bool)|int (i:Int)|str (x:Str)|byt (b:Array UInt8)|flt (b:UInt64)|ref (a:Addr)|ty (n:String)
 deriving DecidableEq
variable{xs:List V}{v:V}
def RelV:V->Value->Prop
 |.non,u=>u=Value.none
 |.bl b,u=>u=Value.bool b
 |.int i,u=>∃t,u=Value.int i t
 |.str x,u=>∃t,u=Value.str x t
 |.byt b,u=>∃t,u=Value.bytes b t
 |.flt b,u=>∃t,u=Value.float b t
 |.ref a,u=>u=Value.ref a
 |.ty n,u=>u=Value.type n
abbrev Vals:List V->List Value->Prop:=Paired RelV
theorem Vals.length(r:Vals xs us):xs.length=us.length:=Paired.length r
theorem Vals.get:∀{xs:List V}{us:List Value}{i:Nat}{x:V},Vals xs us->xs[i]?=some x->∃u,us[i]?=some u/\RelV x u
 |_,_,_,_,.nil,e=>by simp at e
 |_,_,0,_,.cons r _,e=>by simp at e;subst e;exact⟨_,rfl,r⟩
 |_,_,i+1,x,.cons _ t,e=>by
  obtain⟨u,h1,h2⟩:=Vals.get (i:=i) (x:=x) t (by simpa using e);exact⟨u,by simpa using h1,h2⟩
theorem Vals.set{x:V}(r:RelV x u):∀{xs:List V}{us:List Value}(i:Nat),Vals xs us->Vals (xs.set i x) (us.set i u)
 |_,_,_,.nil=>.nil
 |_,_,0,.cons _ t=>.cons r t
 |_,_,i+1,.cons q t=>.cons q (Vals.set r i t)
theorem Vals.append:∀{xs ys:List V}{us ws:List Value},Vals xs us->Vals ys ws->Vals (xs++ys) (us++ws)
 |_,_,_,_,.nil,s=>s
 |_,_,_,_,.cons r t,s=>.cons r (Vals.append t s)
theorem Vals.take:∀{xs:List V}{us:List Value}(n:Nat),Vals xs us->Vals (xs.take n) (us.take n)
 |_,_,0,_=>.nil
 |_,_,_+1,.nil=>.nil
 |_,_,n+1,.cons r t=>.cons r (Vals.take n t)
theorem Vals.drop:∀{xs:List V}{us:List Value}(n:Nat),Vals xs us->Vals (xs.drop n) (us.drop n)
 |_,_,0,r=>r
 |_,_,_+1,.nil=>.nil
 |_,_,n+1,.cons _ t=>Vals.drop n t
def RelO:Option V->Option Value->Prop
 |some v,some u=>RelV v u
 |none,none=>True
 |_,_=>False
def KV{κ:Type}:List (κ×V)->List (κ×Value)->Prop:=Paired fun(p:κ×V) (q:κ×Value)=>p.1=q.1/\RelV p.2 q.2
noncomputable def kV:Key->V
 |.inl i=>.int i
 |.inr x=>.str x
inductive HO where
 /-- a list -/
 |lst (xs:List V)
 /-- a tuple (never changes) -/
 |tup (xs:List V)
 /-- a dict whose keys are ints and texts;one whose keys are tuples of ints and texts (the empty one is both) -/
 |dK (kvs:List (Key×V))|dT (sh:Sh) (kvs:List (Kx×V)) (kas:List Addr)
 /-- a set of ints: its members,its size -/
 |set (S:Int->Bool) (n:Nat)
 /-- an instance of the class at C,its dict at dx,its attributes -/
 |ins (C dx:Addr) (fs:List (Str×V))
 /-- the dict of the instance at x -/
 |own (x:Addr)
 /-- the dict of an exception -/
 |xd (fs:List (Str×V))
 /-- a bound method,f of x -/
 |met (f x:Addr)
 /-- a range object lo,lo+1,.. below hi -/
 |rng (lo hi:Int)
 /-- a thing that is known to the object (the script;a dict while a loop walks it): read,never written while it is so -/
 |frz (o:Obj) (u:HO)
 /-- a code object's table -/
 |tbl (ps:Array Value)
 /-- any other thing,by what is true of its one object (a def of one's own: SetO a S n:=HO.ext fun h=>..) -/
 |ext (φ:Heap->Prop)
noncomputable abbrev Hp:=Addr->Option HO
variable{H H':Hp}
def TupLike:HO->Prop
 |.tup _=>True
 |.frz _ (.tup _)=>True
 |.frz _ (.own _)=>True
 |_=>False
mutual
def KRep(H:Hp):Kx->V->Prop
 |.bl b,v=>v=.bl b
 |.int i,v=>v=.int i
 |.str x,v=>v=.str x
 |.tup ks,v=>∃a xs,v=.ref a/\(H a=some (.tup xs)\/∃o,H a=some (.frz o (.tup xs)))/\KReps H ks xs
def KReps(H:Hp):List Kx->List V->Prop
 |[],vs=>vs=[]
 |k::ks,vs=>∃v r,vs=v::r/\KRep H k v/\KReps H ks r
end
mutual
theorem KRep.keeps{H H':Hp}(ht:∀b u,TupLike u->H b=some u->H' b=some u):∀(k:Kx){v:V},KRep H k v->KRep H' k v
 |.bl _,_,x=>x
 |.int _,_,x=>x
 |.str _,_,x=>x
 |.tup ks,_,x=>by
  obtain⟨a,xs,e,q,r⟩:=x;refine⟨a,xs,e,?_,KReps.keeps ht ks r⟩;rcases q with q|⟨o,q⟩
  ·exact .inl (ht _ _ True.intro q)
  ·exact .inr ⟨o,ht _ _ True.intro q⟩
theorem KReps.keeps{H H':Hp}(ht:∀b u,TupLike u->H b=some u->H' b=some u):∀(ks:List Kx){vs:List V},KReps H ks vs->KReps H' ks vs
 |[],_,x=>x
 |k::ks,_,x=>by
  obtain⟨v,r,e,h1,h2⟩:=x;exact⟨v,r,e,KRep.keeps ht k h1,KReps.keeps ht ks h2⟩
end
noncomputable def upd(H:Hp)(a:Addr)(o:HO):Hp:=fun b=>if b=a then some o else H b
theorem q0h{o:HO}:upd H a o a=some o:=by unfold upd;rw[if_pos rfl]
theorem q0e{o:HO}(h:b≠a):upd H a o b=H b:=by unfold upd;rw[if_neg h]
theorem q03{o u:HO}(h:H a=some o)(h':H b=some u)(d:o≠u):a≠b:=by
 intro e;subst e;rw[h]at h';exact d (Option.some.inj h')
theorem q0q{o:HO}(h:H a=some o)(h':H b=none):a≠b:=by
 intro e;subst e;rw[h]at h';cases h'
section
variable(P:Program)(w:World)
def BareT(h:Heap)(a:Addr):Prop:=∃o,h.get? a=some o/\o.dict=none
def ObjOk(H:Hp)(h:Heap)(a:Addr):HO->Prop
 |.lst xs=>xs.length<=sizeLine/\∃(its:List Value)(n:Nat),Vals xs its/\h.get? a=some {cls:=.type "list", data:=.seq its.toArray n}
 |.tup xs=>xs.length<=sizeLine/\∃its:List Value,Vals xs its/\IsTup h a its.toArray/\BareT h a
 |.dK kvs=>kvs.length<=sizeLine/\(a==sysModules)=false/\∃vs,KV kvs vs/\h.DictOf (mixKind P w) a vs
 |.dT sh kvs kas=>kvs.length<=sizeLine/\(a==sysModules)=false/\∃xs:List (Kx×Addr×Value),
   Paired (fun(p:Kx×V) (q:Kx×Addr×Value)=>p.1=q.1/\(KRep H p.1 (.ref q.2.1)/\Conf p.1 sh/\p.1.depth<=7)/\RelV p.2 q.2.2) kvs xs/\xs.map (·.2.1)=kas /\
   ∃o es ep,h.get? a=some o/\o.ExactDict/\o.data=.dict es ep/\es.toList=xs.map (entryOfKey (treeKind P w sh))/\(xs.map (·.1)).Nodup
 |.set S n=>h.SetOf (intKind P w) a S n
 |.ins C dx fs=>H dx=some (.own a)/\fs.length<=1000/\dx≠a/\h.get? a=some (PySem.W.instObj C dx) /\
   ∃mA,h.Ns1 dx mA/\(∀f,RelO (fs.lookup f) (mA f))/\PySem.Within mA (fs.map (·.1))
 |.own _=>∃o,h.get? a=some o
 |.xd fs=>∃mA,h.Ns1 a mA/\∀f,RelO (fs.lookup f) (mA f)
 |.rng lo hi=>∃t u v,h.get? a=some {cls:=.type "range", data:=.fields #[.int lo t,.int hi u,.int 1 v]}
 |.frz o u=>h.get? a=some o/\ObjOk H h a u
 |.tbl ps=>(∃(q:Str)(qs:Array Value),ps[0]?=some (.bool true)/\ps[1]?=some (.str q 0)/\h.get? a=some {cls:=.none,data:=.fields qs}/\TriplesOk qs.toList/\∀(pos:Pos)(cv:Value),codeAmong pos qs.toList=some cv ->
   ∃(c:Addr)(oc:Obj)(vs:Array Value)(t:Tok),cv=.ref c/\H c=some (.frz oc (.own 0))/\oc.data=.fields vs/\vs[1]?=some (.str q t)) \/
   ∃(q:Str)(c:Addr)(oc ob:Obj)(vs:Array Value)(t:Tok),ps[0]?=some (.bool false)/\ps[1]?=some (.str q 0)/\ps[2]?=some (.ref c)/\H c=some (.frz oc (.own 0))/\oc.data=.fields vs/\vs[1]?=some (.str q t)/\h.get? a=some ob
 |.met f x=>h.get? a=some (methodObj (.ref f) (.ref x))
 |.ext φ=>φ h/\(∃o,h.get? a=some o)/\∀h1 h2:Heap,φ h1->(∀o,h1.get? a=some o->h2.get? a=some o)->φ h2
def HOk(H:Hp)(h:Heap):Prop:=∀a o,H a=some o->ObjOk P w H h a o
end
section
variable{o:HO}
theorem ObjOk.lt(x:ObjOk P w H h a o):a<h.objs.size:=by
 cases o with
 |lst xs=>obtain⟨_,_,_,_,e⟩:=x;exact Heap.lt_size e
 |tup xs=>obtain⟨_,_,_,p,_⟩:=x;exact p.lt
 |dK kvs=>obtain⟨_,_,_,_,o,_,_,e,_⟩:=x;exact Heap.lt_size e
 |dT sh kvs kas=>obtain⟨_,_,_,_,_,o,_,_,e,_⟩:=x;exact Heap.lt_size e
 |set S n=>obtain⟨o,_,_,_,e,_⟩:=x;exact Heap.lt_size e
 |ins C dx fs=>obtain⟨_,_,_,e,_⟩:=x;exact Heap.lt_size e
 |own y=>obtain⟨_,e⟩:=x;exact Heap.lt_size e
 |xd fs=>obtain⟨_,⟨_,_,_,e,_⟩,_⟩:=x;exact Heap.lt_size e
 |rng lo hi=>obtain⟨_,_,_,e⟩:=x;exact Heap.lt_size e
 |frz ob u=>obtain⟨e,_⟩:=x;exact Heap.lt_size e
 |tbl ps=>rcases x with⟨_,_,_,_,e,_⟩|⟨_,_,_,_,_,_,_,_,_,_,_,_,e⟩<;>exact Heap.lt_size e
 |met f y=>exact Heap.lt_size (show h.get? a=some _ from x)
 |ext φ=>obtain⟨_,⟨_,e⟩,_⟩:=x;exact Heap.lt_size e
theorem Paired.mapP{α β:Type}{F G:α->β->Prop}:∀{l₁:List α}{l₂:List β},Paired F l₁ l₂->(∀a b,F a b->G a b)->Paired G l₁ l₂
 |_,_,.nil,_=>.nil
 |_,_,.cons r t,f=>.cons (f _ _ r) (Paired.mapP t f)
theorem ObjOk.stay(x:ObjOk P w H h a o)(k:∀b u,(b=a\/H b=some (.own a))->h.get? b=some u->h'.get? b=some u)
  (ho:∀b,H b=some (.own a)->H' b=some (.own a))(ht:∀b u,TupLike u->H b=some u->H' b=some u):ObjOk P w H' h' a o:=by
 induction o with
 |lst xs=>obtain⟨z,its,n,r,e⟩:=x;exact⟨z,its,n,r,k _ _ (.inl rfl) e⟩
 |tup xs=>obtain⟨z,its,r,⟨ob,e,c⟩,⟨o2,e2,c2⟩⟩:=x;exact⟨z,its,r,⟨ob,k _ _ (.inl rfl) e,c⟩,⟨o2,k _ _ (.inl rfl) e2,c2⟩⟩
 |dK kvs=>obtain⟨z,y,vs,r,ob,es,ep,e,c⟩:=x;exact⟨z,y,vs,r,ob,es,ep,k _ _ (.inl rfl) e,c⟩
 |dT sh kvs kas=>
  obtain⟨z,y,xs,r,ka,ob,es,ep,e,c⟩:=x;exact⟨z,y,xs,Paired.mapP r fun p q z=>⟨z.1,⟨KRep.keeps ht _ z.2.1.1,z.2.1.2⟩,z.2.2⟩,ka,ob,es,ep,k _ _ (.inl rfl) e,c⟩
 |set S n=>obtain⟨ob,es,ep,t,e,c⟩:=x;exact⟨ob,es,ep,t,k _ _ (.inl rfl) e,c⟩
 |ins C dx fs=>
  obtain⟨d,z,ne,e,mA,⟨od,es,ep,e2,c⟩,r⟩:=x;exact⟨ho _ d,z,ne,k _ _ (.inl rfl) e,mA,⟨od,es,ep,k _ _ (.inr d) e2,c⟩,r⟩
 |own y=>obtain⟨ob,e⟩:=x;exact⟨ob,k _ _ (.inl rfl) e⟩
 |xd fs=>obtain⟨mA,⟨od,es,ep,e,c⟩,r⟩:=x;exact⟨mA,⟨od,es,ep,k _ _ (.inl rfl) e,c⟩,r⟩
 |rng lo hi=>obtain⟨t,u,v,e⟩:=x;exact⟨t,u,v,k _ _ (.inl rfl) e⟩
 |frz ob u ih=>obtain⟨e,q⟩:=x;exact⟨k _ _ (.inl rfl) e,ih q⟩
 |tbl ps=>
  rcases x with⟨q,qs,p0,p1,e,tr,cd⟩|⟨q,c,oc,ob,vs,t,p0,p1,p2,h3,h4,h5,e⟩
  ·refine .inl ⟨q,qs,p0,p1,k _ _ (.inl rfl) e,tr,fun pos cv z=>?_⟩
   obtain⟨c,oc,vs,t,h1,h3,h4,h5⟩:=cd pos cv z;exact⟨c,oc,vs,t,h1,ht _ _ True.intro h3,h4,h5⟩
  ·exact .inr ⟨q,c,oc,ob,vs,t,p0,p1,p2,ht _ _ True.intro h3,h4,h5,k _ _ (.inl rfl) e⟩
 |met f y=>
  have e:h.get? a=some (methodObj (.ref f) (.ref y)):=x;show h'.get? a=some (methodObj (.ref f) (.ref y));exact k a _ (.inl rfl) e
 |ext φ=>obtain⟨p,⟨o,e⟩,st⟩:=x;exact⟨st _ _ p fun o q=>k _ _ (.inl rfl) q,⟨o,k _ _ (.inl rfl) e⟩,st⟩
theorem HOk.lt(x:HOk P w H h)(e:H a=some o):a<h.objs.size:=(x a o e).lt
theorem HOk.fresh(x:HOk P w H h)(e:h.objs.size<=a):H a=none:=by
 cases q:H a with
 |none=>rfl
 |some u=>exact absurd (w0k (x.lt q) e) (w1v _)
theorem HOk.kept(x:HOk P w H h)(k:∀b u,h.get? b=some u->h'.get? b=some u):HOk P w H h':=fun a o e=>
 (x a o e).stay (fun b u _ q=>k b u q) (fun _ q=>q) fun _ _ _ q=>q
theorem HOk.laid(x:HOk P w H h)(k:∀b u,h.get? b=some u->h'.get? b=some u)(hp:h.objs.size<=a)(new:ObjOk P w (upd H a o) h' a o):HOk P w (upd H a o) h':=fun b u e=>by
 have hn:=x.fresh hp
 by_cases hb:b=a
 ·subst hb;rw[q0h]at e;cases e;exact new
 ·rw[q0e hb]at e;exact(x b u e).stay (fun c v _ q=>k c v q) (fun c q=>by rw[q0e (q0q q hn)];exact q) fun c xs _ q=>by rw[q0e (q0q q hn)];exact q
end
def Rd(H:Hp)(a:Addr)(u:HO):Prop:=H a=some u\/∃o,H a=some (.frz o u)
theorem Rd.ok{u:HO}(r:Rd H a u)(x:HOk P w H h):ObjOk P w H h a u:=by
 rcases r with r|⟨o,r⟩
 ·exact x a u r
 ·obtain⟨_,q⟩:=x a _ r;exact q
def Mut:Option HO->Prop
 |some (.lst _)=>True
 |some (.dK _)=>True
 |some (.dT _ _ _)=>True
 |some (.set _ _)=>True
 |some (.ins _ _ _)=>True
 |some (.ext _)=>True
 |_=>False
section
variable{x e:Addr}{o':HO}
theorem HOk.write(ok:HOk P w H h)(mu:Mut (H x))(he:e=x\/H e=some (.own x))(k:∀b u,b≠e->h.get? b=some u->h'.get? b=some u)(heo:∃u,h'.get? e=some u)
  (new:ObjOk P w (upd H x o') h' x o'):HOk P w (upd H x o') h':=fun b u q=>by
 have nown:∀c y,H c=some (.own y)->c≠x:=fun c y r z=>by subst z;rw[r]at mu;exact mu
 have ntup:∀c u,TupLike u->H c=some u->c≠x:=fun c u t r z=>by
  subst z;rw[r]at mu;cases u<;>first|exact mu|exact t
 by_cases hb:b=x
 ·subst hb;rw[q0h]at q;cases q;exact new
 ·rw[q0e hb]at q
  by_cases hbe:b=e
  ·have q':H b=some (.own x):=by
    rcases he with z|z
    ·exact absurd (hbe.trans z) hb
    ·rw[hbe];exact z
   rw[q]at q';cases q';obtain⟨v,hv⟩:=heo;exact⟨v,by rw[hbe];exact hv⟩
  ·refine(ok b u q).stay (fun c v hc r=>k c v ?_ r) (fun c r=>by rw[q0e (nown c b r)];exact r) fun c xs t r=>by rw[q0e (ntup c xs t r)];exact r
   rcases hc with rfl|hc
   ·exact hbe
   ·rintro rfl;rcases he with z|z
    ·exact nown c b hc z
    ·rw[hc]at z;cases z;exact hb rfl
end
structure Un(fs ex:List Addr)(H H':Hp)(h h':Heap):Prop where
 keep:∀b o,h.get? b=some o->H b=none->b∉fs->b∉ex->h'.get? b=some o
 slot:∀b o,h.get? b=some o->H b=none->b∈fs->b∉ex->∃sl,h'.get? b=some {o with slots:=sl}
 free:∀b o,h.get? b=some o->H b=none->b∉ex->H' b=none
 there:∀b o,h.get? b=some o->b∉ex->∃o',h'.get? b=some o'
 tups:∀b xs,H b=some (.tup xs)->H' b=some (.tup xs)
 frzs:∀b o u,H b=some (.frz o u)->H' b=some (.frz o u)
 tbls:∀b ps,H b=some (.tbl ps)->∃more,H' b=some (.tbl (ps++more))
section
variable{fs fs' ex ex':List Addr}{H1 H2:Hp}{h1 h2:Heap}{x e:Addr}{o:HO}
theorem Un.any(u:Un fs ex H H1 h h1){ob:Obj}(q:h.get? b=some ob)(n:H b=none)(hx:b∉ex):∃sl,h1.get? b=some {ob with slots:=sl}:=by
 by_cases hb:b∈fs
 ·exact u.slot b ob q n hb hx
 ·exact⟨ob.slots,u.keep b ob q n hb hx⟩
theorem Un.kept(k:∀b u,h.get? b=some u->h'.get? b=some u):Un fs ex H H h h':=
 ⟨fun b ob q _ _ _=>k b ob q,fun b ob q _ _ _=>⟨ob.slots,k b ob q⟩,fun _ _ _ n _=>n,fun b ob q _=>⟨ob,k b ob q⟩,fun _ _ q=>q,fun _ _ _ q=>q,fun _ ps q=>⟨#[],by rw[q];simp⟩⟩
theorem Un.refl:Un fs ex H H h h:=Un.kept fun _ _ q=>q
theorem Un.laid(k:∀b u,h.get? b=some u->h'.get? b=some u)(hp:h.objs.size<=a)(hn:H a=none):Un fs ex H (upd H a o) h h' where
 keep:=fun b u q _ _ _=>k b u q
 slot:=fun b u q _ _ _=>⟨u.slots,k b u q⟩
 free:=fun b u q n _=>by rw[q0e (w0j (w0k (Heap.lt_size q) hp))];exact n
 there:=fun b u q _=>⟨u,k b u q⟩
 tups:=fun b xs q=>by rw[q0e (q0q q hn)];exact q
 frzs:=fun b u xs q=>by rw[q0e (q0q q hn)];exact q
 tbls:=fun b ps q=>⟨#[],by rw[q0e (q0q q hn),q];simp⟩
theorem Un.write(mu:Mut (H x))(he:e=x\/H e=some (.own x))(k:∀b u,b≠e->h.get? b=some u->h'.get? b=some u)(heo:∃u,h'.get? e=some u):Un fs ex H (upd H x o) h h':=by
 have hx:∀b,H b=none->b≠x:=fun b n z=>by subst z;rw[n]at mu;exact mu
 have hb:∀b,H b=none->b≠e:=fun b n z=>by
  subst z;rcases he with r|r
  ·exact hx b n r
  ·rw[n]at r;cases r
 have hm:∀b u,H b=some u->¬Mut (some u)->b≠x:=fun b u q nm z=>by subst z;rw[q]at mu;exact nm mu
 refine⟨fun b u q n _ _=>k b u (hb b n) q,fun b u q n _ _=>⟨u.slots,k b u (hb b n) q⟩,fun b u q n _=>by rw[q0e (hx b n)];exact n,fun b u q _=>?_,
  fun b xs q=>by rw[q0e (hm b _ q fun z=>z)];exact q,fun b u xs q=>by rw[q0e (hm b _ q fun z=>z)];exact q,fun b ps q=>⟨#[],by rw[q0e (hm b _ q fun z=>z),q];simp⟩⟩
 by_cases hbe:b=e
 ·subst hbe;exact heo
 ·exact⟨u,k b u hbe q⟩
end
noncomputable def trk(h:Heap)(H:Hp):List Addr:=(List.range h.objs.size).filter fun a=>(H a).isSome
noncomputable def hidT(h:Heap)(H:Hp):Heap:=hideAll h (trk h H)
theorem x0n(h:Heap)(H:Hp):(hidT h H).objs.size=h.objs.size:=PySem.W.hideAll_size _ _
theorem x11{o:Obj}(e:h.get? b=some o)(n:H b=none):(hidT h H).get? b=some o:=
 hideAll_get _ e fun hm=>by
  have q:(H b).isSome=true:=(w1w.mp hm).2;rw[n]at q;simp at q
theorem x30{o:Obj}(e:(hidT h H).get? b=some o):h.get? b=some o/\H b=none:=by
 have e':h.get? b=some o:=of_hideAll (trk h H) e;refine⟨e',?_⟩;cases q:H b with
 |none=>rfl
 |some x=>
  have hm:b∈trk h H:=w1w.mpr ⟨w1m.mpr (Heap.lt_size e'),by simp[q]⟩;have z:(hidT h H).get? b=none:=hideAll_none (trk h H) hm;rw[z]at e;cases e
noncomputable def allNews(g h:Heap)(L:Addr):List (Addr×Obj):=(List.range h.objs.size).filterMap fun a=>if a=L\/(g.get? a).isSome=true then none else(h.get? a).map fun o=>(a,o)
noncomputable def rest(g h:Heap)(L d:Addr):List (Addr×Obj):=(allNews g h L).filter fun p=>decide (p.1≠d)
structure Mod(K:PySem.W.Frag)(mg:Str->Option Value)(base:Heap):Prop where
 kin:K.In base
 glob:base.Ns mainGlobals mg
 blt:∃mb,base.Ns builtinsNs mb/\∀x:Str,x≠"__name__"->mb x=bootBuiltins x
 nolimit:base.NoLimit
structure Cx where
 prog:Program
 w:World
 K:PySem.W.Frag
 mg:Str->Option Value
 base:Heap
 A:Around
 N:List Str
 s₀:Shared
 H₀:Hp
 env:Env
 outer:List Env
 stack:List Env
 ex:List Addr
 fn:Str->Bool
 calm:Bool
 pn:List (Addr×Obj)
 xe:Value->Shared->Prop
variable{X:Cx}
noncomputable def frs(l:List Env):List Addr:=l.filterMap (·.frame)
noncomputable abbrev Cx.fs(X:Cx):List Addr:=frs X.outer
def Vis(sc:Scope)(x:Str):Prop:=sc.names.lookup x=some .local\/sc.names.lookup x=some .cell\/sc.names.lookup x=some .free
def Loc(sc:Scope)(x:Str):Prop:=sc.names.lookup x=some .local\/sc.names.lookup x=some .cell
def Look(env:Env)(h:Heap)(m:Str->Option Value)(x:Str)(u:Value):Prop:=
 (env.kindOf x=some .local/\m x=some u)\/((env.kindOf x=some .cell\/env.kindOf x=some .free)/\∃c,env.cells.lookup x=some c/\h.IsCell c (some u))
noncomputable abbrev markO(P:Addr)(q:Str):Obj:={cls:=.str q 0,data:=.fields #[.ref P]}
def TabOk(K:PySem.W.Frag)(H:Hp):Prop:=∀(a:Addr)(q:Str)(P:Addr),(a,markO P q)∈K->∃ps:Array Value,H P=some (.tbl ps)/\ps[0]?=some (.bool true)/\ps[1]?=some (.str q 0)
noncomputable def noMark(K:PySem.W.Frag):Bool:=K.all fun p=>match p.2.cls with
 |.str _ _=>false
 |_=>true
theorem TabOk.vac(h:noMark K=true):TabOk K H:=fun a q P m=>by
 have:=w1e.mp h _ m;cases this
theorem TabOk.un{fs ex:List Addr}{h':Heap}(t:TabOk K H)(u:Un fs ex H H' h h'):TabOk K H':=fun a q P m=>by
 obtain⟨ps,e,p0,p1⟩:=t a q P m;obtain⟨more,e'⟩:=u.tbls P ps e;refine⟨_,e',?_,?_⟩
 ·rw[w1r (by obtain⟨z,_⟩:=w1b.mp p0;exact z)];exact p0
 ·rw[w1r (by obtain⟨z,_⟩:=w1b.mp p1;exact z)];exact p1
theorem TabOk.laid{D:Addr}{o:HO}(t:TabOk K H)(hn:H D=none):TabOk K (upd H D o):=fun a q P m=>by
 obtain⟨ps,e,p⟩:=t a q P m;exact⟨ps,by rw[q0e (q0q e hn)];exact e,p⟩
structure Cx.Ok(X:Cx):Prop where
 mod:Mod X.K X.mg X.base
 kind:X.env.scope.kind=.function
 glob:X.env.globals=mainGlobals
 blt:X.env.builtins=builtinsNs
 above:X.s₀.heap.objs.size<=X.env.locals
 inj:∀x y c,X.env.cells.lookup x=some c->X.env.cells.lookup y=some c->x=y
 has:∀x,(X.env.kindOf x=some .cell\/X.env.kindOf x=some .free)->∃c,X.env.cells.lookup x=some c
 cab:∀x c,X.fn x=true->X.env.cells.lookup x=some c->X.s₀.heap.objs.size<=c
 hd:X.calm=true->X.A.handled=none
 frames:X.A.frames=some X.stack
 stk:X.stack=X.outer\/(X.stack=X.env::X.outer/\X.env.frame=some X.env.locals)
 exf:∀b∈X.ex,b≠X.env.locals/\∀x c,X.env.cells.lookup x=some c->c≠b
 bs:∀b o,X.base.get? b=some o->X.s₀.heap.get? b=some o/\X.H₀ b=none
 bsz:X.base.objs.size<=X.s₀.heap.objs.size
 noex:∀b o,X.base.get? b=some o->b∉X.ex
 exfs:∀b∈X.ex,b∉X.fs
 funs:X.s₀.heap.FunFrames X.base X.outer
 frf:∀b∈X.fs,X.H₀ b=none
 tab:TabOk X.K X.H₀
structure Inv(X:Cx)(pins:List (Addr×Obj))(σ:List (Option V))(H:Hp)(s:Shared):Prop where
 ok:X.Ok
 os:s.os=X.s₀.os
 bare:AllBare s.gens
 base:Un X.fs X.ex X.H₀ H X.s₀.heap s.heap
 loc:∃m,s.heap.Ns X.env.locals m/\∀(i:Nat)(x:Str)(v:V),X.N[i]?=some x->σ[i]?=some (some v)->Vis X.env.scope x->∃u,RelV v u/\Look X.env s.heap m x u
 cell:∀x c,X.env.cells.lookup x=some c->∃v,s.heap.IsCell c v
 free:H X.env.locals=none
 freeC:∀x c,X.env.cells.lookup x=some c->H c=none
 pin:∀p∈X.pn++pins,s.heap.get? p.1=some p.2/\H p.1=none/\p.1≠X.env.locals/\p.1∉X.fs/\∀v,p.2.data≠.cell v
 hok:HOk X.prog X.w H s.heap
 len:σ.length=X.N.length
section
variable{σ:List (Option V)}
theorem Cx.Ok.nofr(ok:X.Ok){o:Obj}(e:X.base.get? b=some o):b∉X.fs:=fun hb=>by
 have:=(ok.funs.mem hb).1
 rw[e]at this;cases this
theorem Inv.bs(I:Inv X pins σ H s):∀b o,X.base.get? b=some o->s.heap.get? b=some o/\H b=none:=fun b o e=>
 ⟨I.base.keep b o (I.ok.bs b o e).1 (I.ok.bs b o e).2 (I.ok.nofr e) (I.ok.noex b o e),I.base.free b o (I.ok.bs b o e).1 (I.ok.bs b o e).2 (I.ok.noex b o e)⟩
theorem Inv.bk(I:Inv X pins σ H s):∀b o,X.base.get? b=some o->s.heap.get? b=some o:=fun b o e=>(I.bs b o e).1
theorem Inv.mod(I:Inv X pins σ H s):Mod X.K X.mg X.base:=I.ok.mod
theorem Inv.kIn(I:Inv X pins σ H s):X.K.In s.heap:=I.ok.mod.kin.keeps I.bk
theorem Inv.fr(I:Inv X pins σ H s):∃m,Fr X.base X.env.locals s.heap m:=
 let ⟨m,hn,_⟩:=I.loc
 ⟨m,hn,I.bk,w0w I.ok.bsz I.ok.above⟩
theorem Inv.lt(I:Inv X pins σ H s):X.env.locals<s.heap.objs.size:=let ⟨_,hn,_⟩:=I.loc;hn.lt
theorem Inv.sz(I:Inv X pins σ H s):X.s₀.heap.objs.size<=s.heap.objs.size:=w0w I.ok.above (w2v I.lt)
theorem Inv.nofs(I:Inv X pins σ H s)(h:s.heap.objs.size<=a):a∉X.fs:=fun hb=>by
 obtain⟨_,o,ho,_⟩:=I.ok.funs.mem hb
 exact absurd (w0k (Heap.lt_size ho) (w0w I.sz h)) (w1v _)
theorem Inv.cne(I:Inv X pins σ H s):∀x c,X.env.cells.lookup x=some c->c≠X.env.locals:=fun x c e z=>by
 obtain⟨v,o,ho,hd⟩:=I.cell x c e;obtain⟨m,⟨o',es,ep,ho',hd',_⟩,_⟩:=I.loc;rw[z,ho']at ho;cases ho;rw[hd']at hd;cases hd
theorem Inv.funs(I:Inv X pins σ H s):s.heap.FunFrames X.base X.outer:=by
 have all:∀(l:List Env),(∀b∈frs l,b∈X.fs)->X.s₀.heap.FunFrames X.base l->s.heap.FunFrames X.base l:=by
  intro l
  induction l with
  |nil=>intro _ _;trivial
  |cons env r ih=>
   intro hs hl;obtain⟨hk,⟨L,o,hf,hn,ho,hd⟩,hr⟩:=hl;have hL:L∈X.fs:=hs L (by unfold frs;rw[w3a,hf];exact w1j);obtain⟨sl,e⟩:=I.base.slot L o ho (I.ok.frf L hL) hL fun z=>I.ok.exfs L z hL
   exact⟨hk,⟨L,_,hf,hn,e,hd⟩,ih (fun b hb=>hs b (by unfold frs;rw[w3a,hf];exact w0z _ hb)) hr⟩
 exact all X.outer (fun _ hb=>hb) I.ok.funs
theorem Inv.stack(I:Inv X pins σ H s):s.heap.FunFrames X.base X.stack:=by
 rcases I.ok.stk with e|⟨e,hf⟩
 ·rw[e];exact I.funs
 ·rw[e];obtain⟨m,hn,_⟩:=I.loc;refine .cons (by rw[I.ok.kind];decide) hf hn ?_ I.funs
  exact Heap.get?_none_of_le (w0w I.ok.bsz I.ok.above)
theorem Inv.stkSub(I:Inv X pins σ H s):∀b∈frs X.stack,b∈X.env.locals::X.fs:=fun b hb=>by
 rcases I.ok.stk with e|⟨e,hf⟩
 ·rw[e]at hb;exact w0z _ hb
 ·rw[e]at hb;unfold frs at hb;rw[w3a,hf]at hb;exact hb
theorem Inv.stkFree(I:Inv X pins σ H s):∀b∈frs X.stack,H b=none:=fun b hb=>by
 rcases w0p.mp (I.stkSub b hb)with e|hb
 ·rw[e];exact I.free
 ·obtain⟨_,o,ho,_⟩:=I.ok.funs.mem hb
  exact I.base.free b o ho (I.ok.frf b hb) fun z=>I.ok.exfs b z hb
theorem Inv.step{g':Array GenState}{d':Drawn}{ch:List Addr}(I:Inv X pins σ H s)
  (hch:∀b∈ch,(b∈X.ex\/X.s₀.heap.objs.size<=b)/\b≠X.env.locals/\(∀x c,X.env.cells.lookup x=some c->c≠b)/\∀p∈X.pn++pins,p.1≠b)
  (keep:∀b o,b≠X.env.locals->b∉X.fs->b∉ch->s.heap.get? b=some o->H b=none->h'.get? b=some o)
  (slot:∀b o,b≠X.env.locals->b∈X.fs->b∉ch->s.heap.get? b=some o->H b=none->∃sl,h'.get? b=some {o with slots:=sl})(free:∀b o,b∉ch->s.heap.get? b=some o->H b=none->H' b=none)
  (there:∀b o,b∉ch->s.heap.get? b=some o->∃o',h'.get? b=some o')
  (tups:∀b xs,H b=some (.tup xs)->H' b=some (.tup xs))(frzs:∀b o u,H b=some (.frz o u)->H' b=some (.frz o u))(tbls:∀b ps,H b=some (.tbl ps)->∃more,H' b=some (.tbl (ps++more)))
  (ns:∀m,s.heap.Ns X.env.locals m->h'.Ns X.env.locals m)(hok:HOk X.prog X.w H' h')(hg:AllBare g'):
  Inv X pins σ H' {s with heap:=h',gens:=g',drawn:=d',toks:=t'}:=by
 have neL:∀b o,X.s₀.heap.get? b=some o->b≠X.env.locals:=fun b o e=>w0j (w0k (Heap.lt_size e) I.ok.above)
 have neC:∀b o,X.s₀.heap.get? b=some o->b∉X.ex->b∉ch:=fun b o e hx hb=>by
  rcases(hch b hb).1 with z|z
  ·exact hx z
  ·exact absurd (w0k (Heap.lt_size e) z) (w1v _)
 have cellK:∀x c,X.env.cells.lookup x=some c->∀v,s.heap.IsCell c v->h'.IsCell c v:=fun x c e v ⟨o,ho,hd⟩=>by
  have nch:c∉ch:=fun z=>(hch c z).2.2.1 x c e rfl
  by_cases hc:c∈X.fs
  ·obtain⟨sl,q⟩:=slot c o (I.cne x c e) hc nch ho (I.freeC x c e);exact⟨_,q,hd⟩
  ·exact⟨o,keep c o (I.cne x c e) hc nch ho (I.freeC x c e),hd⟩
 refine⟨I.ok,I.os,hg,⟨fun b o e n hb hx=>?_,fun b o e n hb hx=>?_,fun b o e n hx=>?_,fun b o e hx=>?_,fun b xs e=>tups b xs (I.base.tups b xs e),fun b o xs e=>frzs b o xs (I.base.frzs b o xs e),fun b ps e=>?_⟩,?_,fun x c e=>?_,?_,fun x c e=>?_,fun p hp=>?_,hok,I.len⟩
 ·exact keep b o (neL b o e) hb (neC b o e hx) (I.base.keep b o e n hb hx) (I.base.free b o e n hx)
 ·obtain⟨sl,e1⟩:=I.base.slot b o e n hb hx;obtain⟨sl',e2⟩:=slot b _ (neL b o e) hb (neC b o e hx) e1 (I.base.free b o e n hx);exact⟨sl',e2⟩
 ·obtain⟨o',e1⟩:=I.base.there b o e hx;exact free b o' (neC b o e hx) e1 (I.base.free b o e n hx)
 ·obtain⟨o',e1⟩:=I.base.there b o e hx;exact there b o' (neC b o e hx) e1
 ·obtain⟨m1,e1⟩:=I.base.tbls b ps e;obtain⟨m2,e2⟩:=tbls b _ e1;exact⟨m1++m2,by rw[e2,Array.append_assoc]⟩
 ·obtain⟨m,hn,hl⟩:=I.loc;refine⟨m,ns m hn,fun i x v e1 e2 e3=>?_⟩
  obtain⟨u,r,l⟩:=hl i x v e1 e2 e3;refine⟨u,r,?_⟩;rcases l with l|⟨k,c,e,z⟩
  ·exact .inl l
  ·exact .inr ⟨k,c,e,cellK x c e _ z⟩
 ·obtain⟨v,z⟩:=I.cell x c e;exact⟨v,cellK x c e v z⟩
 ·obtain⟨m,⟨o,_,_,ho,_⟩,_⟩:=I.loc;exact free _ o (fun z=>(hch _ z).2.1 rfl) ho I.free
 ·obtain⟨v,o,ho,hd⟩:=I.cell x c e;exact free c o (fun z=>(hch c z).2.2.1 x c e rfl) ho (I.freeC x c e)
 ·obtain⟨e,n,ne,nf,d⟩:=I.pin p hp;have nch:p.1∉ch:=fun z=>(hch p.1 z).2.2.2 p hp rfl
  exact⟨keep p.1 p.2 ne nf nch e n,free p.1 p.2 nch e n,ne,nf,d⟩
theorem Inv.un(I:Inv X pins σ H s)(u:Un X.fs [] H H' s.heap h')(hok:HOk X.prog X.w H' h'):Inv X pins σ H' {s with heap:=h',toks:=t'}:=by
 obtain⟨m,⟨o,es,ep,ho,r⟩,_⟩:=id I.loc;obtain⟨sl,hL⟩:=u.any ho I.free (by simp)
 exact I.step (g':=s.gens) (d':=s.drawn) (ch:=[]) (fun _ z=>nomatch z) (fun b o _ hb _ e n=>u.keep b o e n hb (by simp)) (fun b o _ hb _ e n=>u.slot b o e n hb (by simp)) (fun b o _ e n=>u.free b o e n (by simp)) (fun b o _ e=>u.there b o e (by simp)) u.tups u.frzs u.tbls (fun m' hm=>by
  obtain⟨o',es',ep',ho',r'⟩:=hm;rw[ho]at ho';cases ho';exact⟨_,es',ep',hL,r'⟩) hok I.bare
theorem Inv.call{g':Array GenState}{d':Drawn}(I:Inv X pins σ H s)(u:Un (frs X.stack) ch H H' s.heap h')(hok:HOk X.prog X.w H' h')(hg:AllBare g')
  (hch:∀b∈ch,(b∈X.ex\/X.s₀.heap.objs.size<=b)/\b≠X.env.locals/\(∀x c,X.env.cells.lookup x=some c->c≠b)/\∀p∈X.pn++pins,p.1≠b):
  Inv X pins σ H' {s with heap:=h',gens:=g',drawn:=d',toks:=t'}:=by
 obtain⟨m,⟨o,es,ep,ho,r⟩,_⟩:=id I.loc;obtain⟨sl,hL⟩:=u.any ho I.free fun z=>(hch _ z).2.1 rfl
 exact I.step (ch:=ch) hch (fun b o hL hb hc e n=>u.keep b o e n (fun z=>(w0p.mp (I.stkSub b z)).elim hL hb) hc) (fun b o _ _ hc e n=>u.any e n hc) (fun b o hc e n=>u.free b o e n hc) (fun b o hc e=>u.there b o e hc) u.tups u.frzs u.tbls (fun m' hm=>by
  obtain⟨o',es',ep',ho',r'⟩:=hm;rw[ho]at ho';cases ho';exact⟨_,es',ep',hL,r'⟩) hok hg
theorem Inv.turned{t':Nat}{it:Addr}(I:Inv X pins σ H s)(k:∀b o,b≠it->s.heap.get? b=some o->h'.get? b=some o)(hn:H it=none)(hL:it≠X.env.locals)
  (h1:it∈X.ex\/X.s₀.heap.objs.size<=it)(h2:∀x c,X.env.cells.lookup x=some c->c≠it)(h3:∀p∈X.pn++pins,p.1≠it):Inv X pins σ H {s with heap:=h',toks:=t'}:=by
 have nit:∀b u,H b=some u->b≠it:=fun b u e z=>by rw[z,hn]at e;cases e
 refine I.step (g':=s.gens) (d':=s.drawn) (ch:=[it]) (fun b hb=>?_) (fun b o _ _ hc e _=>k b o (fun z=>hc (by simp[z])) e) (fun b o _ _ hc e _=>⟨o.slots,k b o (fun z=>hc (by simp[z])) e⟩) (fun _ _ _ _ n=>n)
  (fun b o hc e=>⟨o,k b o (fun z=>hc (by simp[z])) e⟩) (fun _ _ e=>e) (fun _ _ _ e=>e) (fun b ps e=>⟨#[],by rw[e];simp⟩) (fun m hm=>?_) (fun b u e=>?_) I.bare
 ·have e:b=it:=by simpa using hb
  subst e;exact⟨h1,hL,h2,h3⟩
 ·obtain⟨o,es,ep,ho,r⟩:=hm;exact⟨o,es,ep,k _ o (Ne.symm hL) ho,r⟩
 ·refine(I.hok b u e).stay (fun c v hc q=>k c v ?_ q) (fun _ q=>q) fun _ _ _ q=>q
  rcases hc with z|z
  ·rw[z];exact nit b u e
  ·exact nit c _ z
theorem Inv.tok(I:Inv X pins σ H s)(t:Nat):Inv X pins σ H {s with toks:=t}:=I.un (h':=s.heap) (t':=t) Un.refl I.hok
theorem Inv.kept{t':Nat}(I:Inv X pins σ H s)(k:∀b u,s.heap.get? b=some u->h'.get? b=some u):Inv X pins σ H {s with heap:=h',toks:=t'}:=I.un (Un.kept k) (I.hok.kept k)
theorem Inv.laid{a:Addr}{o:HO}{t':Nat}(I:Inv X pins σ H s)(k:∀b u,s.heap.get? b=some u->h'.get? b=some u)(hp:s.heap.objs.size<=a)(new:ObjOk X.prog X.w (upd H a o) h' a o):
  Inv X pins σ (upd H a o) {s with heap:=h',toks:=t'}:=I.un (Un.laid k hp (I.hok.fresh hp)) (I.hok.laid k hp new)
theorem Inv.write{x e:Addr}{o:HO}(I:Inv X pins σ H s)(mu:Mut (H x))(he:e=x\/H e=some (.own x))(k:∀b u,b≠e->s.heap.get? b=some u->h'.get? b=some u)(heo:∃u,h'.get? e=some u)
  (new:ObjOk X.prog X.w (upd H x o) h' x o):Inv X pins σ (upd H x o) {s with heap:=h',toks:=t'}:=I.un (Un.write mu he k heo) (I.hok.write mu he k heo new)
theorem Inv.weak{σ':List (Option V)}(I:Inv X pins σ H s)(hl:σ'.length=σ.length)(w:∀(i:Nat) v,σ'[i]?=some (some v)->σ[i]?=some (some v)):Inv X pins σ' H s:=
 ⟨I.ok,I.os,I.bare,I.base,let ⟨m,hn,hl'⟩:=I.loc;⟨m,hn,fun i x v e1 e2 e3=>hl' i x v e1 (w i v e2) e3⟩,I.cell,I.free,I.freeC,I.pin,I.hok,hl.trans I.len⟩
theorem Inv.pins_of{pins':List (Addr×Obj)}(I:Inv X pins σ H s)(h:∀p∈pins',s.heap.get? p.1=some p.2/\H p.1=none/\p.1≠X.env.locals/\p.1∉X.fs/\∀v,p.2.data≠.cell v):Inv X pins' σ H s:=
 ⟨I.ok,I.os,I.bare,I.base,I.loc,I.cell,I.free,I.freeC,fun p hp=>(w1a.mp hp).elim (fun z=>I.pin p (w2d _ z)) (h p),I.hok,I.len⟩
theorem x12(hN:N.Nodup){j:Nat}(a:N[i]?=some x)(b:N[j]?=some x):i=j:=by
 obtain⟨h1,e1⟩:=w0b.mp a;obtain⟨h2,e2⟩:=w0b.mp b;exact(List.getElem_inj hN).mp (e1.trans e2.symm)
theorem x59{M:Model}{Q:Unit->Shared->Prop}(I:Inv X pins σ H s)(hN:X.N.Nodup)(hi:X.N[i]?=some x)(hx:Loc X.env.scope x)(r:RelV v u)
  (h:∀s',Inv X pins (σ.set i (some v)) H s'->(∃a,Heap.SameBut a s.heap s'.heap/\(a=X.env.locals\/X.env.cells.lookup x=some a))->Q () s')(hf:X.fn x=true\/X.env.scope.names.lookup x=some .local:=by walk_at "2"):wpAny M A (storeName X.env x u) Q E s:=by
 obtain⟨m,hn,hl⟩:=id I.loc;have hcls:(X.env.scope.kind==.class||(X.env.scope.kind==.module&&X.env.locals != X.env.globals))=false:=by rw[I.ok.kind];rfl
 have hiσ:i<σ.length:=by rw[I.len];exact(w0b.mp hi).1
 have cne:=I.cne
 have tracked:∀{a:Addr}{h':Heap},(∃o,s.heap.get? a=some o/\H a=none)->Heap.SameBut a s.heap h'->HOk X.prog X.w H h':=fun {a h'} ha hs b ob e=>by
  obtain⟨_,_,hfree⟩:=ha;refine(I.hok b ob e).stay (fun c w' hc q=>(hs.2 c ?_).trans q) (fun _ q=>q) fun _ _ _ q=>q
  rintro rfl;rcases hc with rfl|hc
  ·rw[hfree]at e;cases e
  ·rw[hfree]at hc;cases hc
 rcases hx with hk|hk
 ·refine wpAny_storeName_local hk hn (fun h' hn' hs=>?_) hcls
  obtain⟨oL,_,_,hoL,_⟩:=id hn;refine h _ ⟨I.ok,I.os,I.bare,⟨fun b o e n hb hx=>?_,fun b o e n hb hx=>?_,I.base.free,fun b o e hx=>?_,I.base.tups,I.base.frzs,I.base.tbls⟩,⟨_,hn',fun j y v' e1 e2 e3=>?_⟩,fun y c e=>?_,I.free,I.freeC,fun p hp=>?_,tracked ⟨oL,hoL,I.free⟩ hs,by simpa using I.len⟩ ⟨_,hs,.inl rfl⟩
  ·exact(hs.2 b (w0j (w0k (Heap.lt_size e) I.ok.above))).trans (I.base.keep b o e n hb hx)
  ·obtain⟨sl,e1⟩:=I.base.slot b o e n hb hx;exact⟨sl,(hs.2 b (w0j (w0k (Heap.lt_size e) I.ok.above))).trans e1⟩
  ·obtain⟨o',e1⟩:=I.base.there b o e hx;exact⟨o',(hs.2 b (w0j (w0k (Heap.lt_size e) I.ok.above))).trans e1⟩
  ·by_cases hj:j=i
   ·subst hj;rw[hi]at e1;cases e1;rw[w0l hiσ]at e2;cases e2;exact⟨u,r,.inl ⟨hk,by simp⟩⟩
   ·rw[w0m (Ne.symm hj)]at e2;obtain⟨u',r',q⟩:=hl j y v' e1 e2 e3;refine⟨u',r',?_⟩;rcases q with⟨k,e⟩|⟨k,c,e,z⟩
    ·refine .inl ⟨k,?_⟩;have:y≠x:=fun e=>hj (x12 hN e1 (e ▸ hi))
     simp[this,e]
    ·exact .inr ⟨k,c,e,z.sameBut hs (cne y c e)⟩
  ·obtain⟨w',z⟩:=I.cell y c e;exact⟨w',z.sameBut hs (cne y c e)⟩
  ·obtain⟨e,n,ne,nf,d⟩:=I.pin p hp;exact⟨(hs.2 p.1 ne).trans e,n,ne,nf,d⟩
 ·have hfn:X.fn x=true:=by
   rcases hf with z|z
   ·exact z
   ·rw[z]at hk;cases hk
  obtain⟨c,hc⟩:=I.ok.has x (.inl hk);obtain⟨w',z⟩:=I.cell x c hc;refine wpAny_storeName_cell I.ok.kind hk hc z (fun h' hc' hs=>?_)
  obtain⟨oc,hoc,hocd⟩:=id z;refine h {s with heap:=h'} ⟨I.ok,I.os,I.bare,⟨fun b o e n hb hx=>?_,fun b o e n hb hx=>?_,I.base.free,fun b o e hx=>?_,I.base.tups,I.base.frzs,I.base.tbls⟩,⟨m,hn.sameBut hs (Ne.symm (cne x c hc)),fun j y v' e1 e2 e3=>?_⟩,fun y c' e=>?_,I.free,I.freeC,fun p hp=>?_,tracked ⟨oc,hoc,I.freeC x c hc⟩ hs,by simpa using I.len⟩ ⟨c,hs,.inr hc⟩
  ·exact(hs.2 b (w0j (w0k (Heap.lt_size e) (I.ok.cab x c hfn hc)))).trans (I.base.keep b o e n hb hx)
  ·obtain⟨sl,e1⟩:=I.base.slot b o e n hb hx;exact⟨sl,(hs.2 b (w0j (w0k (Heap.lt_size e) (I.ok.cab x c hfn hc)))).trans e1⟩
  ·obtain⟨o',e1⟩:=I.base.there b o e hx;exact⟨o',(hs.2 b (w0j (w0k (Heap.lt_size e) (I.ok.cab x c hfn hc)))).trans e1⟩
  ·by_cases hj:j=i
   ·subst hj;rw[hi]at e1;cases e1;rw[w0l hiσ]at e2;cases e2;exact⟨u,r,.inr ⟨.inl hk,c,hc,hc'⟩⟩
   ·rw[w0m (Ne.symm hj)]at e2;obtain⟨u',r',q⟩:=hl j y v' e1 e2 e3;refine⟨u',r',?_⟩;rcases q with q|⟨k,c',e,z'⟩
    ·exact .inl q
    ·refine .inr ⟨k,c',e,z'.sameBut hs ?_⟩;rintro rfl;exact hj (x12 hN e1 (I.ok.inj _ _ _ e hc ▸ hi))
  ·by_cases hcc:c'=c
   ·subst hcc;exact⟨_,hc'⟩
   ·obtain⟨w2,z2⟩:=I.cell y c' e;exact⟨w2,z2.sameBut hs hcc⟩
  ·obtain⟨e,n,ne,nf,d⟩:=I.pin p hp;refine⟨(hs.2 p.1 ?_).trans e,n,ne,nf,d⟩;intro q;rw[q,hoc]at e;have q':oc=p.2:=Option.some.inj e;exact d w' (by rw[<- q'];exact hocd)
theorem q8i{M:Model}{Q:Unit->Shared->Prop}(I:Inv X pins σ H s)(hN:X.N.Nodup)(hi:X.N[i]?=some x)(hx:Loc X.env.scope x)(r:RelV v u)
  (h:∀s',Inv X pins (σ.set i (some v)) H s'->Q () s')(hf:X.fn x=true\/X.env.scope.names.lookup x=some .local:=by walk_at "2"):wpAny M A (storeName X.env x u) Q E s:=
 x59 I hN hi hx r (fun s' I' _=>h s' I') hf
theorem Inv.call'{s':Shared}{ch:List Addr}(I:Inv X pins σ H s)(ho:s'.os=s.os)(u:Un (frs X.stack) ch H H' s.heap s'.heap)(hok:HOk X.prog X.w H' s'.heap)(hg:AllBare s'.gens)
  (hch:∀b∈ch,(b∈X.ex\/X.s₀.heap.objs.size<=b)/\b≠X.env.locals/\(∀x c,X.env.cells.lookup x=some c->c≠b)/\∀p∈X.pn++pins,p.1≠b):Inv X pins σ H' s':=by
 obtain⟨h',g',d',t',o'⟩:=s';have e:o'=s.os:=ho;subst e;exact I.call (g':=g') (t':=t') (d':=d') u hok hg hch
end
abbrev XK:=Value->Option Addr->Hp->Prop
noncomputable abbrev St:=List (Option V)
variable{σ:St}
abbrev VK:=V->Hp->Prop
abbrev TE:=St->Hp->VK->Prop
variable{ta te:TE}
abbrev TT:=St->Hp->(Bool->Hp->Prop)->Prop
abbrev TA:=St->Hp->(List V->Hp->Prop)->Prop
structure Ends where
 nx:St->Hp->Prop
 rt:VK
 bk:St->Hp->Prop:=fun _ _=>False
 ct:St->Hp->Prop:=fun _ _=>False
abbrev TS:=Ends->St->Hp->Prop
variable{tb:TS}
def EP(X:Cx)(pins:List (Addr×Obj))(σ:St)(Q:VK)(u:Value)(s':Shared):Prop:=∃v H',Inv X pins σ H' s'/\RelV v u/\Q v H'
def TP(X:Cx)(pins:List (Addr×Obj))(σ:St)(Q:Bool->Hp->Prop)(b:Bool)(s':Shared):Prop:=∃H',Inv X pins σ H' s'/\Q b H'
def AP(X:Cx)(pins:List (Addr×Obj))(σ:St)(Q:List V->Hp->Prop)(us:List Value)(s':Shared):Prop:=∃vs H',Inv X pins σ H' s'/\Vals vs us/\Q vs H'
def SP(X:Cx)(pins:List (Addr×Obj))(D:Ends)(f:Flow)(s':Shared):Prop:=
 match f with
 |.next=>∃σ' H',Inv X pins σ' H' s'/\D.nx σ' H'
 |.brk=>∃σ' H',Inv X pins σ' H' s'/\D.bk σ' H'
 |.cont=>∃σ' H',Inv X pins σ' H' s'/\D.ct σ' H'
 |.ret u=>∃v σ' H',Inv X pins σ' H' s'/\RelV v u/\D.rt v H'
def PE(X:Cx)(e:Expr)(t:TE):Prop:=
 ∀(pins:List (Addr×Obj))(s:Shared)(σ:St)(H:Hp)(Q:VK),Inv X pins σ H s->t σ H Q->wpAny (model X.prog X.w) X.A (eval e X.env) (EP X pins σ Q) X.xe s
def PT(X:Cx)(e:Expr)(t:TT):Prop:=
 ∀(pins:List (Addr×Obj))(s:Shared)(σ:St)(H:Hp)(Q:Bool->Hp->Prop),Inv X pins σ H s->t σ H Q->wpAny (model X.prog X.w) X.A (isTrue e X.env (eval e X.env)) (TP X pins σ Q) X.xe s
def PW(X:Cx)(e:Expr)(t:TT):Prop:=
 ∀(whole:Sem Value)(pins:List (Addr×Obj))(s:Shared)(σ:St)(H:Hp)(Q:Bool->Hp->Prop),Inv X pins σ H s->t σ H Q->wpAny (model X.prog X.w) X.A (isTrue e X.env whole) (TP X pins σ Q) X.xe s
theorem PW.pt{t:TT}(h:PW X e t):PT X e t:=h _
def PA(X:Cx)(es:List Expr)(t:TA):Prop:=
 ∀(pos:Pos)(pins:List (Addr×Obj))(s:Shared)(σ:St)(H:Hp)(Q:List V->Hp->Prop),Inv X pins σ H s->t σ H Q->wpAny (model X.prog X.w) X.A (spliced (backTo pos (starEach es X.env))) (AP X pins σ Q) X.xe s
def PS(X:Cx)(st:Stmt)(t:TS):Prop:=
 ∀(pins:List (Addr×Obj))(s:Shared)(σ:St)(H:Hp)(D:Ends),Inv X pins σ H s->t D σ H->wpAny (model X.prog X.w) X.A (exec st X.env) (SP X pins D) X.xe s
def PSs(X:Cx)(st:List Stmt)(t:TS):Prop:=
 ∀(pins:List (Addr×Obj))(s:Shared)(σ:St)(H:Hp)(D:Ends),Inv X pins σ H s->t D σ H->wpAny (model X.prog X.w) X.A (execs st X.env) (SP X pins D) X.xe s
theorem thn{α:Type}{t:Sem α}{Q Q':α->Shared->Prop}{M:Model}(h:wpAny M A t Q E s)(hQ:∀a s,Q a s->Q' a s):wpAny M A t Q' E s:=wpAny_mono h hQ fun _ _ x=>x
section
def tVar(i:Nat):TE:=fun σ H Q=>∃v,σ[i]?=some (some v)/\Q v H
def tC(v:V):TE:=fun _ H Q=>Q v H
theorem y5k(hN:X.N[i]?=some x)(hv:Vis X.env.scope x)(hd:(x==("__debug__":Str))=false:=by decide)(hcd:(x==("__classdict__":Str))=false:=by decide):PE X (.Name x pos) (tVar i):=by
 intro pins s σ H Q I h;obtain⟨v,e,h⟩:=h;obtain⟨m,hn,hl⟩:=I.loc;obtain⟨u,r,l⟩:=hl i x v hN e hv;have fin:EP X pins σ Q u s:=⟨v,H,I,r,h⟩;rcases l with⟨hk,hm⟩|⟨hk,c,hc,hcell⟩
 ·exact wpAny_Name (wpAny_loadName_local I.ok.kind hk hn hm fin) hd
 ·rcases hk with hk|hk
  ·exact wpAny_Name (wpAny_loadName_cell I.ok.kind hk hc hcell fin) hd
  ·exact wpAny_Name (wpAny_loadName_free I.ok.kind hk hc hcell fin hcd) hd
theorem x6a{i j pos}:PE X (.Constant (.int i) j pos) (tC (.int i)):=fun _ _ _ H _ I h=>wpAny_Constant_int ⟨.int i,H,I.tok _,⟨_,rfl⟩,h⟩
theorem y8r{b j pos}:PE X (.Constant (.bool b) j pos) (tC (.bl b)):=fun _ _ _ H _ I h=>Constant_bool ⟨.bl b,H,I,rfl,h⟩
theorem y5l{x j pos}:PE X (.Constant (.str x) j pos) (tC (.str x)):=fun _ _ _ H _ I h=>Calls.Constant_str ⟨.str x,H,I.tok _,⟨_,rfl⟩,h⟩
def Gl(X:Cx)(x:Str):Prop:=X.env.kindOf x=some .globalImplicit
theorem q43{Q:Value->Shared->Prop}(I:Inv X pins σ H s)(hg:Gl X x)(hm:X.mg x=some u)(h:Q u s)
  (hd:(x==("__debug__":Str))=false:=by decide):wpAny (model X.prog X.w) X.A (eval (.Name x pos) X.env) Q E s:=
 Calls.Name_function_global I.ok.kind hg (Calls.loadGlobal_global (by rw[I.ok.glob];exact I.mod.glob.keeps I.bk) hm h) hd
theorem q4p{Q:Value->Shared->Prop}(I:Inv X pins σ H s)(hg:Gl X x)(hm:X.mg x=none)(hv:bootBuiltins x=some u)(h:Q u s)
  (hn:x≠"__name__":=by decide)(hd:(x==("__debug__":Str))=false:=by decide):wpAny (model X.prog X.w) X.A (eval (.Name x pos) X.env) Q E s:=by
 obtain⟨mb,h1,h2⟩:=I.mod.blt;exact Calls.Name_function_global I.ok.kind hg (Calls.loadGlobal_builtin (by rw[I.ok.glob];exact I.mod.glob.keeps I.bk) hm (by rw[I.ok.blt];exact h1.keeps I.bk) ((h2 x hn).trans hv) h) hd
theorem y2b{v:V}(hg:Gl X x)(hm:X.mg x=some u)(r:RelV v u)(hd:(x==("__debug__":Str))=false:=by decide):PE X (.Name x pos) (tC v):=
 fun _ _ _ H _ I h=>q43 I hg hm ⟨v,H,I,r,h⟩ hd
theorem y2c{v:V}(hg:Gl X x)(hm:X.mg x=none)(hv:bootBuiltins x=some u)(r:RelV v u)(hn:x≠"__name__":=by decide)(hd:(x==("__debug__":Str))=false:=by decide):PE X (.Name x pos) (tC v):=
 fun _ _ _ H _ I h=>q4p I hg hm hv ⟨v,H,I,r,h⟩ hn hd
variable{a b:Expr}{tb:TE}
def PC(X:Cx)(op:CmpOp)(a b:Expr)(t:TE):Prop:=
 ∀(pins:List (Addr×Obj))(s:Shared)(σ:St)(H:Hp)(Q:VK),Inv X pins σ H s->t σ H Q ->
  wpAny (model X.prog X.w) X.A (eval a X.env) (fun v s₁=>wpAny (model X.prog X.w) X.A (eval b X.env) (fun u s₂=>wpAny (model X.prog X.w) X.A (compareOp op v u) (EP X pins σ Q) X.xe s₂) X.xe s₁) X.xe s
theorem nobehind(b:Expr)(h:op≠.In)(h2:op≠.NotIn):behindInMarks op b=false:=by
 have e1:(op==CmpOp.In)=false:=by cases op<;>first|rfl|exact absurd rfl h
 have e2:(op==CmpOp.NotIn)=false:=by cases op<;>first|rfl|exact absurd rfl h2
 cases b<;>simp[behindInMarks,e1,e2]
def tB(t:TE):TT:=fun σ H Q=>t σ H fun x H1=>∃c,x=.bl c/\Q c H1
theorem y5m{t:TE}(h:PC X op a b t)(h1:behindInMarks op b=false:=by first|exact nobehind _ (by decide) (by decide)|rfl):PT X (.Compare a [op] [b] pos) (tB t):=by
 intro pins s σ H Q I hw;refine wpAny_isTrue_Compare1 (thn (h pins s σ H _ I hw) fun v s1 h1=>thn h1 fun u s2 h2=>thn h2 fun c s3 ⟨x,H1,I1,r1,q1⟩=>?_) h1
 obtain⟨d,rfl,q⟩:=q1;cases r1;exact wpAny_truthy_bool ⟨H1,I1,q⟩
variable{tA tB':TT}{rest:List Expr}
def tAnd(t u:TT):TT:=fun σ H Q=>t σ H fun c H1=>if c=true then u σ H1 Q else Q false H1
def tOr(t u:TT):TT:=fun σ H Q=>t σ H fun c H1=>if c=true then Q true H1 else u σ H1 Q
theorem y2d(ha:PT X a tA):PW X (.BoolOp .And [a] pos) tA:=by
 intro wh pins s σ H Q I h;refine isTrue_and (thn (ha pins s σ H Q I h) fun c s1 e=>?_)
 cases c with
 |true=>exact isTrue_and_nil e
 |false=>exact e
theorem y5n(ha:PT X a tA):PW X (.BoolOp .Or [a] pos) tA:=by
 intro wh pins s σ H Q I h;refine isTrue_or (thn (ha pins s σ H Q I h) fun c s1 e=>?_)
 cases c with
 |false=>exact isTrue_or_nil e
 |true=>exact e
theorem y5o(ha:PT X a tA)(hb:PW X (.BoolOp .And (b::rest) pos) tB'):PW X (.BoolOp .And (a::b::rest) pos) (tAnd tA tB'):=by
 intro wh pins s σ H Q I h;refine isTrue_and (thn (ha pins s σ H _ I h) fun c s1 ⟨H1,I1,q1⟩=>?_)
 cases c with
 |true=>exact hb wh pins s1 σ H1 Q I1 q1
 |false=>exact⟨H1,I1,q1⟩
theorem y8s(ha:PT X a tA)(hb:PW X (.BoolOp .Or (b::rest) pos) tB'):PW X (.BoolOp .Or (a::b::rest) pos) (tOr tA tB'):=by
 intro wh pins s σ H Q I h;refine isTrue_or (thn (ha pins s σ H _ I h) fun c s1 ⟨H1,I1,q1⟩=>?_)
 cases c with
 |true=>exact⟨H1,I1,q1⟩
 |false=>exact hb wh pins s1 σ H1 Q I1 q1
def tAndV(ta tb:TE):TE:=fun σ H Q=>ta σ H fun x H1=>∃c,x=.bl c/\if c=true then tb σ H1 Q else Q (.bl false) H1
def tOrV(ta tb:TE):TE:=fun σ H Q=>ta σ H fun x H1=>∃c,x=.bl c/\if c=true then Q (.bl true) H1 else tb σ H1 Q
def tNotV(ta:TE):TE:=fun σ H Q=>ta σ H fun x H1=>∃c,x=.bl c/\Q (.bl (!c)) H1
theorem y5p{op}{t:TE}(h:PE X a t):PE X (.BoolOp op [a] pos) t:=fun pins s σ H Q I hw=>BoolOp_one (h pins s σ H Q I hw)
theorem y5q(ha:PE X a ta)(hb:PE X (.BoolOp .And (b::rest) pos) tb):PE X (.BoolOp .And (a::b::rest) pos) (tAndV ta tb):=by
 intro pins s σ H Q I h;refine BoolOp_and (thn (ha pins s σ H _ I h) fun v s1 ⟨x,H1,I1,r1,q1⟩=>?_)
 obtain⟨c,rfl,q1⟩:=q1;cases r1;refine wpAny_truthy_bool ?_;cases c with
 |true=>exact hb pins s1 σ H1 Q I1 q1
 |false=>exact⟨.bl false,H1,I1,rfl,q1⟩
theorem y8t(ha:PE X a ta)(hb:PE X (.BoolOp .Or (b::rest) pos) tb):PE X (.BoolOp .Or (a::b::rest) pos) (tOrV ta tb):=by
 intro pins s σ H Q I h;refine BoolOp_or (thn (ha pins s σ H _ I h) fun v s1 ⟨x,H1,I1,r1,q1⟩=>?_)
 obtain⟨c,rfl,q1⟩:=q1;cases r1;refine wpAny_truthy_bool ?_;cases c with
 |false=>exact hb pins s1 σ H1 Q I1 q1
 |true=>exact⟨.bl true,H1,I1,rfl,q1⟩
theorem y5r(ha:PE X a ta):PE X (.UnaryOp .Not a pos) (tNotV ta):=by
 intro pins s σ H Q I h;refine UnaryOp_ (thn (ha pins s σ H _ I h) fun v s1 ⟨x,H1,I1,r1,q1⟩=>?_)
 obtain⟨c,rfl,q1⟩:=q1;cases r1;exact not_of (wpAny_truthy_bool ⟨.bl (!c),H1,I1,rfl,q1⟩)
end
def SqL(K:PySem.W.Frag)(H:Hp)(a:Addr)(xs:List V):Prop:=
 Rd H a (.lst xs) \/
  ∃(o:Obj)(its:Array Value)(n:Nat),K.lookup a=some o/\o.cls=.type "list" /\ o.dict=none/\o.data=.seq its n/\its.size<=sizeLine/\Vals xs its.toList
def SqT(K:PySem.W.Frag)(H:Hp)(a:Addr)(xs:List V):Prop:=
 Rd H a (.tup xs) \/
  ∃(o:Obj)(its:Array Value)(n:Nat),K.lookup a=some o/\o.cls=.type "tuple" /\ o.dict=none/\o.data=.seq its n/\its.size<=sizeLine/\Vals xs its.toList
noncomputable def absV:Value->Option V
 |.none=>some .non
 |.bool b=>some (.bl b)
 |.int i _=>some (.int i)
 |.str x _=>some (.str x)
 |.bytes b _=>some (.byt b)
 |.float b _=>some (.flt b)
 |.ref a=>some (.ref a)
 |.type n=>some (.ty n)
 |_=>none
theorem RelV.abs{x:V}(r:RelV x u):absV u=some x:=by
 cases x with
 |non=>cases r;rfl
 |bl _=>cases r;rfl
 |int _=>obtain⟨t,rfl⟩:=r;rfl
 |str _=>obtain⟨t,rfl⟩:=r;rfl
 |byt _=>obtain⟨t,rfl⟩:=r;rfl
 |flt _=>obtain⟨t,rfl⟩:=r;rfl
 |ref _=>cases r;rfl
 |ty _=>cases r;rfl
theorem RelV.inj{x y:V}(r:RelV x u)(q:RelV y u):x=y:=Option.some.inj (r.abs.symm.trans q.abs)
theorem Vals.inj:∀{xs ys:List V}{us:List Value},Vals xs us->Vals ys us->xs=ys
 |_,_,_,.nil,.nil=>rfl
 |_,_,_,.cons r t,.cons r' t'=>by rw[r.inj r',Vals.inj t t']
section
variable{ys:List V}
theorem SqL.of(h:H a=some (.lst xs)):SqL K H a xs:=.inl (.inl h)
theorem SqT.of(h:H a=some (.tup xs)):SqT K H a xs:=.inl (.inl h)
theorem Inv.list(I:Inv X pins σ H s)(h:SqL X.K H a xs):∃its:List Value,Vals xs its/\PlainL s.heap a its.toArray/\xs.length<=sizeLine:=by
 rcases h with h|⟨o,its,n,hk,hc,hd,hs,hz,r⟩
 ·obtain⟨z,its,n,r,e⟩:=h.ok I.hok;exact⟨its,r,⟨_,n,e,rfl,rfl,rfl⟩,z⟩
 ·refine⟨its.toList,r,⟨o,n,I.kIn a o hk,hc,hd,by simpa using hs⟩,?_⟩;have e:=r.length;simp only[w2m]at e;omega
theorem Inv.tuple(I:Inv X pins σ H s)(h:SqT X.K H a xs):∃its:List Value,Vals xs its/\IsTup s.heap a its.toArray/\xs.length<=sizeLine:=by
 rcases h with h|⟨o,its,n,hk,hc,_,hs,hz,r⟩
 ·obtain⟨z,its,r,p,_⟩:=h.ok I.hok;exact⟨its,r,p,z⟩
 ·refine⟨its.toList,r,⟨o,I.kIn a o hk,hc,n,by simpa using hs⟩,?_⟩;have e:=r.length;simp only[w2m]at e;omega
theorem Inv.list_inj(I:Inv X pins σ H s)(h:SqL X.K H a xs)(h':SqL X.K H a ys):xs=ys:=by
 obtain⟨its,r,⟨o,n,e,_,_,d⟩,_⟩:=I.list h;obtain⟨its',r',⟨o',n',e',_,_,d'⟩,_⟩:=I.list h';rw[e]at e';cases e';rw[d]at d';injection d' with d1 _
 have:its=its':=by simpa using congrArg Array.toList d1
 subst this;exact r.inj r'
theorem Inv.tuple_inj(I:Inv X pins σ H s)(h:SqT X.K H a xs)(h':SqT X.K H a ys):xs=ys:=by
 obtain⟨its,r,⟨o,e,_,n,d⟩,_⟩:=I.tuple h;obtain⟨its',r',⟨o',e',_,n',d'⟩,_⟩:=I.tuple h';rw[e]at e';cases e';rw[d]at d';injection d' with d1 _
 have:its=its':=by simpa using congrArg Array.toList d1
 subst this;exact r.inj r'
end
section
variable{st:Stmt}{rest:List Stmt}{t u:TS}
def tNext:TS:=fun D σ H=>D.nx σ H
def tSeq(t u:TS):TS:=fun D σ H=>t {D with nx:=u D} σ H
theorem y2e:PSs X [] tNext:=fun _ _ σ H _ I h=>wpAny_execs_nil ⟨σ,H,I,h⟩
theorem x83(h1:PS X st t)(h2:PSs X rest u):PSs X (st::rest) (tSeq t u):=by
 intro pins s σ H D I h;refine wpAny_execs_cons (thn (h1 pins s σ H {D with nx:=u D} I h) fun f s1 q=>?_)
 cases f with
 |next=>
  obtain⟨σ',H',I',q⟩:=q;exact h2 pins s1 σ' H' D I' q
 |ret v=>exact q
 |brk=>exact q
 |cont=>exact q
theorem y2f(h1:PS X st t):PSs X [st] t:=by
 intro pins s σ H D I h;refine wpAny_execs_cons (thn (h1 pins s σ H D I h) fun f s1 q=>?_)
 cases f with
 |next=>exact wpAny_execs_nil q
 |ret v=>exact q
 |brk=>exact q
 |cont=>exact q
theorem Inv.quiet(I:Inv X pins σ H s):interactive X.env=false:=by simp[interactive,I.ok.kind]
def tDrop(te:TE):TS:=fun D σ H=>te σ H fun _ H1=>D.nx σ H1
theorem q6j(he:PE X e te)(hs:swapsWith e none pos.line X.env=pure false:=by rfl):PS X (.Expr e pos) (tDrop te):=by
 intro pins s σ H D I h;exact wpAny_Expr_any (thn (he pins s σ H _ I h) fun v s1 ⟨x,H1,I1,r1,q1⟩=>⟨σ,H1,I1,q1⟩) I.quiet hs
def tRet(te:TE):TS:=fun D σ H=>te σ H D.rt
theorem x13(he:PE X e te):PS X (.Return (some e) pos) (tRet te):=by
 intro pins s σ H D I h;exact wpAny_Return_some (thn (he pins s σ H _ I h) fun v s1 ⟨x,H1,I1,r1,q1⟩=>⟨x,σ,H1,I1,r1,q1⟩)
def tIfS(c:TT)(t u:TS):TS:=fun D σ H=>c σ H fun b H1=>if b=true then t D σ H1 else u D σ H1
theorem y8u{a b:List Stmt}{tc:TT}(hc:PT X c tc)(ha:PSs X a t)(hb:PSs X b u):PS X (.If c a b pos) (tIfS tc t u):=by
 intro pins s σ H D I h;refine wpAny_If (thn (hc pins s σ H _ I h) fun d s1 ⟨H1,I1,q1⟩=>?_)
 cases d with
 |true=>exact ha pins s1 σ H1 D I1 q1
 |false=>exact hb pins s1 σ H1 D I1 q1
end
abbrev TG:=V->St->Hp->(St->Hp->Prop)->Prop
abbrev TGs:=List V->St->Hp->(St->Hp->Prop)->Prop
def PG(X:Cx)(target:Expr)(t:TG):Prop:=
 ∀(pins:List (Addr×Obj))(s:Shared)(σ:St)(H:Hp)(v:V)(u:Value)(Q:St->Hp->Prop),Inv X pins σ H s->RelV v u->t v σ H Q ->
  wpAny (model X.prog X.w) X.A (assign target X.env u) (fun _ s'=>∃σ' H',Inv X pins σ' H' s'/\Q σ' H') X.xe s
def PGs(X:Cx)(ts:List Expr)(t:TGs):Prop:=
 ∀(pins:List (Addr×Obj))(s:Shared)(σ:St)(H:Hp)(vs:List V)(us:List Value)(Q:St->Hp->Prop),Inv X pins σ H s->Vals vs us->t vs σ H Q ->
  wpAny (model X.prog X.w) X.A (assignInOrder ((assignEach ts X.env).map (·.2)) us) (fun _ s'=>∃σ' H',Inv X pins σ' H' s'/\Q σ' H') X.xe s
abbrev TSet:=V->V->V->Hp->(Hp->Prop)->Prop
def PSet(X:Cx)(t:TSet):Prop:=
 ∀(pins:List (Addr×Obj))(s:Shared)(σ:St)(H:Hp)(o i v:V)(ov iv u:Value)(Q:Hp->Prop),Inv X pins σ H s->RelV o ov->RelV i iv->RelV v u->t o i v H Q ->
  wpAny (model X.prog X.w) X.A (setItem ov iv u) (fun _ s'=>∃H',Inv X pins σ H' s'/\Q H') X.xe s
def gName(i:Nat):TG:=fun v σ H Q=>Q (σ.set i (some v)) H
theorem y2g(hN:X.N.Nodup)(hi:X.N[i]?=some x)(hx:Loc X.env.scope x)(hf:X.fn x=true\/X.env.scope.names.lookup x=some .local:=by walk_at "2"):PG X (.Name x pos) (gName i):=by
 intro pins s σ H v u Q I r h;exact wpAny_assign_Name (q8i I hN hi hx r (fun s' I'=>⟨_,H,I',h⟩) hf)
noncomputable def gNil:TGs:=fun vs σ H Q=>vs=[]/\Q σ H
noncomputable def gCons(t:TG)(u:TGs):TGs:=fun vs σ H Q=>∃v r,vs=v::r/\t v σ H fun σ' H'=>u r σ' H' Q
theorem q90:PGs X [] gNil:=by
 intro pins s σ H vs us Q I r h;obtain⟨e,h⟩:=h;subst e;cases r;exact assignInOrder_nil ⟨σ,H,I,h⟩
theorem q44{t:TG}{u:TGs}(h1:PG X e t)(h2:PGs X es u)
  (hs:(assignEach (e::es) X.env).map (·.2)=assign e X.env::(assignEach es X.env).map (·.2):=by rfl):PGs X (e::es) (gCons t u):=by
 intro pins s σ H vs us Q I r h;obtain⟨v,vr,e1,h⟩:=h;subst e1;cases r with
 |cons r rr=>
  rw[hs];refine assignInOrder_cons (thn (h1 pins s σ H _ _ _ I r h) fun _ s1 ⟨σ1,H1,I1,q1⟩=>?_)
  exact h2 pins s1 σ1 H1 _ _ Q I1 rr q1
def gTup(K:PySem.W.Frag)(n:Nat)(t:TGs):TG:=fun v σ H Q=>∃a xs,v=.ref a/\SqT K H a xs/\xs.length=n/\t xs σ H Q
theorem x14{t:TGs}{n:Nat}(hc:X.calm=true)(h:PGs X es t)
  (hn:(assignEach es X.env).length=n:=by rfl)(hst:(assignEach es X.env).findIdx? (·.1)=none:=by rfl):PG X (.Tuple es k pos) (gTup X.K n t):=by
 intro pins s σ H v u Q I r hw;obtain⟨a,xs,e1,hq,hl,hw⟩:=hw;subst e1;cases r;obtain⟨its,rv,ht,hz⟩:=I.tuple hq;refine assign_Tuple_tuple (I.ok.hd hc) ht (by simp[hn,<- hl,rv.length]) hst fun h' hx=>?_
 have I1:Inv X pins σ H {s with heap:=h'}:=I.kept (t':=s.toks) fun b o e=>hx b o (w0j (Heap.lt_size e)) e
 exact h pins _ σ H xs _ Q I1 (by simpa using rv) hw
def gSub(to ti:TE)(t:TSet):TG:=fun v σ H Q=>to σ H fun o H1=>ti σ H1 fun i H2=>t o i v H2 fun H3=>Q σ H3
theorem y5s{o i:Expr}{to ti:TE}{t:TSet}(ho:PE X o to)(hi:PE X i ti)(hs:PSet X t)
  (ha:∀v,assign (.Subscript o i pos) X.env v=(do
   let ov <- holding [v] (eval o X.env)
   let iv <- holding [v,ov] (eval i X.env)
   standAt pos
   holding [v,ov,iv] (setItem ov iv v)
   release [v,ov,iv] []):=by intro _;rfl):PG X (.Subscript o i pos) (gSub to ti t):=by
 intro pins s σ H v u Q I r h;rw[ha];refine wpAny_bind (wpAny_holding (thn (ho pins s σ H _ I h) fun ov s1 ⟨x,H1,I1,r1,q1⟩=>?_))
 refine wpAny_bind (wpAny_holding (thn (hi pins s1 σ H1 _ I1 q1) fun iv s2 ⟨y,H2,I2,r2,q2⟩=>?_))
 refine wpAny_bind (wpAny_standAt (wpAny_bind (wpAny_holding (thn (hs pins s2 σ H2 x y v ov iv u _ I2 r1 r2 r q2) fun _ s3 ⟨H3,I3,q3⟩=>?_))))
 exact wpAny_release ⟨σ,H3,I3,q3⟩
def tAsg(te:TE)(g:TG):TS:=fun D σ H=>te σ H fun x H1=>g x σ H1 D.nx
theorem x6b{g:TG}(he:PE X e te)(hg:PG X tg g)(hs:swapsWithSole [tg] e pos.line X.env=pure false:=by rfl)(hw:swappedStores [tg] e X.env=pure none:=by rfl)
  (h1:(assignEach [tg] X.env).map (·.2)=[assign tg X.env]:=by rfl):PS X (.Assign [tg] e pos) (tAsg te g):=by
 intro pins s σ H D I h;refine wpAny_Assign_stores (thn (he pins s σ H _ I h) fun v s1 ⟨x,H1,I1,r1,q1⟩=>?_) hs hw
 rw[h1];exact thn (hg pins s1 σ H1 x v _ I1 r1 q1) fun _ s2 q=>q
theorem y5t{pos':Pos}(hN:X.N.Nodup)(hi:X.N[i]?=some x)(hx:Loc X.env.scope x)(he:PE X e te)(hs:swapsWith e (some (.Name x pos')) pos.line X.env=pure false:=by rfl)(hf:X.fn x=true\/X.env.scope.names.lookup x=some .local:=by walk_at "2"):
  PS X (.Assign [.Name x pos'] e pos) (tAsg te (gName i)):=by
 intro pins s σ H D I h;refine wpAny_Assign_Name (thn (he pins s σ H _ I h) fun v s1 ⟨y,H1,I1,r1,q1⟩=>?_) hs
 exact q8i I1 hN hi hx r1 (fun s2 I2=>⟨_,H1,I2,q1⟩) hf
def tWhile(c:TT)(tb:TS):TS:=fun D σ H=>∃W:Nat->St->Hp->Prop,(∃m,W m σ H)/\∀m σ H,W m σ H ->
 c σ H fun b H1=>if b=true then ∃N:St->Hp->Prop,(∀σ' H',N σ' H'->∃m',m'<m/\W m' σ' H')/\tb {D with nx:=N,ct:=N,bk:=D.nx} σ H1 else D.nx σ H1
theorem x84{body:List Stmt}{tc:TT}(hp:PassesOwn (model X.prog X.w) X.A X.env X.xe)(hc:PT X c tc)(hb:PSs X body tb):PS X (.While c body [] pos) (tWhile tc tb):=by
 intro pins s σ H D I h;obtain⟨W,⟨m0,w0⟩,turn⟩:=h;refine wpAny_While (codeAny_whileLoop (fun n s'=>∃σ' H',Inv X pins σ' H' s'/\W n σ' H') ?_ m0 ⟨σ,H,I,w0⟩)
 rintro n s1 ⟨σ1,H1,I1,w1⟩;refine wpAny_passesOwn hp (thn (hc pins s1 σ1 H1 _ I1 (turn n σ1 H1 w1)) fun b s2 ⟨H2,I2,q2⟩=>?_)
 cases b with
 |true=>
  obtain⟨N,hN,q2⟩:=q2;rw[if_pos rfl];refine wpAny_passesOwn hp (thn (hb pins s2 σ1 H2 _ I2 q2) fun f s3 q3=>?_)
  cases f with
  |next=>
   obtain⟨σ3,H3,I3,n3⟩:=q3;obtain⟨m',hm,w3⟩:=hN σ3 H3 n3;exact⟨m',hm,σ3,H3,I3,w3⟩
  |cont=>
   obtain⟨σ3,H3,I3,n3⟩:=q3;obtain⟨m',hm,w3⟩:=hN σ3 H3 n3;exact⟨m',hm,σ3,H3,I3,w3⟩
  |brk=>exact q3
  |ret v=>exact q3
 |false=>
  rw[if_neg w4e];exact wpAny_execs_nil ⟨σ1,H2,I2,q2⟩
structure It where
 go:Nat->Hp->Prop
 yld:Nat->Hp->V->Hp->Prop
 stop:Nat->Hp->Prop
def FpOk(X:Cx)(pins:List (Addr×Obj))(H:Hp)(b:Addr):Prop:=
 H b=none/\b≠X.env.locals/\b∉X.fs/\(b∈X.ex\/X.s₀.heap.objs.size<=b)/\(∀x c,X.env.cells.lookup x=some c->c≠b)/\∀p∈X.pn++pins,p.1≠b
theorem Inv.fpOk(I:Inv X pins σ H s)(hb:s.heap.objs.size<=b)(hn:H' b=none):FpOk X pins H' b:=by
 refine⟨hn,w4k (w0k I.lt hb),I.nofs hb,.inr (w0w I.sz hb),fun x c e z=>?_,fun p hp z=>?_⟩
 ·obtain⟨v,q⟩:=I.cell x c e;exact absurd (w0k q.lt (by rw[z];exact hb)) (w1v _)
 ·exact absurd (w0k (Heap.lt_size (I.pin p hp).1) (by rw[z];exact hb)) (w1v _)
structure Turn(P:Program)(w:World)(K:PySem.W.Frag)(tg:Expr)(J:It)(fp:List Addr)(it:Addr)(tn:Nat->Heap->Prop):Prop where
 mem:it∈fp
 obj:∀i h,tn i h->∀b∈fp,∃o,h.get? b=some o/\∀v,o.data≠.cell v
 keep:∀i h h',tn i h->(∀b∈fp,∀o,h.get? b=some o->h'.get? b=some o)->tn i h'
 item:∀(X:Cx),X.prog=P->X.w=w->X.K=K->X.calm=true->∀(i:Nat)(pins:List (Addr×Obj))(s:Shared)(σ:St)(H:Hp)(E:Value->Shared->Prop),Inv X pins σ H s->(∀b∈fp,FpOk X pins H b)->tn i s.heap->J.go i H ->
  wpAny (model P w) X.A (pyNext (.ref it)) (fun r s1=>∃u,r=some u /\
   wpAny (model P w) X.A (letOwnedTupleGo tg (.ref it) u) (fun _ s2=>∃x H',Inv X pins σ H' s2/\RelV x u/\J.yld i H x H'/\tn (i+1) s2.heap/\∀b∈fp,H' b=none) E s1) E s
 done:∀(X:Cx),X.prog=P->X.w=w->X.K=K->X.calm=true->∀(i:Nat)(pins:List (Addr×Obj))(s:Shared)(σ:St)(H:Hp)(E:Value->Shared->Prop),Inv X pins σ H s->(∀b∈fp,FpOk X pins H b)->tn i s.heap->J.stop i H ->
  wpAny (model P w) X.A (pyNext (.ref it)) (fun r s1=>r=none/\Inv X pins σ H s1) E s
 self:∀(A:Around)(i:Nat)(s:Shared)(Q:Value->Shared->Prop)(E:Value->Shared->Prop),tn i s.heap->Q (.ref it) s->wpAny (model P w) A (pyIter (.ref it)) Q E s
abbrev TI:=St->Hp->(It->Hp->Prop)->Prop
def PIE(X:Cx)(pins:List (Addr×Obj))(σ:St)(tg:Expr)(R:It->Hp->Prop)(itv:Value)(s2:Shared):Prop:=
 ∃(it:Addr)(fp:List Addr)(tn:Nat->Heap->Prop)(J:It)(H':Hp),itv=.ref it/\Inv X pins σ H' s2/\Turn X.prog X.w X.K tg J fp it tn/\tn 0 s2.heap/\(∀b∈fp,FpOk X pins H' b)/\R J H'
def PI(X:Cx)(tg iter:Expr)(wi:TI):Prop:=
 ∀(pins:List (Addr×Obj))(s:Shared)(σ:St)(H:Hp)(R:It->Hp->Prop),Inv X pins σ H s->wi σ H R ->
  wpAny (model X.prog X.w) X.A (eval iter X.env) (fun v s1=>wpAny (model X.prog X.w) X.A (pyIter v) (PIE X pins σ tg R) X.xe s1) X.xe s
theorem x4p{M : Model}{E : Value -> Shared -> Prop}{s : Shared}{it : Addr}{o : Obj}{n : String}{vs : Array Value}{Q : Unit -> Shared -> Prop}(ho : s.heap.get? it = some o)(hc : o.cls = .type n)(hd : o.data = .fields vs)
    (hn : ["enumerate", "zip", "dict_itemiterator", "dict_reverseitemiterator", "odict_iterator", "itertools.zip_longest", "itertools.pairwise"].contains n = false)(hQ : Q () s) : wpAny M A (letOwnedTupleGo tg (.ref it) u) Q E s := by
  unfold letOwnedTupleGo
  cases tg <;> first
    | exact wpAny_pure hQ
    | (cases u <;> first
        | exact wpAny_pure hQ
        | (refine wpAny_bind (wpAny_load ho ?_)
           rw [hc, hd];show wpAny M A (if (["enumerate", "zip", "dict_itemiterator", "dict_reverseitemiterator", "odict_iterator", "itertools.zip_longest", "itertools.pairwise"].contains n && vs[0]? == some (rawInt _)) = true then _ else _) Q E s;rw [if_neg (by intro h; rw [hn, Bool.false_and] at h; cases h)];exact wpAny_pure hQ))
noncomputable def Itl(K:PySem.W.Frag)(a:Addr):It:=
 ⟨fun i H=>∃xs x,SqL K H a xs/\xs[i]?=some x,fun i H x H'=>H'=H/\∀xs,SqL K H a xs->xs[i]?=some x,fun i H=>∃xs,SqL K H a xs/\xs.length<=i⟩
noncomputable def Itt(K:PySem.W.Frag)(a:Addr):It:=
 ⟨fun i H=>∃xs x,SqT K H a xs/\xs[i]?=some x,fun i H x H'=>H'=H/\∀xs,SqT K H a xs->xs[i]?=some x,fun i H=>∃xs,SqT K H a xs/\xs.length<=i⟩
noncomputable def Itr(lo:Int)(n:Nat):It:=⟨fun i _=>i<n,fun i H x H'=>H'=H/\x=.int (lo+i),fun i _=>n<=i⟩
theorem x6c(a it:Addr):Turn P w K tg (Itl K a) [it] it (fun i h=>h.IsListIter it a i) where
 mem:=by simp
 obj:=fun i h st b hb=>by
  have e:b=it:=by simpa using hb
  subst e;obtain⟨o,e,c,d⟩:=st;exact⟨o,e,fun v z=>by rw[d]at z;cases z⟩
 keep:=fun i h h' st k=>st.at fun o e=>k it (by simp) o e
 item:=by
  intro X hP hw hK hc i pins s σ H E I hf st hg;subst hP hw hK;obtain⟨xs,x,hq,hx⟩:=hg;obtain⟨its,rv,p,hz⟩:=I.list hq;obtain⟨u,hu,ru⟩:=rv.get hx;obtain⟨f0,f1,f2,f3,f4,f5⟩:=hf it (by simp);refine wpAny_pyNext_list_item st p.isList (x:=u) (by simpa using hu) fun h' st' sb=>?_
  have I1:Inv X pins σ H {s with heap:=h'}:=I.turned (t':=s.toks) (fun b o hb e=>(sb.2 b hb).trans e) f0 f1 f3 f4 f5
  obtain⟨o,e,c,d⟩:=id st';exact⟨u,rfl,x4p (s:={s with heap:=h'}) e c d (by decide) ⟨x,H,I1,ru,⟨rfl,fun ys hy=>by rw[I.list_inj hy hq];exact hx⟩,st',fun b hb=>(hf b hb).1⟩⟩
 done:=by
  intro X hP hw hK hc i pins s σ H E I hf st hg;subst hP hw hK;obtain⟨xs,hq,hx⟩:=hg;obtain⟨its,rv,p,hz⟩:=I.list hq;obtain⟨f0,f1,f2,f3,f4,f5⟩:=hf it (by simp);have hl:=rv.length;exact wpAny_pyNext_list_end (I.ok.hd hc) st p.isList (by simp;omega) fun h' eb=>⟨rfl,I.turned (t':=s.toks) (fun b o hb e=>eb b o hb e) f0 f1 f3 f4 f5⟩
 self:=fun _ _ _ _ _ st h=>wpAny_pyIter_listiter st h
theorem x4q(a it:Addr):Turn P w K tg (Itt K a) [it] it (fun i h=>h.IsTupleIter it a i) where
 mem:=by simp
 obj:=fun i h st b hb=>by
  have e:b=it:=by simpa using hb
  subst e;obtain⟨o,e,c,d⟩:=st;exact⟨o,e,fun v z=>by rw[d]at z;cases z⟩
 keep:=fun i h h' st k=>st.at fun o e=>k it (by simp) o e
 item:=by
  intro X hP hw hK hc i pins s σ H E I hf st hg;subst hP hw hK;obtain⟨xs,x,hq,hx⟩:=hg;obtain⟨its,rv,p,hz⟩:=I.tuple hq;obtain⟨u,hu,ru⟩:=rv.get hx;obtain⟨f0,f1,f2,f3,f4,f5⟩:=hf it (by simp);refine wpAny_pyNext_tuple_item st (show s.heap.IsTuple a its.toArray from p) (x:=u) (by simpa using hu) fun h' st' sb=>?_
  have I1:Inv X pins σ H {s with heap:=h'}:=I.turned (t':=s.toks) (fun b o hb e=>(sb.2 b hb).trans e) f0 f1 f3 f4 f5
  obtain⟨o,e,c,d⟩:=id st';exact⟨u,rfl,x4p (s:={s with heap:=h'}) e c d (by decide) ⟨x,H,I1,ru,⟨rfl,fun ys hy=>by rw[I.tuple_inj hy hq];exact hx⟩,st',fun b hb=>(hf b hb).1⟩⟩
 done:=by
  intro X hP hw hK hc i pins s σ H E I hf st hg;subst hP hw hK;obtain⟨xs,hq,hx⟩:=hg;obtain⟨its,rv,p,hz⟩:=I.tuple hq;obtain⟨f0,f1,f2,f3,f4,f5⟩:=hf it (by simp);have hl:=rv.length;exact wpAny_pyNext_tuple_end (I.ok.hd hc) st (show s.heap.IsTuple a its.toArray from p) (by simp;omega) fun h' eb=>⟨rfl,I.turned (t':=s.toks) (fun b o hb e=>eb b o hb e) f0 f1 f3 f4 f5⟩
 self:=fun _ _ _ _ _ st h=>wpAny_pyIter_tupleiter st h
theorem x4r(it:Addr)(lo:Int)(n:Nat):Turn P w K tg (Itr lo n) [it] it (fun i h=>IsRangeIter h it (lo+(i:Nat)*1) ((n:Int)-(i:Nat)) 1) where
 mem:=by simp
 obj:=fun i h st b hb=>by
  have e:b=it:=by simpa using hb
  subst e
  exact⟨_,st,fun v z=>by
   have z':Data.fields _=Data.cell v:=z;cases z'⟩
 keep:=fun i h h' st k=>k it (by simp) _ st
 item:=by
  intro X hP hw hK hc i pins s σ H E I hf st hg;subst hP hw hK;obtain⟨f0,f1,f2,f3,f4,f5⟩:=hf it (by simp);have W:=Walks.range (prog:=X.prog) (w:=X.w) (I.ok.hd hc) it lo 1 n;refine W.item i s _ _ hg st fun v h' tk hv st' kk=>?_
  obtain⟨t,rfl⟩:=hv;have I1:Inv X pins σ H {s with heap:=h',toks:=tk}:=I.turned (fun b o hb e=>kk b o (by simpa using hb) e) f0 f1 f3 f4 f5
  refine⟨_,rfl,x4p (s:={s with heap:=h',toks:=tk}) (n:="range_iterator") st' rfl rfl (by decide) ⟨.int (lo+i),H,I1,⟨t,?_⟩,⟨rfl,rfl⟩,st',fun b hb=>(hf b hb).1⟩⟩
  rw[Int.mul_one]
 done:=by
  intro X hP hw hK hc i pins s σ H E I hf st hg;subst hP hw hK;obtain⟨f0,f1,f2,f3,f4,f5⟩:=hf it (by simp);exact wpAny_pyNext_range_end (I.ok.hd hc) st (by have:n<=i:=hg;omega) fun h' eb=>⟨rfl,I.turned (t':=s.toks) (fun b o hb e=>eb b o hb e) f0 f1 f3 f4 f5⟩
 self:=fun _ _ _ _ _ st h=>wpAny_pyIter_rangeiter st h
theorem x15{R:It->Hp->Prop}{lo hi:Int}{t u v:Tok}{tk:Nat}(I:Inv X pins σ H s)(h1:-(2^62)<=lo)(h2:lo<2^62)(h3:-(2^62)<=hi)(h4:hi<2^62)
  (q:R (Itr lo (hi-lo).toNat) H):wpAny (model X.prog X.w) X.A (pyIter (.ref s.heap.objs.size)) (PIE X pins σ tg R) E {s with heap:=s.heap.push {cls:=.type "range", data:=.fields #[.int lo t,.int hi u,.int 1 v]},toks:=tk}:=by
 refine wpAny_pyIter_range (IsRange.new ..) (small_one h1 h2 h3 h4) ?_;have I1:Inv X pins σ H {s with heap:=s.heap.push {cls:=.type "range", data:=.fields #[.int lo t,.int hi u,.int 1 v]},toks:=tk}:=I.kept fun b o e=>Heap.get?_push_of_some _ e
 refine⟨(s.heap.push {cls:=.type "range", data:=.fields #[.int lo t,.int hi u,.int 1 v]}).objs.size,[(s.heap.push {cls:=.type "range", data:=.fields #[.int lo t,.int hi u,.int 1 v]}).objs.size],_,_,H,rfl,
  I1.kept (t':=tk) fun b o e=>Heap.get?_push_of_some _ e,x4r _ lo (hi-lo).toNat,?_,fun b hb=>?_,q⟩
 ·have e1:lo+((0:Nat):Int)*1=lo:=by simp
  have e2:(((hi-lo).toNat:Nat):Int)-((0:Nat):Int)=Builtin.Range.rangeSize lo hi 1:=by rw[rangeSize_one];split<;>omega
  show IsRangeIter _ _ (lo+((0:Nat):Int)*1) ((((hi-lo).toNat:Nat):Int)-((0:Nat):Int)) 1;rw[e1,e2];exact Heap.get?_push_size _ rfl
 ·have e:b=(s.heap.push {cls:=.type "range", data:=.fields #[.int lo t,.int hi u,.int 1 v]}).objs.size:=by simpa using hb
  subst e;exact I1.fpOk (w0e _) (I1.hok.fresh (w0e _))
def iRng1(ta:TA):TI:=fun σ H R=>ta σ H fun vs H1=>∃j:Int,vs=[.int j]/\-(2^62)<=j/\j<2^62/\R (Itr 0 j.toNat) H1
def iRng2(ta:TA):TI:=fun σ H R=>ta σ H fun vs H1=>∃i j:Int,vs=[.int i,.int j]/\(-(2^62)<=i/\i<2^62/\-(2^62)<=j/\j<2^62)/\R (Itr i (j-i).toNat) H1
theorem x0o{a:Expr}{ta:TA}(hg:Gl X "range")(hm:X.mg "range"=none)(ha:PA X [a] ta)(hs:starEach [a] X.env=[(false,eval a X.env)]:=by rfl):PI X tg (.Call (.Name "range" p) [a] [] pos) (iRng1 ta):=by
 intro pins s σ H R I h;refine Call_ (q4p I hg hm boot_range (PyProof.Rows.callWith_type1 (thn (ha pos pins s σ H _ I h) fun us s1 ⟨vs,H1,I1,r1,q1⟩=>?_) hs rfl))
 obtain⟨j,e,q1,q2,q⟩:=q1;subst e;cases r1 with
 |cons r rr=>
  cases rr;obtain⟨t,rfl⟩:=r;exact call_range_1 (x15 I1 (by omega) (by omega) q1 q2 (by simpa using q))
theorem x6d{a b:Expr}{ta:TA}(hg:Gl X "range")(hm:X.mg "range"=none)(ha:PA X [a,b] ta)(hs:starEach [a,b] X.env=[(false,eval a X.env),(false,eval b X.env)]:=by rfl)(hs2:starEach [b] X.env=[(false,eval b X.env)]:=by rfl):
  PI X tg (.Call (.Name "range" p) [a,b] [] pos) (iRng2 ta):=by
 intro pins s σ H R I h;refine Call_ (q4p I hg hm boot_range (PyProof.Rows.callWith_type1 (thn (ha pos pins s σ H _ I h) fun us s1 ⟨vs,H1,I1,r1,q1⟩=>?_) (by rw[hs,hs2]) (by rw[hs2];rfl)))
 obtain⟨i,j,e,⟨q1,q2,q3,q4⟩,q⟩:=q1;subst e;cases r1 with
 |cons r rr=>
  cases rr with
  |cons r' rr=>
   cases rr;obtain⟨t,rfl⟩:=r;obtain⟨t',rfl⟩:=r';exact call_range_2 (x15 I1 q1 q2 q3 q4 q)
def tFor(wi:TI)(g:TG)(tb:TS):TS:=fun D σ H=>wi σ H fun J H1=>∃W:Nat->Nat->St->Hp->Prop,(∃m,W 0 m σ H1)/\∀i m σ H,W i m σ H ->
 (J.stop i H/\D.nx σ H)\/(J.go i H/\∃N:St->Hp->Prop,(∀σ' H',N σ' H'->∃m',m'<m/\W (i+1) m' σ' H')/\∀x H',J.yld i H x H'->g x σ H' fun σ2 H2=>tb {D with nx:=N,ct:=N,bk:=D.nx} σ2 H2)
noncomputable def pinsAt(fp:List Addr)(h:Heap):List (Addr×Obj):=fp.filterMap fun b=>(h.get? b).map fun o=>(b,o)
theorem q3w{o:Obj}(hb:b∈fp)(e:h.get? b=some o):(b,o)∈pinsAt fp h:=w1p.mpr ⟨b,hb,by rw[e];rfl⟩
theorem x6e{p:Addr×Obj}(hp:p∈pinsAt fp h):p.1∈fp/\h.get? p.1=some p.2:=by
 obtain⟨b,hb,e⟩:=w1p.mp hp;cases q:h.get? b with
 |none=>rw[q]at e;cases e
 |some o=>
  rw[q]at e;have e':(b,o)=p:=Option.some.inj e;subst e';exact⟨hb,q⟩
theorem Inv.pinned(I:Inv X pins σ H s)(hf:∀b∈fp,FpOk X pins H b)(ho:∀b∈fp,∃o,s.heap.get? b=some o/\∀v,o.data≠.cell v):Inv X (pins++pinsAt fp s.heap) σ H s:=
 I.pins_of fun p hp=>(w1a.mp hp).elim (fun z=>I.pin p (w0o _ z)) fun z=>by
  obtain⟨hb,e⟩:=x6e z;obtain⟨f0,f1,f2,_⟩:=hf p.1 hb;obtain⟨o,e',d⟩:=ho p.1 hb;rw[e]at e';cases e';exact⟨e,f0,f1,f2,d⟩
theorem Inv.unpinned{pl:List (Addr×Obj)}(I:Inv X (pins++pl) σ H s):Inv X pins σ H s:=I.pins_of fun p hp=>I.pin p (w0o _ (w2d _ hp))
theorem q86{iter:Expr}{body:List Stmt}{wi:TI}{g:TG}(hp:PassesOwn (model X.prog X.w) X.A X.env X.xe)(hc:X.calm=true)(hi:PI X tg iter wi)(hg:PG X tg g)(hb:PSs X body tb)
  (hs:∀x,foldedSetIterable iter X.env x=pure x:=by intro _;rfl):PS X (.For tg iter body [] pos) (tFor wi g tb):=by
 intro pins s σ H D I h;refine wpAny_For (thn (hi pins s σ H _ I h) fun v s1 h1=>thn h1 fun itv s2 h2=>?_) hs
 obtain⟨it,fp,tn,J,H2,e,I2,T,st2,f2,W,⟨m0,w0⟩,turn⟩:=h2;subst e;have stat:∀{H':Hp},(∀b∈fp,H' b=none)->∀b∈fp,FpOk X pins H' b:=fun hn b hb=>⟨hn b hb,(f2 b hb).2⟩
 refine codeAny_forLoop_any (fun n s'=>∃i σ' H',Inv X pins σ' H' s'/\tn i s'.heap/\(∀b∈fp,H' b=none)/\W i n σ' H') ?_ m0 ⟨0,σ,H2,I2,st2,fun b hb=>(f2 b hb).1,w0⟩
 rintro n s3 ⟨i,σ3,H3,I3,st3,fr3,w3⟩;rcases turn i n σ3 H3 w3 with⟨stop,qn⟩|⟨go,N,hN,step⟩
 ·refine wpAny_passesOwn hp (thn (T.done X rfl rfl rfl hc i pins s3 σ3 H3 X.xe I3 (stat fr3) st3 stop) fun r s4 ⟨hr,I4⟩=>?_)
  subst hr;exact wpAny_execs_nil ⟨σ3,H3,I4,qn⟩
 ·refine wpAny_passesOwn hp (thn (T.item X rfl rfl rfl hc i pins s3 σ3 H3 X.xe I3 (stat fr3) st3 go) fun r s4 ⟨u,hr,h4⟩=>?_)
  subst hr;refine wpAny_passesOwn hp (thn h4 fun _ s5 ⟨x,H5,I5,r5,y5,st5,fr5⟩=>?_)
  have I5':=I5.pinned (stat fr5) (T.obj _ _ st5);refine wpAny_passesOwn hp (thn (hg _ s5 σ3 H5 x u _ I5' r5 (step x H5 y5)) fun _ s6 ⟨σ6,H6,I6,q6⟩=>?_)
  refine wpAny_passesOwn hp (thn (hb _ s6 σ6 H6 _ I6 q6) fun f s7 q7=>?_)
  have again:∀{σ7:St}{H7:Hp},Inv X (pins++pinsAt fp s5.heap) σ7 H7 s7->N σ7 H7->∃m,m<n/\∃i σ' H',Inv X pins σ' H' s7/\tn i s7.heap/\(∀b∈fp,H' b=none)/\W i m σ' H':=fun {σ7 H7} I7 n7=>by
   obtain⟨m',hm,w7⟩:=hN σ7 H7 n7;refine⟨m',hm,i+1,σ7,H7,I7.unpinned,T.keep _ _ _ st5 fun b hb o e=>(I7.pin (b,o) (w0o _ (w0o _ (q3w hb e)))).1,fun b hb=>?_,w7⟩
   obtain⟨o,e,d⟩:=T.obj _ _ st5 b hb;exact(I7.pin (b,o) (w0o _ (w0o _ (q3w hb e)))).2.1
  cases f with
  |next=>obtain⟨σ7,H7,I7,n7⟩:=q7;exact again I7 n7
  |cont=>obtain⟨σ7,H7,I7,n7⟩:=q7;exact again I7 n7
  |brk=>obtain⟨σ7,H7,I7,q7⟩:=q7;exact⟨σ7,H7,I7.unpinned,q7⟩
  |ret v=>obtain⟨x7,σ7,H7,I7,r7,q7⟩:=q7;exact⟨x7,σ7,H7,I7.unpinned,r7,q7⟩
theorem x85{g:TG}{D:Ends}(Pv:Nat->St->Hp->Prop)(h0:Pv 0 σ H)(hl:∀i σ H,i<=xs.length->Pv i σ H->SqL K H a xs)
  (hs:∀i x σ H,xs[i]?=some x->Pv i σ H->g x σ H fun σ2 H2=>tb {D with nx:=Pv (i+1),ct:=Pv (i+1),bk:=D.nx} σ2 H2)(hd:∀σ H,Pv xs.length σ H->D.nx σ H):
  ∃W:Nat->Nat->St->Hp->Prop,(∃m,W 0 m σ H)/\∀i m σ H,W i m σ H ->
   ((Itl K a).stop i H/\D.nx σ H)\/((Itl K a).go i H/\∃N:St->Hp->Prop,(∀σ' H',N σ' H'->∃m',m'<m/\W (i+1) m' σ' H')/\∀x H',(Itl K a).yld i H x H'->g x σ H' fun σ2 H2=>tb {D with nx:=N,ct:=N,bk:=D.nx} σ2 H2):=by
 refine⟨fun i m σ H=>m=xs.length-i/\i<=xs.length/\Pv i σ H,⟨xs.length,by simp,w1f _,h0⟩,?_⟩
 rintro i m σ H ⟨rfl,hi,p⟩;have q:=hl i σ H hi p
 by_cases hlt:i<xs.length
 ·refine .inr ⟨⟨xs,xs[i],q,by simp[hlt]⟩,Pv (i+1),fun σ' H' p'=>⟨xs.length-(i+1),by omega,rfl,hlt,p'⟩,fun x H' y=>?_⟩
  obtain⟨e,y⟩:=y;subst e;exact hs i x σ _ (y xs q) p
 ·have e:i=xs.length:=by omega
  subst e;exact .inl ⟨⟨xs,q,w0e _⟩,hd σ H p⟩
theorem y2h{g:TG}{D:Ends}(Pv:Nat->St->Hp->Prop)(h0:Pv 0 σ H)(hl:∀i σ H,i<=xs.length->Pv i σ H->SqT K H a xs)
  (hs:∀i x σ H,xs[i]?=some x->Pv i σ H->g x σ H fun σ2 H2=>tb {D with nx:=Pv (i+1),ct:=Pv (i+1),bk:=D.nx} σ2 H2)(hd:∀σ H,Pv xs.length σ H->D.nx σ H):
  ∃W:Nat->Nat->St->Hp->Prop,(∃m,W 0 m σ H)/\∀i m σ H,W i m σ H ->
   ((Itt K a).stop i H/\D.nx σ H)\/((Itt K a).go i H/\∃N:St->Hp->Prop,(∀σ' H',N σ' H'->∃m',m'<m/\W (i+1) m' σ' H')/\∀x H',(Itt K a).yld i H x H'->g x σ H' fun σ2 H2=>tb {D with nx:=N,ct:=N,bk:=D.nx} σ2 H2):=by
 refine⟨fun i m σ H=>m=xs.length-i/\i<=xs.length/\Pv i σ H,⟨xs.length,by simp,w1f _,h0⟩,?_⟩
 rintro i m σ H ⟨rfl,hi,p⟩;have q:=hl i σ H hi p
 by_cases hlt:i<xs.length
 ·refine .inr ⟨⟨xs,xs[i],q,by simp[hlt]⟩,Pv (i+1),fun σ' H' p'=>⟨xs.length-(i+1),by omega,rfl,hlt,p'⟩,fun x H' y=>?_⟩
  obtain⟨e,y⟩:=y;subst e;exact hs i x σ _ (y xs q) p
 ·have e:i=xs.length:=by omega
  subst e;exact .inl ⟨⟨xs,q,w0e _⟩,hd σ H p⟩
theorem x6f{lo:Int}{n:Nat}{g:TG}{D:Ends}(Pv:Nat->St->Hp->Prop)(h0:Pv 0 σ H)
  (hs:∀i σ H,i<n->Pv i σ H->g (.int (lo+i)) σ H fun σ2 H2=>tb {D with nx:=Pv (i+1),ct:=Pv (i+1),bk:=D.nx} σ2 H2)(hd:∀σ H,Pv n σ H->D.nx σ H):
  ∃W:Nat->Nat->St->Hp->Prop,(∃m,W 0 m σ H)/\∀i m σ H,W i m σ H ->
   ((Itr lo n).stop i H/\D.nx σ H)\/((Itr lo n).go i H/\∃N:St->Hp->Prop,(∀σ' H',N σ' H'->∃m',m'<m/\W (i+1) m' σ' H')/\∀x H',(Itr lo n).yld i H x H'->g x σ H' fun σ2 H2=>tb {D with nx:=N,ct:=N,bk:=D.nx} σ2 H2):=by
 refine⟨fun i m σ H=>m=n-i/\i<=n/\Pv i σ H,⟨n,by simp,w1f _,h0⟩,?_⟩
 rintro i m σ H ⟨rfl,hi,p⟩
 by_cases hlt:i<n
 ·refine .inr ⟨hlt,Pv (i+1),fun σ' H' p'=>⟨n-(i+1),by omega,rfl,hlt,p'⟩,fun x H' y=>?_⟩
  obtain⟨e,y⟩:=y;subst e y;exact hs i σ _ hlt p
 ·have e:i=n:=by omega
  subst e;exact .inl ⟨w0e _,hd σ H p⟩
abbrev R2:=V->V->Hp->VK->Prop
variable{r:R2}
def OpR(X:Cx)(f:Value->Value->Sem Value)(r:R2):Prop:=
 ∀(pins:List (Addr×Obj))(s:Shared)(σ:St)(H:Hp)(x y:V)(v u:Value)(Q:VK),Inv X pins σ H s->RelV x v->RelV y u->r x y H Q ->
  wpAny (model X.prog X.w) X.A (f v u) (EP X pins σ Q) X.xe s
def UnR(X:Cx)(f:Value->Sem Value)(r:V->Hp->VK->Prop):Prop:=
 ∀(pins:List (Addr×Obj))(s:Shared)(σ:St)(H:Hp)(x:V)(v:Value)(Q:VK),Inv X pins σ H s->RelV x v->r x H Q ->
  wpAny (model X.prog X.w) X.A (f v) (EP X pins σ Q) X.xe s
def CallR(X:Cx)(f:Value)(r:List V->Hp->VK->Prop):Prop:=
 ∀(pins:List (Addr×Obj))(s:Shared)(σ:St)(H:Hp)(xs:List V)(us:List Value)(Q:VK),Inv X pins σ H s->Vals xs us->r xs H Q ->
  wpAny (model X.prog X.w) X.A (call f us) (EP X pins σ Q) X.xe s
def TruR(X:Cx)(r:V->Hp->(Bool->Hp->Prop)->Prop):Prop:=
 ∀(pins:List (Addr×Obj))(s:Shared)(σ:St)(H:Hp)(x:V)(v:Value)(Q:Bool->Hp->Prop),Inv X pins σ H s->RelV x v->r x H Q ->
  wpAny (model X.prog X.w) X.A (truthy v) (TP X pins σ Q) X.xe s
def tOp(r:R2)(ta tb:TE):TE:=fun σ H Q=>ta σ H fun x H1=>tb σ H1 fun y H2=>r x y H2 Q
def tUn(r:V->Hp->VK->Prop)(ta:TE):TE:=fun σ H Q=>ta σ H fun x H1=>r x H1 Q
def rI(C:Int->Int->Prop)(g:Int->Int->V):R2:=fun x y H Q=>∃i j,x=.int i/\y=.int j/\C i j/\Q (g i j) H
def rI0(g:Int->Int->V):R2:=fun x y H Q=>∃i j,x=.int i/\y=.int j/\Q (g i j) H
section
variable{a b:Expr}{tb tc:TE}
theorem binT(ha:PE X a ta)(hb:PE X b tb){R:V->V->Hp->Prop}(I:Inv X pins σ H s)
  (h:ta σ H fun x H1=>tb σ H1 fun y H2=>R x y H2){Q:Value->Shared->Prop}
  (hf:∀v u s2 x y H2,Inv X pins σ H2 s2->RelV x v->RelV y u->R x y H2->wpAny (model X.prog X.w) X.A (f v u) Q X.xe s2):
  wpAny (model X.prog X.w) X.A (eval a X.env) (fun v s₁=>wpAny (model X.prog X.w) X.A (eval b X.env) (fun u s₂=>wpAny (model X.prog X.w) X.A (f v u) Q X.xe s₂) X.xe s₁) X.xe s:=by
 refine thn (ha pins s σ H _ I h) fun v s1 ⟨x,H1,I1,r1,q1⟩=>?_
 refine thn (hb pins s1 σ H1 _ I1 q1) fun u s2 ⟨y,H2,I2,r2,q2⟩=>?_
 exact hf v u s2 x y H2 I2 r1 r2 q2
theorem y8v{op:Operator}(ho:OpR X (binaryOp op) r)(ha:PE X a ta)(hb:PE X b tb):PE X (.BinOp a op b pos) (tOp r ta tb):=by
 intro pins s σ H Q I h;exact wpAny_BinOp (binT ha hb I h fun v u s2 x y H2 I2 rx ry q=>ho pins s2 σ H2 x y v u Q I2 rx ry q)
theorem opI{C:Int->Int->Prop}{g:Int->Int->Int}
  (rule:∀(i j:Int)(t u:Tok)(s:Shared)(Q:Value->Shared->Prop)(E:Value->Shared->Prop),C i j->Q (.int (g i j) s.toks) {s with toks:=s.toks+1}->wpAny (model X.prog X.w) X.A (f (.int i t) (.int j u)) Q E s):
  OpR X f (rI C fun i j=>.int (g i j)):=by
 intro pins s σ H x y v u Q I rx ry h;obtain⟨i,j,rfl,rfl,hc,q⟩:=h;obtain⟨t,rfl⟩:=rx;obtain⟨t',rfl⟩:=ry;exact rule i j t t' s _ _ hc ⟨.int (g i j),H,I.tok _,⟨_,rfl⟩,q⟩
theorem opI0{g:Int->Int->Int}
  (rule:∀(i j:Int)(t u:Tok)(s:Shared)(Q:Value->Shared->Prop)(E:Value->Shared->Prop),Q (.int (g i j) s.toks) {s with toks:=s.toks+1}->wpAny (model X.prog X.w) X.A (f (.int i t) (.int j u)) Q E s):
  OpR X f (rI0 fun i j=>.int (g i j)):=by
 intro pins s σ H x y v u Q I rx ry h;obtain⟨i,j,rfl,rfl,q⟩:=h;obtain⟨t,rfl⟩:=rx;obtain⟨t',rfl⟩:=ry;exact rule i j t t' s _ _ ⟨.int (g i j),H,I.tok _,⟨_,rfl⟩,q⟩
theorem opB0{g:Int->Int->Bool}
  (rule:∀(i j:Int)(t u:Tok)(s:Shared)(Q:Value->Shared->Prop)(E:Value->Shared->Prop),Q (.bool (g i j)) s->wpAny (model X.prog X.w) X.A (f (.int i t) (.int j u)) Q E s):
  OpR X f (rI0 fun i j=>.bl (g i j)):=by
 intro pins s σ H x y v u Q I rx ry h;obtain⟨i,j,rfl,rfl,q⟩:=h;obtain⟨t,rfl⟩:=rx;obtain⟨t',rfl⟩:=ry;exact rule i j t t' s _ _ ⟨.bl (g i j),H,I,rfl,q⟩
def CDiv(i j:Int):Prop:=0<j/\j<1073741824
def CPow(i j:Int):Prop:=0<=j/\j<=1000000/\i.natAbs<2^64
def CMul(i j:Int):Prop:=(-(2^64)<i/\i<2^64)\/(-(2^64)<j/\j<2^64)
theorem CMul.ok{i j:Int}(h:CMul i j):IntMulOk i j:=by
 rcases h with⟨h1,h2⟩|⟨h1,h2⟩
 ·exact .of_left (intBits_le_64 h1 h2)
 ·exact .of_right (intBits_le_64 h1 h2)
theorem op_add:OpR X (binaryOp .Add) (rI0 fun i j=>.int (i+j)):=opI0 fun _ _ _ _ _ _ _ q=>add_int q
theorem y5u:OpR X (binaryOp .Sub) (rI0 fun i j=>.int (i-j)):=opI0 fun _ _ _ _ _ _ _ q=>sub_int q
theorem y5v:OpR X (binaryOp .Mult) (rI CMul fun i j=>.int (i*j)):=opI fun _ _ _ _ _ _ _ hc q=>mul_int q hc.ok
theorem y2i:OpR X (binaryOp .FloorDiv) (rI CDiv fun i j=>.int (i / j)):=opI fun i j _ _ _ _ _ hc q=>by
 have h1:(0:Int)<j:=hc.1;have h2:j<1073741824:=hc.2;exact floordiv_int (by omega) (by rw[Int.fdiv_eq_ediv_of_nonneg i (by omega)];exact q) (.inl (PyProof.noPylong_small (by omega)))
theorem y5w:OpR X (binaryOp .Mod) (rI (fun _ j=>0<j) fun i j=>.int (i%j)):=opI fun i j _ _ _ _ _ hc q=>by
 have h1:(0:Int)<j:=hc;exact mod_int' (by omega) (by rw[Int.fmod_eq_emod_of_nonneg i (by omega)];exact q)
theorem y5x:OpR X (binaryOp .Pow) (rI CPow fun i j=>.int (i^j.toNat)):=opI fun _ _ _ _ _ _ _ hc q=>pow_int_small hc.1 hc.2.1 hc.2.2 q
end
section
variable{a b:Expr}{tb tc:TE}
theorem y1p:OpR X (compareOp .Lt) (rI0 fun i j=>.bl (decide (i<j))):=opB0 fun _ _ _ _ _ _ _ q=>lt_int q
theorem y1q:OpR X (compareOp .Gt) (rI0 fun i j=>.bl (decide (j<i))):=opB0 fun _ _ _ _ _ _ _ q=>gt_int q
theorem y1r:OpR X (compareOp .GtE) (rI0 fun i j=>.bl (decide (j<=i))):=opB0 fun _ _ _ _ _ _ _ q=>ge_int q
theorem OpR.or{r':R2}(h:OpR X f r)(h':OpR X f r'):OpR X f (fun x y H Q=>r x y H Q\/r' x y H Q):=by
 intro pins s σ H x y v u Q I rx ry q;rcases q with q|q
 ·exact h pins s σ H x y v u Q I rx ry q
 ·exact h' pins s σ H x y v u Q I rx ry q
theorem nomark(b:Expr)(h:op≠.In:=by decide)(h2:op≠.NotIn:=by decide):behindInMarks op b=false:=by
 have e1:(op==CmpOp.In)=false:=by cases op<;>first|rfl|exact absurd rfl h
 have e2:(op==CmpOp.NotIn)=false:=by cases op<;>first|rfl|exact absurd rfl h2
 cases b<;>simp[behindInMarks,e1,e2]
theorem y2j(ho:OpR X (compareOp op) r)(ha:PE X a ta)(hb:PE X b tb)(hm:behindInMarks op b=false):PE X (.Compare a [op] [b] pos) (tOp r ta tb):=by
 intro pins s σ H Q I h;exact wpAny_Compare1 (binT ha hb I h fun v u s2 x y H2 I2 rx ry q=>ho pins s2 σ H2 x y v u Q I2 rx ry q) hm
def tTest(t:TE):TT:=fun σ H Q=>t σ H fun x H'=>∃k,x=.bl k/\Q k H'
theorem y2k(ho:OpR X (compareOp op) r)(ha:PE X a ta)(hb:PE X b tb)(hm:behindInMarks op b=false):PT X (.Compare a [op] [b] pos) (tTest (tOp r ta tb)):=by
 intro pins s σ H Q I h
 refine wpAny_isTrue_Compare1 (thn (ha pins s σ H _ I h) fun v s1 ⟨x,H1,I1,r1,q1⟩=>thn (hb pins s1 σ H1 _ I1 q1) fun u s2 ⟨y,H2,I2,r2,q2⟩=>
  thn (ho pins s2 σ H2 x y v u _ I2 r1 r2 q2) fun c s3 ⟨z,H3,I3,r3,k,e,q3⟩=>?_) hm
 subst e;cases r3;exact wpAny_truthy_bool ⟨H3,I3,q3⟩
def TruV(K:PySem.W.Frag)(x:V)(H:Hp)(k:Bool):Prop:=
 match x with
 |.non=>k=false
 |.bl b=>k=b
 |.int i=>k=(i != 0)
 |.str y=>y.length<=sizeLine/\k=((y.length:Int) != 0)
 |.byt y=>y.size<=sizeLine/\k=((y.size:Int) != 0)
 |.ref p=>(∃xs,SqL K H p xs/\k=!xs.isEmpty)\/(∃xs,SqT K H p xs/\k=!xs.isEmpty)\/∃kvs,H p=some (.dK kvs)/\k=!kvs.isEmpty
 |_=>False
theorem x4s{κ:Type}{kvs:List (κ×V)}{vs:List (κ×Value)}(r:KV kvs vs):(!vs.isEmpty)=!kvs.isEmpty:=by
 cases r<;>rfl
theorem q87{its:List Value}(r:Vals xs its):(!its.toArray.isEmpty)=!xs.isEmpty:=by
 cases r<;>simp
theorem line63:(sizeLine:Nat)<2^63:=by rw[sizeLine_eq];decide
theorem y5y:TruR X (fun x H Q=>∃k,TruV X.K x H k/\Q k H):=by
 intro pins s σ H x v Q I rx h;obtain⟨k,e,q⟩:=h;have hl:=line63;have hs:sizeLine=16777216:=sizeLine_eq;cases x with
 |non=>
  cases rx;have e':k=false:=e;subst e';exact truthy_none ⟨H,I,q⟩
 |bl b=>
  cases rx;have e':k=b:=e;subst e';exact wpAny_truthy_bool ⟨H,I,q⟩
 |int i=>
  obtain⟨t,rfl⟩:=rx;have e':k=(i != 0):=e;subst e';exact PySem.P.truthy_int ⟨H,I,q⟩
 |str y=>
  obtain⟨t,rfl⟩:=rx;obtain⟨hy,e'⟩:y.length<=sizeLine/\k=((y.length:Int) != 0):=e;subst e';exact PySem.P.truthy_str (by omega) ⟨H,I.tok _,q⟩
 |byt y=>
  obtain⟨t,rfl⟩:=rx;obtain⟨hy,e'⟩:y.size<=sizeLine/\k=((y.size:Int) != 0):=e;subst e';exact PySem.W.truthy_bytes (by omega) ⟨H,I.tok _,q⟩
 |ref p=>
  cases rx;have e':(∃xs,SqL X.K H p xs/\k=!xs.isEmpty)\/(∃xs,SqT X.K H p xs/\k=!xs.isEmpty)\/∃kvs,H p=some (.dK kvs)/\k=!kvs.isEmpty:=e;rcases e' with⟨xs,hx,e'⟩|⟨xs,hx,e'⟩|⟨kvs,hx,e'⟩
  ·subst e';obtain⟨its,r,pl,hz⟩:=I.list hx;have hlen:=r.length;exact wpAny_truthy_list pl.isList (by simp only[w0c];omega) ⟨H,I.tok _,by rw[q87 r];exact q⟩
  ·subst e';obtain⟨its,r,pl,hz⟩:=I.tuple hx;have hlen:=r.length;exact truthy_tuple pl (by simp only[w0c];omega) ⟨H,I.tok _,by rw[q87 r];exact q⟩
  ·subst e';obtain⟨hz,hS,vs,r,m⟩:kvs.length<=sizeLine/\(p==sysModules)=false/\∃vs,KV kvs vs/\s.heap.DictOf (mixKind X.prog X.w) p vs:=I.hok p _ hx;have hlen:kvs.length=vs.length:=Paired.length r;exact wpAny_truthy_dict hS m (by omega) ⟨H,I.tok _,by rw[x4s r];exact q⟩
 |_=>exact(show False from e).elim
theorem x86(ha:PE X a ta)(he:∀whole,isTrue a X.env whole=(do let v <- whole;standAt a.pos;holding [v] (truthy v))):
  PT X a (fun σ H Q=>ta σ H fun x H'=>∃k,TruV X.K x H' k/\Q k H'):=by
 intro pins s σ H Q I h;exact isTrue_plain (thn (ha pins s σ H _ I h) fun v s1 ⟨x,H1,I1,r1,q1⟩=>y5y pins s1 σ H1 x v Q I1 r1 q1) (he _)
theorem op_add_str:OpR X (binaryOp .Add) (fun x y H Q=>∃i j,x=.str i/\y=.str j/\i.length+j.length<=sizeLine/\Q (.str (i++j)) H):=by
 intro pins s σ H x y v u Q I rx ry h;obtain⟨i,j,rfl,rfl,hz,q⟩:=h;obtain⟨t,rfl⟩:=rx;obtain⟨t',rfl⟩:=ry;exact add_str (fun t' tk=>⟨.str (i++j),H,I.tok _,⟨_,rfl⟩,q⟩) hz
theorem vals1{x:V}(r:Vals [x] us):∃u,us=[u]/\RelV x u:=by
 cases r with
 |cons r1 r2=>cases r2;exact⟨_,rfl,r1⟩
theorem vals2{x y:V}(r:Vals [x,y] us):∃u w',us=[u,w']/\RelV x u/\RelV y w':=by
 cases r with
 |cons r1 r2=>
  cases r2 with
  |cons r3 r4=>cases r4;exact⟨_,_,rfl,r1,r3⟩
theorem x6g:CallR X (.type "int") (fun xs H Q=>(∃i,xs=[.int i]/\Q (.int i) H)\/∃k,xs=[.bl k]/\Q (.int (if k then 1 else 0)) H):=by
 intro pins s σ H xs us Q I r h;rcases h with⟨i,rfl,q⟩|⟨k,rfl,q⟩
 ·obtain⟨u,rfl,t,rfl⟩:=vals1 r;exact call_int_int ⟨.int i,H,I,⟨_,rfl⟩,q⟩
 ·obtain⟨u,rfl,r1⟩:=vals1 r;cases r1;exact call_int_bool ⟨.int (if k then 1 else 0),H,I.tok _,⟨_,rfl⟩,q⟩
def LenV(K:PySem.W.Frag)(x:V)(H:Hp)(n:Nat):Prop:=
 match x with
 |.str y=>y.length<=sizeLine/\n=y.length
 |.byt y=>y.size<=sizeLine/\n=y.size
 |.ref p=>(∃xs,SqL K H p xs/\n=xs.length)\/∃xs,SqT K H p xs/\n=xs.length
 |_=>False
theorem x16:CallR X (.builtin "len") (fun xs H Q=>∃x n,xs=[x]/\LenV X.K x H n/\Q (.int n) H):=by
 intro pins s σ H xs us Q I r h;obtain⟨x,n,rfl,e,q⟩:=h;obtain⟨u,rfl,rx⟩:=vals1 r;have hl:=line63;have hs:sizeLine=16777216:=sizeLine_eq;cases x with
 |str y=>
  obtain⟨t,rfl⟩:=rx;obtain⟨hy,e'⟩:y.length<=sizeLine/\n=y.length:=e;subst e';exact len_str (by omega) ⟨.int _,H,I.tok _,⟨_,rfl⟩,q⟩
 |byt y=>
  obtain⟨t,rfl⟩:=rx;obtain⟨hy,e'⟩:y.size<=sizeLine/\n=y.size:=e;subst e';exact PySem.W.len_bytes (by omega) ⟨.int _,H,I.tok _,⟨_,rfl⟩,q⟩
 |ref p=>
  cases rx;have e':(∃xs,SqL X.K H p xs/\n=xs.length)\/∃xs,SqT X.K H p xs/\n=xs.length:=e;rcases e' with⟨xs,hx,e'⟩|⟨xs,hx,e'⟩
  ·subst e';obtain⟨its,r',pl,hz⟩:=I.list hx;have hlen:=r'.length;exact Calls.call_len_list pl.isList (by simp only[w0c];omega) ⟨.int xs.length,H,I.tok _,⟨_,by simp only[w0c];rw[hlen]⟩,q⟩
  ·subst e';obtain⟨its,r',pl,hz⟩:=I.tuple hx;have hlen:=r'.length;exact len_tuple pl (by simp only[w0c];omega) ⟨.int xs.length,H,I.tok _,⟨_,by simp only[w0c];rw[hlen]⟩,q⟩
 |_=>exact(show False from e).elim
end
structure ObjM(h:Heap)(x dx C:Addr)(mA:Str->Option Value):Prop where
 obj:h.get? x=some (PySem.W.instObj C dx)
 ns:h.Ns1 dx mA
 ne:dx≠x
theorem RelO.some_of{v:V}{o:Option Value}(r:RelO (some v) o):∃u,o=some u/\RelV v u:=by
 cases o with
 |none=>exact(show False from r).elim
 |some u=>exact⟨u,rfl,r⟩
structure Cls(K:PySem.W.Frag)(C:Addr):Prop where
 pg:PySem.W.plainGet K C Str.empty=true
 hd:PySem.W.hasDictIn K C=true
 po:PySem.W.plainOver K C=true
 sa:findIn K (.ref C) "__setattr__"=some (some (.builtin "object.__setattr__"))
structure Con(K:PySem.W.Frag)(C:Addr)(f:Str)(v:V)(u:Value):Prop where
 at_:findIn K (.ref C) f=some (some u)
 rel:RelV v u
 get:specialIn K u "__get__"=some none
 cp:PySem.W.copiedNames.contains f=false
structure Meth(K:PySem.W.Frag)(C:Addr)(m:Str)(f:Addr):Prop where
 at_:findIn K (.ref C) m=some (some (.ref f))
 fn:PySem.W.isFn K (.ref f)=true
 kp:keepIn K (.ref f)=true
section
variable{Q:Value->Shared->Prop}{c:Value}{b:Bool}
inductive TyOf(K:PySem.W.Frag)(H:Hp):V->Value->Prop where
 |non:TyOf K H .non (.type "NoneType")
 |bl (x:Bool):TyOf K H (.bl x) (.type "bool")
 |int (i:Int):TyOf K H (.int i) (.type "int")
 |str (x:Str):TyOf K H (.str x) (.type "str")
 |flt (x:UInt64):TyOf K H (.flt x) (.type "float")
 |lst {a:Addr} {xs:List V} (e:H a=some (.lst xs)):TyOf K H (.ref a) (.type "list")
 |frz {a:Addr} {o:Obj} {xs:List V} (e:H a=some (.frz o (.lst xs))):TyOf K H (.ref a) (.type "list")
 |tup {a:Addr} {xs:List V} (e:H a=some (.tup xs)):TyOf K H (.ref a) (.type "tuple")
 |dK {a:Addr} {kvs:List (Key×V)} (e:H a=some (.dK kvs)):TyOf K H (.ref a) (.type "dict")
 |dT {a:Addr} {sh:Sh} {kvs:List (Kx×V)} {kas:List Addr} (e:H a=some (.dT sh kvs kas)):TyOf K H (.ref a) (.type "dict")
 |ins {a C dx:Addr} {fs:List (Str×V)} (e:H a=some (.ins C dx fs)) (cl:Cls K C) (ha:findIn K (.ref C) "__class__"=some (some (.builtin "object.__class__")))
   (hn:specialIn K (.builtin "object.__class__") "__get__"=some (some (.builtin "getset_descriptor.__get__"))) (htk:takesIn K (.builtin "object.__class__")=some true)
   (hm:PySem.W.mroIn K C (.type "object")=some true):TyOf K H (.ref a) (.ref C)
end
structure Room(k:Nat)(A:Around):Prop where
 hd:A.handled=none
 dp:A.depth+3*k+5<recursionLimit
 un:A.units+16*k+200<cLine
 gd:A.guards=some []
theorem Room.deeper(r:Room (k+1) A)(env:Env):Room k (A.deeper env):=
 ⟨r.hd,by have:=r.dp;show A.depth+1+3*k+5<_;omega,by have:=r.un;show A.units+3+16*k+200<_;omega,r.gd⟩
theorem Room.depth(r:Room k A):A.depth<recursionLimit:=by have:=r.dp;omega
def tNil:TA:=fun _ H Q=>Q [] H
def tCons(ta:TE)(tr:TA):TA:=fun σ H Q=>ta σ H fun x H1=>tr σ H1 fun xs H2=>Q (x::xs) H2
section
variable{t:TA}
theorem q88:PA X [] tNil:=fun _ _ _ _ H Q I h=>Calls.spliced_nil ⟨[],H,I,.nil,h⟩
theorem q50(ha:PE X e te)(hr:PA X es t)(hs:starEach (e::es) X.env=(false,eval e X.env)::starEach es X.env:=by rfl):PA X (e::es) (tCons te t):=by
 intro pos pins s σ H Q I h;rw[hs];show wpAny _ _ (spliced ((false,eval e X.env)::backTo pos (starEach es X.env))) _ _ s;refine Calls.spliced_cons (thn (ha pins s σ H _ I h) fun u s1 ⟨x,H1,I1,r1,q1⟩=>?_)
 exact thn (hr pos pins s1 σ H1 _ I1 q1) fun us s2 ⟨xs,H2,I2,r2,q2⟩=>⟨x::xs,H2,I2,.cons r1 r2,q2⟩
def tTup(t:TA):TE:=fun σ H Q=>t σ H fun xs H1=>xs.length<=sizeLine/\∀p,H1 p=none->Q (.ref p) (upd H1 p (.tup xs))
def tLst(t:TA):TE:=fun σ H Q=>t σ H fun xs H1=>xs.length<=sizeLine/\∀p,H1 p=none->Q (.ref p) (upd H1 p (.lst xs))
theorem y5z{x1}(h:PA X es t):PE X (.Tuple es x1 pos) (tTup t):=by
 intro pins s σ H Q I hq;refine wpAny_Tuple_spliced (thn (h pos pins s σ H _ I hq) fun us s1 ⟨xs,H1,I1,r,z,q⟩=>⟨by rw[<- r.length];exact z,?_⟩)
 have hf:H1 s1.heap.objs.size=none:=I1.hok.fresh (w0e _);refine⟨.ref s1.heap.objs.size,upd H1 s1.heap.objs.size (.tup xs),I1.laid (t':=s1.toks) (fun b u e=>Heap.get?_push_of_some _ e) (w0e _) ?_,rfl,q _ hf⟩
 exact⟨z,us,r,⟨_,Heap.get?_push_size _ rfl,rfl,_,rfl⟩,⟨_,Heap.get?_push_size _ rfl,rfl⟩⟩
theorem y50(h:PA X es t):PE X (.List es pos) (tLst t):=by
 intro pins s σ H Q I hq;refine wpAny_List_spliced (thn (h pos pins s σ H _ I hq) fun us s1 ⟨xs,H1,I1,r,z,q⟩=>⟨by rw[<- r.length];exact z,?_⟩)
 have hf:H1 s1.heap.objs.size=none:=I1.hok.fresh (w0e _);refine⟨.ref s1.heap.objs.size,upd H1 s1.heap.objs.size (.lst xs),I1.laid (t':=s1.toks) (fun b u e=>Heap.get?_push_of_some _ e) (w0e _) ?_,rfl,q _ hf⟩
 exact⟨z,us,0,r,Heap.get?_push_size _ rfl⟩
end
abbrev Sp:=List V->Hp->VK->XK->Prop
variable{sp:Sp}
abbrev CXT:=List Env->Hp->Shared->XK->Value->Shared->Prop
variable{CX:CXT}
structure Env0(P:Program)(w:World)(K:PySem.W.Frag)(mg:Str->Option Value)(base:Heap)(A:Around)(outer:List Env)(s:Shared)(H:Hp):Prop where
 frames:A.frames=some outer
 mod:Mod K mg base
 bs:∀b o,base.get? b=some o->s.heap.get? b=some o/\H b=none
 bsz:base.objs.size<=s.heap.objs.size
 funs:s.heap.FunFrames base outer
 frf:∀b∈frs outer,H b=none
 hok:HOk P w H s.heap
 bare:AllBare s.gens
 tab:TabOk K H
def CE(outer:List Env)(P:Program)(w:World)(H:Hp)(s:Shared)(Q:VK)(u:Value)(s':Shared):Prop:=
 ∃v H',s'.os=s.os/\AllBare s'.gens/\Un (frs outer) [] H H' s.heap s'.heap/\HOk P w H' s'.heap/\RelV v u/\Q v H'
def CR(CX:CXT)(outer:List Env)(P:Program)(w:World)(H:Hp)(s:Shared)(Q:VK)(E:XK)(r:Result)(s':Shared):Prop:=
 match r with
 |.ok (.ret u)=>CE outer P w H s Q u s'
 |.ok _=>False
 |.error e=>CX outer H s E e s'
structure FnOk(P:Program)(w:World)(K:PySem.W.Frag)(mg:Str->Option Value)(base:Heap)(CX:CXT)(k:Nat)(f:Addr)(fd:FuncData)(ps:List Str)(sp:Sp):Prop where
 len:∀vs H Q E,sp vs H Q E->vs.length=ps.length
 run:∀(A:Around)(outer:List Env)(s:Shared)(H:Hp)(args:Args)(us:List Value)(vs:List V)(Q:VK)(E:XK),Room k A->Env0 P w K mg base A outer s H->BindsTo s fd args (ps.zip us)->Vals vs us->sp vs H Q E ->
  codeAny (model P w) A (.call (.ref f) args) (CR CX outer P w H s Q E) s
theorem FnOk.imp{f:Addr}{sp':Sp}(F:FnOk P w K mg base CX k f fd ps sp)
  (h:∀vs H Q E,sp' vs H Q E->sp vs H Q E):FnOk P w K mg base CX k f fd ps sp':=
 ⟨fun vs H Q E q=>F.len vs H Q E (h _ _ _ _ q),fun A outer s H args us vs Q E hr he hb hv hs=>F.run A outer s H args us vs Q E hr he hb hv (h _ _ _ _ hs)⟩
section
variable{s':Shared}
theorem Inv.env0(I:Inv X pins σ H s):Env0 X.prog X.w X.K X.mg X.base X.A X.stack s H:=
 ⟨I.ok.frames,I.ok.mod,I.bs,w0w I.ok.bsz I.sz,I.stack,I.stkFree,I.hok,I.bare,I.ok.tab.un I.base⟩
theorem Inv.after{Q:VK}(I:Inv X pins σ H s)(h:CE X.stack X.prog X.w H s Q u s'):EP X pins σ Q u s':=by
 obtain⟨v,H',os,bare,un,hok,r,q⟩:=h;obtain⟨hh,g,d,t,os'⟩:=s';obtain rfl:os'=s.os:=os;exact⟨v,H',I.call (h':=hh) (g':=g) (d':=d) (t':=t) (ch:=[]) un hok bare (fun b z=>absurd z (by simp)),r,q⟩
end
def tCall(sp:Sp)(dvs:List V)(E:XK)(t:TA):TE:=fun σ H Q=>t σ H fun vs H1=>sp (vs++dvs) H1 Q E
def Binds(K:PySem.W.Frag)(fd:FuncData)(ps:List Str)(ds:List Value):Prop:=
 ∀(s:Shared)(us:List Value),K.In s.heap->(us++ds).length=ps.length->BindsTo s fd ⟨us,[]⟩ (ps.zip (us++ds))
theorem Binds.all(h:∀us:List Value,us.length=ps.length->bindArgs fd ⟨us,[]⟩=pure (ps.zip us)):Binds K fd ps []:=fun s us _ hl=>by
 rw[w0x]at hl |-
 exact .of_eq (h us hl)
section
variable{f C:Addr}{dvs:List V}{ds:List Value}{E:XK}{m:Str}{apos:Pos}{o:Expr}{t:TA}
structure Mk(K:PySem.W.Frag)(C f:Addr):Prop where
 makes:PySem.W.makesIn K C=true
 init:findIn K (.ref C) "__init__"=some (some (.ref f))
 fn:PySem.W.isFn K (.ref f)=true
 kp:keepIn K (.ref C)=true
end
section
variable{f C:Addr}{ks:List Str}{E:XK}{m:Str}{apos kpos:Pos}{o:Expr}{kws:List Keyword}{t tk:TA}{nm:Option Str}
structure KBinds(K:PySem.W.Frag)(fd:FuncData)(ps ks:List Str)(g:List Value->List Value->List Value)(gV:List V->List V->List V):Prop where
 to:∀(s:Shared)(us ws:List Value),K.In s.heap->(g us ws).length=ps.length->BindsTo s fd ⟨us,ks.zip ws⟩ (ps.zip (g us ws))
 rel:∀{vs:List V}{us:List Value}{zs:List V}{ws:List Value},Vals vs us->Vals zs ws->Vals (gV vs zs) (g us ws)
variable{g:List Value->List Value->List Value}{gV:List V->List V->List V}
end
structure FnScope(N P:List Str)(sc:Scope):Prop where
 kind:sc.kind=.function
 co:sc.isCoroutine=false
 gen:sc.isGenerator=false
 nd:N.Nodup
 pre:N.take P.length=P
 par:∀x∈P,sc.names.lookup x=some .local\/sc.names.lookup x=some .cell
 nofree:∀y∈sc.names,y.2≠.free
theorem x0p{kindOf:Str->Option NameKind}:∀{binds:List (Str×Value)}{m:Str->Option Value},(∀v,(x,v)∉binds)->bindL kindOf binds m x=m x
 |[],_,_=>rfl
 |(n,v)::r,m,h=>by
  unfold bindL;rw[x0p fun w hw=>h w (w0z _ hw)]
  split
  ·have:x≠n:=by rintro rfl;exact h v w1j
   simp[this]
  ·rfl
theorem x0q{kindOf:Str->Option NameKind}:∀{binds:List (Str×Value)}{m:Str->Option Value},(∀v,(x,v)∉binds)->bindC kindOf binds m x=m x
 |[],_,_=>rfl
 |(n,v)::r,m,h=>by
  unfold bindC;rw[x0q fun w hw=>h w (w0z _ hw)]
  split
  ·rfl
  ·have:x≠n:=by rintro rfl;exact h v w1j
   simp[this]
theorem x0r{kindOf:Str->Option NameKind}{x:Str}{v:Value}:∀{P:List Str}{vs:List Value}{i:Nat}{m:Str->Option Value},P.Nodup->P[i]?=some x->vs[i]?=some v->kindOf x=some .local ->
  bindL kindOf (P.zip vs) m x=some v
 |[],_,_,_,_,h,_,_=>by simp at h
 |_::_,[],_,_,_,_,h,_=>by simp at h
 |p::P,w::vs,0,m,nd,h1,h2,hk=>by
  simp at h1 h2;subst h1;subst h2;show bindL kindOf ((p,w)::P.zip vs) m p=_;unfold bindL;rw[x0p fun v hv=>(w3b.mp nd).1 (w3c hv).1,if_pos hk]
  simp
 |p::P,w::vs,i+1,m,nd,h1,h2,hk=>by
  show bindL kindOf ((p,w)::P.zip vs) m x=_;unfold bindL;exact x0r (i:=i) (w3b.mp nd).2 (by simpa using h1) (by simpa using h2) hk
theorem x0s{kindOf:Str->Option NameKind}{x:Str}{v:Value}:∀{P:List Str}{vs:List Value}{i:Nat}{m:Str->Option Value},P.Nodup->P[i]?=some x->vs[i]?=some v->kindOf x≠some .local ->
  bindC kindOf (P.zip vs) m x=some v
 |[],_,_,_,_,h,_,_=>by simp at h
 |_::_,[],_,_,_,_,h,_=>by simp at h
 |p::P,w::vs,0,m,nd,h1,h2,hk=>by
  simp at h1 h2;subst h1;subst h2;show bindC kindOf ((p,w)::P.zip vs) m p=_;unfold bindC;rw[x0q fun v hv=>(w3b.mp nd).1 (w3c hv).1,if_neg hk]
  simp
 |p::P,w::vs,i+1,m,nd,h1,h2,hk=>by
  show bindC kindOf ((p,w)::P.zip vs) m x=_;unfold bindC;exact x0s (i:=i) (w3b.mp nd).2 (by simpa using h1) (by simpa using h2) hk
noncomputable def start(N:List Str)(vs:List V):St:=vs.map some++List.replicate (N.length-vs.length) none
noncomputable def cxOf(CX:CXT)(P:Program)(w:World)(K:PySem.W.Frag)(mg:Str->Option Value)(base:Heap)(N:List Str)(qual:Str)(scope:Scope)(f:Addr)(cd:Value)(A:Around)(outer:List Env)(s:Shared)(H:Hp)(E:XK):Cx where
 prog:=P
 w:=w
 K:=K
 mg:=mg
 base:=base
 A:=A.deeper (envOfC qual scope s.heap.objs.size f cd)
 N:=N
 s₀:=s
 H₀:=H
 env:=envOfC qual scope s.heap.objs.size f cd
 outer:=outer
 stack:=envOfC qual scope s.heap.objs.size f cd::outer
 ex:=[]
 calm:=true
 fn:=fun _=>true
 pn:=[]
 xe:=fun e s'=>wpAny (model P w) (A.deeper (envOfC qual scope s.heap.objs.size f cd)) (leaving (envOfC qual scope s.heap.objs.size f cd) e) (fun _ s''=>CX outer H s E e s'') (fun e' s''=>CX outer H s E e' s'') s'
theorem x17{sc:Scope}{n:Nat}(h:sc.names.lookup x=some .cell):∃c,(cellsFrom n sc.names []).lookup x=some c:=by
 have q:=cellsFrom_some sc.names n [] (.inl h);exact w3j.mp q
theorem x0t{qual:Str}{scope:Scope}{f:Addr}{cd:Value}{outer:List Env}{s1:Shared}{E:XK}{vs:List V}
  (S:FnScope N ps scope)(hd:A.handled=none)(e0:Env0 P w K mg base A outer s H)(hl:vs.length=ps.length)(r:Vals vs us)
  (x:InCallC s s.heap.objs.size (bindL (envOfC qual scope s.heap.objs.size f cd).kindOf (ps.zip us) fun _=>none) (cellsFrom (s.heap.objs.size+1) scope.names []) (bindC (envOfC qual scope s.heap.objs.size f cd).kindOf (ps.zip us) fun _=>none) s1):
  Inv (cxOf CX P w K mg base N qual scope f cd A outer s H E) [] (start N vs) H s1:=by
 have hpl:ps.length<=N.length:=by have:=congrArg List.length S.pre;rw[w2j]at this;omega
 obtain⟨h1,tk,rfl,hk⟩:=x.done;have noA:∀b:Addr,b∉(cxOf CX P w K mg base N qual scope f cd A outer s H E).ex:=fun b z=>absurd (show b∈([]:List Addr)from z) (by simp)
 refine⟨⟨e0.mod,S.kind,rfl,rfl,w0e _,fun y z c h1 h2=>?_,fun y hy=>?_,fun y c _ h=>?_,fun _=>hd,Around.frames_deeper e0.frames,.inr ⟨rfl,rfl⟩,fun b z=>absurd z (noA b),e0.bs,e0.bsz,fun b _ _=>noA b,fun b z=>absurd z (noA b),e0.funs,e0.frf,e0.tab⟩,
  rfl,e0.bare,Un.kept hk,⟨_,x.toInCall.ns,fun i y v h1 h2 h3=>?_⟩,fun y c h=>⟨_,x.cell y c h⟩,e0.hok.fresh (w0e _),fun y c h=>?_,fun p hp=>absurd (show p∈([]:List (Addr×Obj))from hp) (by simp),e0.hok.kept hk,?_⟩
 ·exact name_of_addr x.apart (PySem.mem_of_lookup h1) (PySem.mem_of_lookup h2)
 ·have hy:scope.names.lookup y=some .cell\/scope.names.lookup y=some .free:=hy;rcases hy with hy|hy
  ·exact x17 hy
  ·exact absurd rfl (S.nofree _ (PySem.mem_of_lookup hy))
 ·exact w2v (x.above y c (PySem.mem_of_lookup h))
 ·have hi:i<vs.length:=by
   unfold start at h2
   by_cases hi:i<vs.length
   ·exact hi
   ·rw[w1n (by simpa using hi)]at h2;rw[w1y]at h2;split at h2<;>cases h2
  have ha:vs[i]?=some v:=by
   unfold start at h2;rw[w1d (by simpa using hi),w0r]at h2;cases e:vs[i]? with
   |none=>rw[e]at h2;cases h2
   |some a=>rw[e]at h2;cases h2;rfl
  obtain⟨u,hu,rv⟩:=r.get ha
  have hp:ps[i]?=some y:=by
   rw[<- S.pre,List.getElem?_take_of_lt (by omega)];exact h1
  have ndP:ps.Nodup:=by rw[<- S.pre];exact S.nd.sublist (List.take_sublist _ _)
  refine⟨u,rv,?_⟩;rcases S.par y (w0v hp)with k|k
  ·exact .inl ⟨k,x0r ndP hp hu k⟩
  ·obtain⟨c,e⟩:=x17 (n:=s.heap.objs.size+1) k;refine .inr ⟨.inl k,c,e,?_⟩;have q:=x.cell y c e;rw[x0s ndP hp hu (by show scope.names.lookup y≠_;rw[k];decide)]at q;exact q
 ·exact e0.hok.fresh (w2v (x.above y c (PySem.mem_of_lookup h)))
 ·unfold start;show _=N.length;rw[w0q,w0a,w2w];omega
theorem y1s{f:Addr}{name qual:Str}{params:Arguments}{body:List Stmt}{scope:Scope}{dV kV doc pm cdv ct oc:Value}{an od:Option Addr}
  {osl:Array (Option Value)}(lk:K.lookup f=some ⟨oc,od,.func (PySem.W.fnOf name qual params body scope dV kV doc pm an cdv ct),osl⟩)(hcd:PySem.W.codeIn K cdv qual=true)(S:FnScope N ps scope)
  (len:∀vs H Q E,sp vs H Q E->vs.length=ps.length)
  (hbody:∀(A:Around)(outer:List Env)(s:Shared)(H:Hp)(vs:List V)(Q:VK)(E:XK),Room k (A.deeper (envOfC qual scope s.heap.objs.size f cdv))->sp vs H Q E ->
   ∃t,PSs (cxOf CX P w K mg base N qual scope f cdv A outer s H E) body t/\t {nx:=fun _ H'=>Q .non H',rt:=Q} (start N vs) H):
  FnOk P w K mg base CX (k+1) f (PySem.W.fnOf name qual params body scope dV kV doc pm an cdv ct) ps sp:=by
 refine⟨len,fun A outer s H args us vs Q E hr e0 hb r hsp=>?_⟩
 have hl:=len _ _ _ _ hsp;have KX:K.In s.heap:=e0.mod.kin.keeps fun b o e=>(e0.bs b o e).1
 have lim:s.heap.NoLimit:=e0.mod.nolimit.keeps fun b o e=>(e0.bs b o e).1
 have hkind:∀y∈ps.zip us,scope.names.lookup y.1=some .local\/(scope.names.lookup y.1=some .cell/\((cellsFrom (s.heap.objs.size+1) scope.names []).lookup y.1).isSome=true):=fun⟨n,v⟩ hy=>by
  rcases S.par n (w3c hy).1 with q|q
  ·exact .inl q
  ·exact .inr ⟨q,cellsFrom_some _ _ _ (.inl q)⟩
 refine codeAny_call_function hr.depth (KX _ _ lk) rfl S.co S.gen rfl (PySem.W.codeRec_of KX hcd) (hb _ _ _ _ ?_)
 refine wpAny_newFunctionEnv_cells S.kind hkind fun env he s1 x=>?_
 subst he;refine⟨lim.keeps x.toInCall.keep,codeAny_func ?_⟩
 obtain⟨t,ht,hq⟩:=hbody A outer s H vs Q E (hr.deeper _) hsp;have I:Inv (cxOf CX P w K mg base N qual scope f cdv A outer s H E) [] (start N vs) H s1:=x0t S hr.hd e0 hl r x;refine wpAny_mono (ht [] s1 (start N vs) H _ I hq) (fun fl s' hs=>?_) fun e s' hs=>hs
 have fin:∀{σ':St}{H':Hp}{v:V}{u:Value},Inv (cxOf CX P w K mg base N qual scope f cdv A outer s H E) [] σ' H' s'->RelV v u->Q v H'->CE outer P w H s Q u s':=
  fun {σ' H' v u} J rv q=>⟨v,H',J.os,J.bare,J.base,J.hok,rv,q⟩
 cases fl with
 |ret u=>
  obtain⟨v,σ',H',J,rv,q⟩:=hs;exact fin J rv q
 |next=>
  obtain⟨σ',H',J,q⟩:=hs;exact fin (v:=V.non) (u:=Value.none) J rfl q
 |brk=>
  obtain⟨_,_,_,q⟩:=hs;exact False.elim q
 |cont=>
  obtain⟨_,_,_,q⟩:=hs;exact False.elim q
section
variable{t:TA}{id T:String}{r:List V->Hp->VK->Prop}
def tCB(r:List V->Hp->VK->Prop)(t:TA):TE:=fun σ H Q=>t σ H fun vs H1=>r vs H1 Q
theorem q8j(hc:CallR X (.builtin id) r)(hg:Gl X x)(hm:X.mg x=none)(hv:bootBuiltins x=some (.builtin id))(ha:PA X (e::es) t)(hn:x≠"__name__":=by decide)(hdb:(x==("__debug__":Str))=false:=by decide)
  (he:starEach (e::es) X.env=(false,eval e X.env)::starEach es X.env:=by rfl)(hpl:(backTo pos (starEach es X.env)).any (·.1)=false:=by rfl):PE X (.Call (.Name x p) (e::es) [] pos) (tCB r t):=by
 intro pins s σ H Q I h;refine wpAny_Call_Name_kw (q4p I hg hm hv ?_ hn hdb);exact PyProof.Rows.callWith_builtin1 (thn (ha pos pins s σ H _ I h) fun us s1 ⟨vs,H1,I1,r1,q1⟩=>hc pins s1 σ H1 vs us Q I1 r1 q1) he hpl
theorem x0u(hc:CallR X (.type T) r)(hg:Gl X x)(hm:X.mg x=none)(hv:bootBuiltins x=some (.type T))(ha:PA X (e::es) t)(hn:x≠"__name__":=by decide)(hdb:(x==("__debug__":Str))=false:=by decide)
  (he:starEach (e::es) X.env=(false,eval e X.env)::starEach es X.env:=by rfl)(hpl:(backTo pos (starEach es X.env)).any (·.1)=false:=by rfl):PE X (.Call (.Name x p) (e::es) [] pos) (tCB r t):=by
 intro pins s σ H Q I h;refine wpAny_Call_Name_kw (q4p I hg hm hv ?_ hn hdb);exact PyProof.Rows.callWith_type1 (thn (ha pos pins s σ H _ I h) fun us s1 ⟨vs,H1,I1,r1,q1⟩=>hc pins s1 σ H1 vs us Q I1 r1 q1) he hpl
end
end L2
namespace HT
open PySem PyProof.Rows
section
variable{prog:Program}{w:World}{A:Around}{E:Value->Shared->Prop}{s:Shared}
theorem cat_tup{t b:Addr}{vs ws:List Value}{Q:Value->Shared->Prop}(ht:IsTup s.heap t vs.toArray)(hb:IsTup s.heap b ws.toArray)(hv:vs≠[])
  (h1:ws=[]->Q (.ref t) s)(h2:ws≠[]->Q (.ref s.heap.objs.size) {s with heap:=s.heap.push {cls:=.type "tuple", data:=.seq (vs++ws).toArray}})
  (hsz:vs.length+ws.length<=sizeLine):wpAny (model prog w) A (binaryOp .Add (.ref t) (.ref b)) Q E s:=by
 obtain⟨⟨cls,dd,data,sl⟩,ho,hc,n,hd⟩:=id ht;obtain⟨⟨cls2,dd2,data2,sl2⟩,ho2,hc2,n2,hd2⟩:=id hb;simp only at hc hd hc2 hd2;subst hc hd hc2 hd2;have e:vs.toArray++ws.toArray=(vs++ws).toArray:=by simp
 by_cases hw:ws=[]
 ·exact concat_meets ⟨_,ho,rfl⟩ ⟨_,ho2,rfl⟩ noFill_tuple_add seq_tuple_add PySem.F.slot_tuple_add PySem.F.entry_tuple_add (PySem.F.args_tuple_add_2 _ _)
   (tuple_addW1 t b vs.toArray ws.toArray n n2 dd dd2 sl sl2 (by simpa using hv) (by simp[hw])) ⟨ho,ho2,h1 hw⟩
 ·refine concat_meets ⟨_,ho,rfl⟩ ⟨_,ho2,rfl⟩ noFill_tuple_add seq_tuple_add PySem.F.slot_tuple_add PySem.F.entry_tuple_add (PySem.F.args_tuple_add_2 _ _)
   (tuple_addW2 t b vs.toArray ws.toArray n n2 dd dd2 sl sl2 (by simpa using hv) (by simpa using hw) (by rw[w0c,w0c];exact hsz)) ⟨ho,ho2,?_⟩
  rw[e];exact h2 hw
noncomputable def sIx(n d:Nat):Option Int->Nat
 |none=>d
 |some v=>if v<0 then(v+(n:Int)).toNat else min v.toNat n
theorem y51(n d:Nat)(hd:d<=n)(o:Option Int):sIx n d o<=n:=by
 cases o with
 |none=>exact hd
 |some v=>
  show(if v<0 then(v+(n:Int)).toNat else min v.toNat n)<=n
  by_cases hv:v<0
  ·rw[if_pos hv];omega
  ·rw[if_neg hv];exact w3n _ _
theorem x31(v:Int)(n d:Nat):(if v<0 then max (v+(n:Int)) 0 else min v (n:Int))=((sIx n d (some v):Nat):Int):=by
 show(if v<0 then max (v+(n:Int)) 0 else min v (n:Int))=(((if v<0 then(v+(n:Int)).toNat else min v.toNat n):Nat):Int)
 by_cases hv:v<0
 ·simp only[if_pos hv];omega
 ·simp only[if_neg hv];omega
theorem x4t(lo hi:Option Int)(n:Nat):Builtin.Slice.sliceAdjust lo hi 1 (n:Int)=(((sIx n 0 lo:Nat):Int),((sIx n n hi:Nat):Int)):=by
 have h1:¬((1:Int)<0):=by omega
 unfold Builtin.Slice.sliceAdjust;simp only[h1,if_false];refine Prod.ext ?_ ?_
 ·cases lo with
  |none=>rfl
  |some v=>exact x31 v n 0
 ·cases hi with
  |none=>rfl
  |some v=>exact x31 v n n
theorem x4u(i j:Nat):Builtin.Slice.slicePlaces (i:Int) (j:Int) 1=j-i:=by
 unfold Builtin.Slice.slicePlaces;have h1:(1:Int)>0:=by omega
 simp only[h1,if_true,Int.ediv_one];split<;>omega
theorem q89{v:Value}{o:Option Int}{Q:Option Int->Shared->Prop}(p:IsPart v o)(h:Q o s):wpAny (model prog w) A (Builtin.Slice.slicePartIndex v) Q E s:=by
 cases p with
 |none=>exact slicePart_none h
 |int i t=>exact slicePart_int h
theorem q8k{sl:Addr}{vl vu:Value}{lo hi:Option Int}{n:Nat}{Q:Int×Int×Nat->Shared->Prop}(hs:s.heap.IsSliceOf sl vl vu .none)(pl:IsPart vl lo)(pu:IsPart vu hi)
  (h:Q (((sIx n 0 lo:Nat):Int),1,sIx n n hi-sIx n 0 lo) s):wpAny (model prog w) A (Builtin.Slice.sliceApplied (.ref sl) (pure (n:Int))) Q E s:=by
 obtain⟨os,hos,hcs,hds⟩:=id hs;unfold Builtin.Slice.sliceApplied Builtin.Slice.sliceFields;refine wpAny_bind (wpAny_bind (wpAny_field hos hds (x:=vl) rfl (wpAny_bind (wpAny_field hos hds (x:=vu) rfl (wpAny_bind (wpAny_field hos hds (x:=.none) rfl (wpAny_pure ?_)))))));refine wpAny_bind (slicePart_none ?_);show wpAny _ _ (if((1:Int)==0)=true then _ else _) _ _ s;rw[if_neg (by decide)];refine wpAny_bind (q89 pl (wpAny_bind (q89 pu (wpAny_bind (wpAny_pure ?_)))));show wpAny _ _ (match Builtin.Slice.sliceAdjust lo hi 1 (n:Int)with|(lo,hi)=>pure (lo,(1:Int),Builtin.Slice.slicePlaces lo hi 1)) _ _ s;rw[x4t lo hi n];show wpAny _ _ (pure (((sIx n 0 lo:Nat):Int),(1:Int),Builtin.Slice.slicePlaces ((sIx n 0 lo:Nat):Int) ((sIx n n hi:Nat):Int) 1)) _ _ s;rw[x4u];exact wpAny_pure h
theorem x87(xs:Array Value)(i k:Nat):((List.range k).filterMap fun(m:Nat)=>xs[((i:Int)+(m:Int)*1).toNat]?).toArray=((xs.toList.drop i).take k).toArray:=by
 have e:(fun(m:Nat)=>xs[((i:Int)+(m:Int)*1).toNat]?)=fun m=>xs[i+m]?:=by
  funext m
  have:((i:Int)+(m:Int)*1).toNat=i+m:=by omega
  rw[this]
 rw[e];have:=pick_run xs i k;rw[List.filterMap_map]at this;have e2:((fun x=>xs[x]?) ∘ fun x=>i+x)=fun m=>xs[i+m]?:=rfl
 rw[e2]at this;rw[this]
theorem getItem_tuple_cut{t sl:Addr}{items:Array Value}{vl vu:Value}{lo hi:Option Int}{Q:Value->Shared->Prop}(ht:IsTup s.heap t items)(hs:s.heap.IsSliceOf sl vl vu .none)(pl:IsPart vl lo)(pu:IsPart vu hi)
  (hw:¬(sIx items.size 0 lo=0/\sIx items.size items.size hi=items.size))
  (h:Q (.ref s.heap.objs.size) {s with heap:=s.heap.push {cls:=.type "tuple", data:=.seq ((items.toList.drop (sIx items.size 0 lo)).take (sIx items.size items.size hi-sIx items.size 0 lo)).toArray}})
  (hsz:items.size<=sizeLine):wpAny (model prog w) A (getItem (.ref t) (.ref sl)) Q E s:=by
 have htake:sizeOk (.seq ((items.toList.drop (sIx items.size 0 lo)).take (sIx items.size items.size hi-sIx items.size 0 lo)).toArray):=by
  show((items.toList.drop (sIx items.size 0 lo)).take (sIx items.size items.size hi-sIx items.size 0 lo)).toArray.size<=sizeLine;rw[w0c,w2j,w3o,w2m];exact w0w (w3n _ _) (w0w (Nat.sub_le _ _) hsz)
 have hj:sIx items.size items.size hi<=items.size:=y51 _ _ (w0e _) hi;obtain⟨os,hos,hcs,hds⟩:=id hs;have hTs:s.TypeIs (.ref sl) "slice":=⟨os,hos,hcs⟩;unfold getItem;try with_reducible refine wpAny_holding ?_
 first|refine wpAny_bind (wpAny_pure ?_)|skip
 refine wpAny_bind (wpAny_sequenceKey ht.typeIs (by decide) ?_)
 refine wpAny_bind (wpAny_callSpecial?_slot (name:=Str.ofString "__getitem__") ht.typeIs PyProof.Rows.slot_tuple_getitem
  (wpAny_call_entry PyProof.Rows.slot_tuple_getitem ht.typeIs entry_tuple_getitem ?_ (args_tuple_getitem _ _)))
 show wpAny _ _ (Builtin.Tuple.tupleItemsOf (.ref t) >>= _) _ _ s;refine wpAny_bind (tupleItemsOf_ ht ?_);refine wpAny_bind (wpAny_typeOf hTs ?_);rw[if_pos (by decide)];refine wpAny_bind (q8k hs pl pu ?_)
 have hno:¬((((sIx items.size 0 lo:Nat):Int)==0&&(1:Int)==1&&(sIx items.size items.size hi-sIx items.size 0 lo)==items.size)=true):=by
  intro q;rw[w1g,w1g]at q;have q1:((sIx items.size 0 lo:Nat):Int)=0:=eq_of_beq q.1.1;have q2:sIx items.size items.size hi-sIx items.size 0 lo=items.size:=eq_of_beq q.2;exact hw ⟨by omega,by omega⟩
 show wpAny _ _ (if(((sIx items.size 0 lo:Nat):Int)==0&&(1:Int)==1&&(sIx items.size items.size hi-sIx items.size 0 lo)==items.size)=true then _ else _) _ _ s;rw[if_neg hno,x87]
 first
  |exact wpAny_bind (m:=Builtin.Tuple.tupleExact _) (wpAny_newObj_type (wpAny_pure ⟨_,rfl,wpAny_pure h⟩) htake)
  |exact wpAny_bind (m:=Builtin.Tuple.tupleExact _) (wpAny_newObj_type (wpAny_bind (wpAny_pure (wpAny_pure ⟨_,rfl,wpAny_pure h⟩))) htake)
  |exact wpAny_bind (wpAny_bind (m:=Builtin.Tuple.tupleExact _) (wpAny_newObj_type (wpAny_pure (wpAny_pure ⟨_,rfl,wpAny_pure h⟩)) htake))
  |exact wpAny_bind (wpAny_bind (m:=Builtin.Tuple.tupleExact _) (wpAny_newObj_type (wpAny_pure ⟨_,rfl,wpAny_pure h⟩) htake))
end
end HT
namespace L2
open PySem PySem.Spec PyProof.Rows
variable{X:Cx}{H:Hp}{pins:List (Addr×Obj)}{xs:List V}{its us:List Value}{n:Nat}{s:Shared}{σ:St}{α:Type}{x:V}
abbrev TO:=St->Hp->(Option Int->Hp->Prop)->Prop
def PO(X:Cx)(e:Option Expr)(t:TO):Prop:=
 ∀(pins:List (Addr×Obj))(s:Shared)(σ:St)(H:Hp)(Q:Option Int->Hp->Prop),Inv X pins σ H s->t σ H Q ->
  wpAny (model X.prog X.w) X.A (evalPart e X.env) (fun u s'=>∃o H',Inv X pins σ H' s'/\IsPart u o/\Q o H') X.xe s
def tNoPart:TO:=fun _ H Q=>Q none H
def tPart(t:TE):TO:=fun σ H Q=>t σ H fun x H1=>∃i,x=.int i/\Q (some i) H1
section
variable{e:Expr}{te:TE}{lo hi:Option Expr}{tl th:TO}{pos p2:Pos}
theorem y2l:PO X none tNoPart:=by
 intro pins s σ H Q I h;rw[evalPart_none];exact wpAny_pure ⟨none,H,I,.none,h⟩
theorem y2m(h:PE X e te):PO X (some e) (tPart te):=by
 intro pins s σ H Q I hw;rw[evalPart_some];refine thn (h pins s σ H _ I hw) fun u s1 ⟨x,H1,I1,r1,q1⟩=>?_
 obtain⟨i,rfl,q⟩:=q1;obtain⟨t,rfl⟩:=r1;exact⟨some i,H1,I1,.int i t,q⟩
def SlR(X:Cx)(r:V->Option Int->Option Int->Hp->VK->Prop):Prop:=
 ∀(pins:List (Addr×Obj))(s:Shared)(σ:St)(H:Hp)(x:V)(v vl vu:Value)(lo hi:Option Int)(sl:Addr)(Q:VK),Inv X pins σ H s->RelV x v->s.heap.IsSliceOf sl vl vu .none->IsPart vl lo->IsPart vu hi->r x lo hi H Q ->
  ∃T id,typeLookup (.type T) "__getitem__"=pure (some (.builtin id))/\s.TypeIs v T/\wpAny (model X.prog X.w) X.A (getItem v (.ref sl)) (EP X pins σ Q) X.xe s
theorem SlR.or{r r':V->Option Int->Option Int->Hp->VK->Prop}(h:SlR X r)(h':SlR X r'):SlR X (fun x lo hi H Q=>r x lo hi H Q\/r' x lo hi H Q):=by
 intro pins s σ H x v vl vu lo hi sl Q I rx hs pl pu q;rcases q with q|q
 ·exact h pins s σ H x v vl vu lo hi sl Q I rx hs pl pu q
 ·exact h' pins s σ H x v vl vu lo hi sl Q I rx hs pl pu q
def tSl(r:V->Option Int->Option Int->Hp->VK->Prop)(te:TE)(tl th:TO):TE:=fun σ H Q=>te σ H fun x H1=>tl σ H1 fun l H2=>th σ H2 fun u H3=>r x l u H3 Q
theorem x88{r:V->Option Int->Option Int->Hp->VK->Prop}(hr:SlR X r)(he:PE X e te)(hl:PO X lo tl)(hu:PO X hi th):PE X (.Subscript e (.Slice lo hi none p2) pos) (tSl r te tl th):=by
 intro pins s σ H Q I h;refine Subscript_ (thn (he pins s σ H _ I h) fun v s1 ⟨x,H1,I1,r1,q1⟩=>?_)
 refine wpAny_Slice (thn (hl pins s1 σ H1 _ I1 q1) fun vl s2 ⟨l,H2,I2,pl,q2⟩=>thn (hu pins s2 σ H2 _ I2 q2) fun vu s3 ⟨u,H3,I3,pu,q3⟩=>?_)
 rw[evalPart_none];refine wpAny_pure ?_;have I4:Inv X pins σ H3 {s3 with heap:=s3.heap.push {cls:=.type "slice", data:=.fields #[vl,vu,.none]}}:=I3.kept (t':=s3.toks) fun b ob q=>Heap.get?_push_of_some _ q
 obtain⟨T,id,hT,ht,hg⟩:=hr pins {s3 with heap:=s3.heap.push {cls:=.type "slice", data:=.fields #[vl,vu,.none]}} σ H3 x v vl vu l u s3.heap.objs.size Q I4 r1 (Heap.IsSliceOf.new ..) pl pu q3;show wpAny (model X.prog X.w) X.A (subscriptTail e (.Slice lo hi none p2) v (.ref s3.heap.objs.size)) (EP X pins σ Q) X.xe {s3 with heap:=s3.heap.push {cls:=.type "slice", data:=.fields #[vl,vu,.none]}};exact tail_any (ops:=[.ref s3.heap.objs.size,v]) ht hT hg (by with_unfolding_all rfl)
noncomputable def cutV(xs:List V)(lo hi:Option Int):List V:=(xs.drop (HT.sIx xs.length 0 lo)).take (HT.sIx xs.length xs.length hi-HT.sIx xs.length 0 lo)
theorem q8a(xs:List V)(lo hi:Option Int):(cutV xs lo hi).length<=xs.length:=by
 unfold cutV;rw[w2j,w3o];exact w0w (w3n _ _) (Nat.sub_le _ _)
def rSlT(K:PySem.W.Frag):V->Option Int->Option Int->Hp->VK->Prop:=fun x lo hi H Q=>∃a xs,x=.ref a/\SqT K H a xs /\
 ¬(HT.sIx xs.length 0 lo=0/\HT.sIx xs.length xs.length hi=xs.length)/\∀p,H p=none->Q (.ref p) (upd H p (.tup (cutV xs lo hi)))
theorem y52:SlR X (rSlT X.K):=by
 intro pins s σ H x v vl vu lo hi sl Q I rx hs pl pu h;obtain⟨a,xs,rfl,hx,hw,q⟩:=h;cases rx;obtain⟨its,r,ht,hz⟩:=I.tuple hx;have hlen:its.toArray.size=xs.length:=by rw[w0c];exact r.length.symm
 refine⟨"tuple", _,PyProof.Rows.slot_tuple_getitem.lookup,ht.typeIs,?_⟩;refine HT.getItem_tuple_cut ht hs pl pu (by rw[hlen];exact hw) ?_ (by rw[hlen];exact hz);rw[hlen];refine⟨.ref s.heap.objs.size,_,I.laid (t':=s.toks) (o:=.tup (cutV xs lo hi)) (fun b ob q=>Heap.get?_push_of_some _ q) (w0e _) ?_,rfl,q _ (I.hok.fresh (w0e _))⟩
 exact⟨w0w (q8a xs lo hi) hz,_,(r.drop (HT.sIx xs.length 0 lo)).take (HT.sIx xs.length xs.length hi-HT.sIx xs.length 0 lo),IsTup.new _ _,_,Heap.get?_push_size _ rfl,rfl⟩
def rCatT(K:PySem.W.Frag):R2:=fun x y H Q=>∃a b xs ys,x=.ref a/\y=.ref b/\SqT K H a xs/\SqT K H b ys/\xs≠[]/\xs.length+ys.length<=sizeLine /\
 (ys=[]->Q (.ref a) H)/\(ys≠[]->∀p,H p=none->Q (.ref p) (upd H p (.tup (xs++ys))))
theorem Vals.nil_iff(r:Vals xs us):us=[]↔xs=[]:=by
 cases r with
 |nil=>simp
 |cons _ _=>simp
theorem op_catT:OpR X (binaryOp .Add) (rCatT X.K):=by
 intro pins s σ H x y v u Q I rx ry h;obtain⟨a,b,xs,ys,rfl,rfl,ha,hb,hx,hz,q1,q2⟩:=h;cases rx;cases ry;obtain⟨its,r1,p1,_⟩:=I.tuple ha;obtain⟨its2,r2,p2,_⟩:=I.tuple hb;refine HT.cat_tup p1 p2 (fun z=>hx (r1.nil_iff.mp z)) (fun z=>⟨.ref a,H,I,rfl,q1 (r2.nil_iff.mp z)⟩) (fun z=>?_) (by rw[<- r1.length,<- r2.length];exact hz)
 refine⟨.ref s.heap.objs.size,_,I.laid (t':=s.toks) (o:=.tup (xs++ys)) (fun b ob q=>Heap.get?_push_of_some _ q) (w0e _) ?_,rfl,q2 (fun w=>z (r2.nil_iff.mpr w)) _ (I.hok.fresh (w0e _))⟩
 exact⟨by rw[w0q];exact hz,_,r1.append r2,IsTup.new _ _,_,Heap.get?_push_size _ rfl,rfl⟩
end
noncomputable def ixN(n:Nat)(i:Int):Option Nat:=if 0<=i then(if i<n then some i.toNat else none)else if -(n:Int)<=i then some (i+n).toNat else none
noncomputable def atI(xs:List α)(i:Int):Option α:=(ixN xs.length i).bind fun j=>xs[j]?
theorem x32{i:Int}{j:Nat}(h:ixN n i=some j):seqIndex? i n=some j/\j<n/\-(n:Int)<=i/\i<n:=by
 unfold ixN at h
 by_cases h0:0<=i
 ·rw[if_pos h0]at h
  by_cases h1:i<n
  ·rw[if_pos h1]at h;have e:i.toNat=j:=Option.some.inj h;exact⟨by rw[seqIndex_of h0 h1,e],by omega,by omega,h1⟩
  ·rw[if_neg h1]at h;cases h
 ·rw[if_neg h0]at h
  by_cases h1:-(n:Int)<=i
  ·rw[if_pos h1]at h;have e:(i+n).toNat=j:=Option.some.inj h;exact⟨by rw[seqIndex_neg (by omega) h1,e],by omega,h1,by omega⟩
  ·rw[if_neg h1]at h;cases h
theorem q91{xs:List α}{i:Int}{v:α}(h:atI xs i=some v):∃j,seqIndex? i xs.length=some j/\xs[j]?=some v/\j<xs.length/\-(xs.length:Int)<=i/\i<xs.length:=by
 unfold atI at h;cases e:ixN xs.length i with
 |none=>rw[e]at h;cases h
 |some j=>
  rw[e]at h;obtain⟨h1,h2,h3,h4⟩:=x32 e;exact⟨j,h1,h,h2,h3,h4⟩
theorem q3x{xs:List α}{j:Nat}{v:α}(h:xs[j]?=some v):atI xs (j:Int)=some v:=by
 have hj:j<xs.length:=(w0b.mp h).1
 have e:ixN xs.length (j:Int)=some j:=by
  unfold ixN;rw[if_pos (by omega),if_pos (by omega)];simp
 unfold atI;rw[e];exact h
def PlainIx(b:Expr):Prop:=∀o i,subscripted b false o i=operate [o,i] (getItem o i)
def IxR(X:Cx)(r:R2):Prop:=
 ∀(value slice:Expr)(pins:List (Addr×Obj))(s:Shared)(σ:St)(H:Hp)(x y:V)(v u:Value)(Q:VK),Inv X pins σ H s->RelV x v->RelV y u->r x y H Q ->
  subscripted slice false v u=operate [v,u] (getItem v u)->wpAny (model X.prog X.w) X.A (subscriptTail value slice v u) (EP X pins σ Q) X.xe s
def MtR(X:Cx)(id:String)(r:V->List V->Hp->VK->Prop):Prop:=
 ∀(pins:List (Addr×Obj))(s:Shared)(σ:St)(H:Hp)(x:V)(xs:List V)(v:Value)(us:List Value)(Q:VK),Inv X pins σ H s->RelV x v->Vals xs us->r x xs H Q ->
  wpAny (model X.prog X.w) X.A (call (.builtin id) (v::us)) (EP X pins σ Q) X.xe s
section
variable{a b:Expr}{ta tb:TE}{pos:Pos}
theorem IxR.or{r r':R2}(h:IxR X r)(h':IxR X r'):IxR X (fun x y H Q=>r x y H Q\/r' x y H Q):=by
 intro value slice pins s σ H x y v u Q I rx ry q hs;rcases q with q|q
 ·exact h value slice pins s σ H x y v u Q I rx ry q hs
 ·exact h' value slice pins s σ H x y v u Q I rx ry q hs
theorem y1t{r:R2}(hr:IxR X r)(ha:PE X a ta)(hb:PE X b tb)(hs:PlainIx b):PE X (.Subscript a b pos) (tOp r ta tb):=by
 intro pins s σ H Q I h;exact Subscript_ (binT ha hb I h fun v u s2 x y H2 I2 rx ry q=>hr a b pins s2 σ H2 x y v u Q I2 rx ry q (hs _ _))
def rIxL(K:PySem.W.Frag):R2:=fun x y H Q=>∃p xs i v,x=.ref p/\y=.int i/\SqL K H p xs/\atI xs i=some v/\Q v H
def rIxT(K:PySem.W.Frag):R2:=fun x y H Q=>∃p xs i v,x=.ref p/\y=.int i/\SqT K H p xs/\atI xs i=some v/\Q v H
def rIxS:R2:=fun x y H Q=>∃z i c,x=.str z/\y=.int i/\z.length<=sizeLine/\atI z.cps.toList i=some c/\Q (.str ⟨#[c]⟩) H
theorem ix_list:IxR X (rIxL X.K):=by
 intro value slice pins s σ H x y v u Q I rx ry h hs;obtain⟨p,xs,i,z,rfl,rfl,hq,he,q⟩:=h;cases rx;obtain⟨t,rfl⟩:=ry;obtain⟨its,r,pl,hz⟩:=I.list hq;obtain⟨j,h1,h2,h3,h4,h5⟩:=q91 he;obtain⟨w,ew,rw'⟩:=r.get h2;have hl:=r.length;have hn:=line63;have fin:EP X pins σ Q w s:=⟨z,H,I,rw',q⟩
 by_cases h0:0<=i
 ·have hj:i.toNat=j:=by
   rw[seqIndex_of h0 h5]at h1;exact Option.some.inj h1
  exact item_listR pl.isList h0 (by omega) (by rw[hj];simpa using ew) fin hs
 ·have hj:(i+(its.toArray.size:Int)).toNat=j:=by
   rw[seqIndex_neg (by omega) h4]at h1;rw[w0c,<- hl];exact Option.some.inj h1
  exact subscriptTail_builtinR (x:=w) pl.isList.typeIs slot_list_getitem.lookup
   (wpAny_getItem_list_neg (Q:=fun r s'=>r=w/\EP X pins σ Q r s') pl.isList (by omega) (by rw[w0c]<;>omega) (by omega) (by rw[hj];simpa using ew) ⟨rfl,fin⟩) hs
theorem ix_tup:IxR X (rIxT X.K):=by
 intro value slice pins s σ H x y v u Q I rx ry h hs;obtain⟨p,xs,i,z,rfl,rfl,hq,he,q⟩:=h;cases rx;obtain⟨t,rfl⟩:=ry;obtain⟨its,r,pl,hz⟩:=I.tuple hq;obtain⟨j,h1,h2,h3,h4,h5⟩:=q91 he;obtain⟨w,ew,rw'⟩:=r.get h2;have hl:=r.length;have hn:=line63;have fin:EP X pins σ Q w s:=⟨z,H,I,rw',q⟩
 exact subscriptTail_builtinR (x:=w) pl.typeIs slot_tuple_getitem.lookup
  (getItem_tuple (j:=j) (Q:=fun r s'=>r=w/\EP X pins σ Q r s') pl (by omega) (by omega) (by rw[w0c,<- hl];exact h1) (by simpa using ew) ⟨rfl,fin⟩) hs
theorem y53:IxR X rIxS:=by
 intro value slice pins s σ H x y v u Q I rx ry h hs;obtain⟨z,i,c,rfl,rfl,hz,he,q⟩:=h;obtain⟨t,rfl⟩:=rx;obtain⟨t',rfl⟩:=ry;obtain⟨j,h1,h2,h3,h4,h5⟩:=q91 he;have hl:z.cps.toList.length=z.length:=by simp[Str.length]
 rw[hl]at h1 h4 h5;have hn:=line63
 exact tail_any (typeIs_str s z t) slot_str_getitem.lookup (getItem_str (c:=c) (by
  have e1:decide (i < -(2^63:Int))=false:=decide_eq_false (by omega);have e2:decide (i>=2^63)=false:=decide_eq_false (by omega);rw[e1,e2,Bool.or_false]) (by rw[h1];simpa using h2) ⟨.str ⟨#[c]⟩,H,I.tok _,⟨_,rfl⟩,q⟩) hs
def rIx(K:PySem.W.Frag):R2:=fun x y H Q=>rIxL K x y H Q\/rIxT K x y H Q\/rIxS x y H Q
theorem x6h:IxR X (rIx X.K):=ix_list.or (ix_tup.or y53)
theorem x4v(its:List Value)(n j:Nat)(u:Value):Obj.mapSeq (·.setIfInBounds j u) {cls:=.type "list", data:=.seq its.toArray n}={cls:=.type "list", data:=.seq (its.set j u).toArray n}:=by
 simp[Obj.mapSeq]
theorem Inv.lst{p:Addr}(I:Inv X pins σ H s)(h:H p=some (.lst xs)):
  ∃(its:List Value)(n:Nat),Vals xs its/\s.heap.get? p=some {cls:=.type "list", data:=.seq its.toArray n}/\xs.length<=sizeLine:=by
 obtain⟨z,its,n,r,e⟩:=I.hok p _ h;exact⟨its,n,r,e,z⟩
theorem Inv.lstUpd{p:Addr}{ys:List V}{its':List Value}{n':Nat}{f:Obj->Obj}(I:Inv X pins σ H s)(h:H p=some (.lst xs))
  (ho:s.heap.get? p=some {cls:=.type "list", data:=.seq its.toArray n})(hf:f {cls:=.type "list", data:=.seq its.toArray n}={cls:=.type "list", data:=.seq its'.toArray n'})(r:Vals ys its')(hz:ys.length<=sizeLine)(t:Nat):
  Inv X pins σ (upd H p (.lst ys)) {s with heap:=s.heap.update p f,toks:=t}:=by
 have e:(s.heap.update p f).get? p=some {cls:=.type "list", data:=.seq its'.toArray n'}:=by
  rw[Heap.get?_update_self f ho (by rw[hf]<;>rfl),hf]
 refine I.write (x:=p) (e:=p) (by rw[h];trivial) (.inl rfl) (fun b u hb q=>(Heap.get?_update_other _ _ (Ne.symm hb)).trans q) ⟨_,e⟩ ?_
 exact⟨hz,its',n',r,e⟩
def rSetL:V->V->V->Hp->(Hp->Prop)->Prop:=fun o i v H Q=>∃p xs k j,o=.ref p/\i=.int k/\H p=some (.lst xs)/\ixN xs.length k=some j/\Q (upd H p (.lst (xs.set j v)))
theorem x89:PSet X rSetL:=by
 intro pins s σ H o i v ov iv u Q I ro ri rv h;obtain⟨p,xs,k,j,rfl,rfl,hp,hj,q⟩:=h;cases ro;obtain⟨t,rfl⟩:=ri;obtain⟨its,n,r,ho,hz⟩:=I.lst hp;obtain⟨h1,h2,h3,h4⟩:=x32 hj;have hl:=r.length;have hn:=line63
 have I':Inv X pins σ (upd H p (.lst (xs.set j v))) {s with heap:=s.heap.update p (Obj.mapSeq (·.setIfInBounds j u))}:=
  I.lstUpd hp ho (x4v its n j u) (r.set rv j) (by rw[w3t];exact hz) s.toks
 by_cases h0:0<=k
 ·have hk:k.toNat=j:=by
   rw[seqIndex_of h0 h4]at h1;exact Option.some.inj h1
  exact PySem.W.ki_setAt ho h0 (by omega) (by rw[w0c,<- hl];exact h4) (by rw[hk];exact⟨_,I',q⟩)
 ·have hk:(k+(its.toArray.size:Int)).toNat=j:=by
   rw[seqIndex_neg (by omega) h3]at h1;rw[w0c,<- hl];exact Option.some.inj h1
  exact PySem.W.ki_setBack ho (by omega) (by rw[w0c,<- hl];exact h3) (by omega) (by rw[hk];exact⟨_,I',q⟩)
theorem x18(lo hi:Option Int)(n:Nat):(sliceBounds lo hi none n).1=((HT.sIx n 0 lo:Nat):Int)/\(sliceBounds lo hi none n).2.1=((HT.sIx n n hi:Nat):Int)/\(sliceBounds lo hi none n).2.2=1:=by
 refine⟨?_,?_,rfl⟩
 ·cases lo with
  |none=>simp[sliceBounds,HT.sIx]
  |some i=>
   simp only[sliceBounds,HT.sIx,Option.getD_none,show(1:Int)>0 by decide,if_true]
   by_cases h:i<0
   ·simp only[h,if_true]<;>omega
   ·simp only[h,if_false]<;>omega
 ·cases hi with
  |none=>simp[sliceBounds,HT.sIx]
  |some i=>
   simp only[sliceBounds,HT.sIx,Option.getD_none,show(1:Int)>0 by decide,if_true]
   by_cases h:i<0
   ·simp only[h,if_true]<;>omega
   ·simp only[h,if_false]<;>omega
theorem x1k(its:List Value)(lo hi:Option Int):slicePick its.toArray lo hi none=((its.drop (HT.sIx its.length 0 lo)).take (HT.sIx its.length its.length hi-HT.sIx its.length 0 lo)).toArray:=by
 obtain⟨h1,h2,h3⟩:=x18 lo hi its.toArray.size;unfold slicePick;rw[h1,h2,h3];simp only[sliceRange_one,pick_run,w0c]<;>rfl
def rSlL(K:PySem.W.Frag):V->Option Int->Option Int->Hp->VK->Prop:=fun x lo hi H Q=>∃a xs,x=.ref a/\SqL K H a xs/\∀p,H p=none->Q (.ref p) (upd H p (.lst (cutV xs lo hi)))
theorem sl_list:SlR X (rSlL X.K):=by
 intro pins s σ H x v vl vu lo hi sl Q I rx hs pl pu h;obtain⟨a,xs,rfl,hx,q⟩:=h;cases rx;obtain⟨its,r,ht,hz⟩:=I.list hx;have hlen:=r.length;refine⟨"list", _,slot_list_getitem.lookup,ht.isList.typeIs,?_⟩;refine wpAny_getItem_list_slice ht.isList hs pl pu .none (by simp) ?_ (by rw[w0c]<;>omega);rw[x1k,<- hlen];refine⟨.ref s.heap.objs.size,_,I.laid (t':=s.toks) (o:=.lst (cutV xs lo hi)) (fun b ob q=>Heap.get?_push_of_some _ q) (w0e _) ?_,rfl,q _ (I.hok.fresh (w0e _))⟩
 exact⟨w0w (q8a xs lo hi) hz,_,0,(r.drop (HT.sIx xs.length 0 lo)).take (HT.sIx xs.length xs.length hi-HT.sIx xs.length 0 lo),Heap.get?_push_size _ rfl⟩
theorem x19:CallR X (.type "list") (fun xs H Q=>∃p ys,xs=[.ref p]/\(SqL X.K H p ys\/SqT X.K H p ys)/\∀l,H l=none->Q (.ref l) (upd H l (.lst ys))):=by
 intro pins s σ H xs us Q I r h;obtain⟨p,ys,rfl,hq,q⟩:=h;obtain⟨u,rfl,rx⟩:=vals1 r;cases rx
 have fin:∀(its:List Value),Vals ys its->ys.length<=sizeLine->∀(h':Heap)(c':Nat),(∀b o',s.heap.get? b=some o'->h'.get? b=some o') ->
   h'.get? s.heap.objs.size=some {cls:=.type "list", dict:=none,data:=.seq its.toArray c',slots:=#[]}->EP X pins σ Q (.ref s.heap.objs.size) {s with heap:=h'}:=fun its r' hz h' c' kp e=>
  ⟨.ref s.heap.objs.size,_,I.laid (t':=s.toks) kp (w0e _) (show ObjOk X.prog X.w _ h' _ (.lst ys)from⟨hz,its,c',r',e⟩),rfl,q _ (I.hok.fresh (w0e _))⟩
 rcases hq with hq|hq
 ·obtain⟨its,r',pl,hz⟩:=I.list hq;have hlen:=r'.length;obtain⟨o,ho,hc,n,hd⟩:=pl.isList;exact call_list_seq p (.inl rfl) ho hc hd (fun h' c' kp e=>fin its r' hz h' c' kp e) (by simp only[w0c]<;>omega)
 ·obtain⟨its,r',pl,hz⟩:=I.tuple hq;have hlen:=r'.length;obtain⟨o,ho,hc,n,hd⟩:=pl;exact call_list_seq p (.inr rfl) ho hc hd (fun h' c' kp e=>fin its r' hz h' c' kp e) (by simp only[w0c]<;>omega)
theorem x1l:CallR X (.type "tuple") (fun xs H Q=>∃p ys,xs=[.ref p]/\((SqL X.K H p ys/\∀l,H l=none->Q (.ref l) (upd H l (.tup ys)))\/(SqT X.K H p ys/\Q (.ref p) H))):=by
 intro pins s σ H xs us Q I r h;obtain⟨p,ys,rfl,h⟩:=h;obtain⟨u,rfl,rx⟩:=vals1 r;cases rx;rcases h with⟨hq,q⟩|⟨hq,q⟩
 ·obtain⟨its,r',pl,hz⟩:=I.list hq;have hlen:=r'.length;refine call_tuple_list pl.isList (fun h' kp=>?_) (by simp only[w0c]<;>omega)
  have I1:Inv X pins σ H {s with heap:=h'}:=I.kept (t':=s.toks) kp
  have I2:Inv X pins σ (upd H h'.objs.size (.tup ys)) {s with heap:=h'.push {cls:=.type "tuple", data:=.seq its.toArray}}:=
   I1.laid (t':=s.toks) (fun b o e=>Heap.get?_push_of_some _ e) (w0e _) (show ObjOk X.prog X.w _ _ _ (.tup ys)from⟨hz,its,r',IsTup.new _ _,_,Heap.get?_push_size _ rfl,rfl⟩)
  exact⟨.ref h'.objs.size,_,I2,rfl,q _ (I1.hok.fresh (w0e _))⟩
 ·obtain⟨its,r',pl,hz⟩:=I.tuple hq;exact call_tuple_same pl ⟨.ref p,H,I,rfl,q⟩
def tyV(K:PySem.W.Frag)(T:String)(x:V)(H:Hp):Prop:=match x with
 |.str _=>T="str"
 |.int _=>T="int"
 |.ref p=>(T="list" /\ ∃xs,SqL K H p xs)\/(T="tuple" /\ ∃o,K.lookup p=some o/\o.cls=.type "tuple" /\ o.dict=none) \/
   (T="dict" /\ ((∃kvs,H p=some (.dK kvs))\/∃sh kvs kas,H p=some (.dT sh kvs kas)))\/(T="set" /\ ∃S n,H p=some (.set S n))
 |_=>False
theorem x6i{T:String}{v:Value}(I:Inv X pins σ H s)(r:RelV x v)(ty:tyV X.K T x H):
  s.TypeIs v T/\∀a,v=.ref a->∃ob,s.heap.get? a=some ob/\ob.dict=none:=by
 cases x with
 |str z=>
  obtain⟨t,rfl⟩:=r;cases(show T="str" from ty);exact⟨typeIs_str s z t,fun _ e=>nomatch e⟩
 |int i=>
  obtain⟨t,rfl⟩:=r;cases(show T="int" from ty);exact⟨typeIs_int s i t,fun _ e=>nomatch e⟩
 |ref p=>
  cases r;rcases ty with⟨rfl,xs,hq⟩|⟨rfl,o,hk,hc,hd⟩|⟨rfl,hk⟩|⟨rfl,S,n,hk⟩
  ·obtain⟨its,_,pl,_⟩:=I.list hq;refine⟨pl.isList.typeIs,fun a e=>?_⟩
   cases e;obtain⟨o,n,e,c,hd,_⟩:=pl;exact⟨o,e,hd⟩
  ·refine⟨⟨o,I.kIn p o hk,hc⟩,fun a e=>?_⟩
   cases e;exact⟨o,I.kIn _ o hk,hd⟩
  ·have z:∃o,s.heap.get? p=some o/\o.ExactDict:=by
    rcases hk with⟨kvs,hk⟩|⟨sh,kvs,kas,hk⟩
    ·obtain⟨_,_,_,_,o,_,_,e,ex,_⟩:=I.hok p _ hk;exact⟨o,e,ex⟩
    ·obtain⟨_,_,_,_,_,o,_,_,e,ex,_⟩:=I.hok p _ hk;exact⟨o,e,ex⟩
   obtain⟨o,e,ex⟩:=z;refine⟨⟨o,e,ex.1⟩,fun a e2=>?_⟩
   cases e2;exact⟨o,e,ex.2.1⟩
  ·obtain⟨o,_,_,_,e,ex,_⟩:=I.hok p _ hk;refine⟨⟨o,e,ex.1⟩,fun a e2=>?_⟩
   cases e2;exact⟨o,e,ex.2.1⟩
 |_=>exact False.elim ty
def tBM0(K:PySem.W.Frag)(T:String)(r:V->List V->Hp->VK->Prop)(to:TE):TE:=fun σ H Q=>to σ H fun x H1=>tyV K T x H1/\r x [] H1 Q
def tBM(K:PySem.W.Frag)(T:String)(r:V->List V->Hp->VK->Prop)(to:TE)(t:TA):TE:=fun σ H Q=>to σ H fun x H1=>tyV K T x H1/\t σ H1 fun xs H2=>r x xs H2 Q
variable{o e:Expr}{es:List Expr}{to:TE}{t:TA}{name:Str}{apos cpos:Pos}{T id:String}{r:V->List V->Hp->VK->Prop}
theorem x6j(pa:PlainAttrs T)(slot:Slot T name id)(hty:typeOf (.builtin id)=pure (.type "method_descriptor"))(hm:MtR X id r)(ho:PE X o to)
  (hbase:attributeBase o name X.env (eval o X.env)=eval o X.env:=by rfl)(hline:(apos.endLine==cpos.line)=true:=by rfl):PE X (.Call (.Attribute o name apos) [] [] cpos) (tBM0 X.K T r to):=by
 intro pins s σ H Q I h;refine wpAny_Call_method0_late hbase hline (thn (ho pins s σ H _ I h) fun v s1 ⟨x,H1,I1,r1,ty,q1⟩=>?_)
 obtain⟨h1,h2⟩:=x6i I1 r1 ty;exact⟨T,id,pa,slot,hty,h1,h2,Calls.callWith_builtin rfl (PySem.evalArgs_none (hm pins s1 σ H1 x [] v [] Q I1 r1 .nil q1))⟩
theorem x4w(pa:PlainAttrs T)(slot:Slot T name id)(hty:typeOf (.builtin id)=pure (.type "method_descriptor"))(hm:MtR X id r)(ho:PE X o to)(ha:PA X (e::es) t)
  (hbase:attributeBase o name X.env (eval o X.env)=eval o X.env:=by rfl)
  (hfew:((backTo cpos (starEach (e::es) X.env)).all (fun x=>!x.1)&&(backToKw cpos (keywordEach [] X.env)).all (fun x=>x.1.isSome)
   && decide ((e::es).length+([]:List Keyword).length+(if([]:List Keyword).isEmpty then 0 else 1)<30))=true:=by rfl)
  (hline:(apos.endLine==cpos.line)=true:=by rfl)(hs:starEach (e::es) X.env=(false,eval e X.env)::starEach es X.env:=by rfl)(hplain:(backTo cpos (starEach es X.env)).any (·.1)=false:=by rfl):
  PE X (.Call (.Attribute o name apos) (e::es) [] cpos) (tBM X.K T r to t):=by
 intro pins s σ H Q I h;refine wpAny_Call_method_late hbase hfew hline rfl (thn (ho pins s σ H _ I h) fun v s1 ⟨x,H1,I1,r1,ty,q1⟩=>?_)
 obtain⟨h1,h2⟩:=x6i I1 r1 ty;refine⟨T,id,pa,slot,hty,h1,h2,?_⟩;have hA:=ha cpos pins s1 σ H1 _ I1 q1;rw[hs]at hA |-
 refine Calls.callWith_builtin (by show(false||(backTo cpos (starEach es X.env)).any (·.1))=false;rw[hplain]<;>rfl) (Calls.evalArgs_plain ?_);exact thn hA fun us s2 ⟨vs,H2,I2,r2,q2⟩=>hm pins s2 σ H2 x vs v us Q I2 r1 r2 q2
/- xs.append(e),list.index on a module's tuple .. are MtR facts of 06m -/
end
def MtM(X:Cx)(id:String)(r:V->List V->Hp->VK->Prop):Prop:=
 ∀(pins:List (Addr×Obj))(s:Shared)(σ:St)(H:Hp)(x:V)(xs:List V)(v:Value)(us:List Value)(Q:VK),Inv X pins σ H s->RelV x v->Vals xs us->r x xs H Q ->
  wpAny (model X.prog X.w) X.A (call (.builtin id) (v::us)) (EP X pins σ Q) X.xe s
theorem Vals.one(h:Vals [x] us):∃u,us=[u]/\RelV x u:=vals1 h
theorem Vals.two{y:V}(h:Vals [x,y] us):∃u v,us=[u,v]/\RelV x u/\RelV y v:=vals2 h
theorem Vals.zero:∀{us:List Value},Vals [] us->us=[]
 |_,.nil=>rfl
theorem Vals.dropLast(h:Vals xs us):Vals xs.dropLast us.dropLast:=by
 induction h with
 |nil=>exact .nil
 |cons r t ih=>
  cases t with
  |nil=>exact .nil
  |cons q t'=>exact .cons r ih
theorem Vals.reverse(h:Vals xs us):Vals xs.reverse us.reverse:=by
 induction h with
 |nil=>exact .nil
 |cons r t ih=>rw[w1t,w1t];exact Vals.append ih (.cons r .nil)
theorem x4x(l:List α):l.eraseIdx (l.length-1)=l.dropLast:=by
 induction l with
 |nil=>rfl
 |cons a r ih=>
  cases r with
  |nil=>rfl
  |cons b r=>
   have e:(a::b::r).length-1=((b::r).length-1)+1:=by
    have h1:(a::b::r).length=r.length+2:=rfl;have h2:(b::r).length=r.length+1:=rfl;omega
   rw[e,List.eraseIdx_cons_succ,ih]
   all_goals rfl
section
variable{l b:Addr}{ys zs:List V}
theorem Inv.lset{its':List Value}{f:Array Value->Array Value}{t':Nat}(I:Inv X pins σ H s)(hH:H l=some (.lst xs))
  (e:s.heap.get? l=some {cls:=.type "list", data:=.seq its.toArray n})(hf:f its.toArray=its'.toArray)(hv:Vals ys its')(hz:ys.length<=sizeLine):
  Inv X pins σ (upd H l (.lst ys)) {s with heap:=s.heap.update l (Obj.mapSeq f),toks:=t'}:=by
 have q:=PySem.IsL.update e f;rw[hf]at q;refine I.write (x:=l) (e:=l) (by rw[hH];exact trivial) (.inl rfl) (fun b' u hb hu=>(Heap.get?_update_other s.heap (Obj.mapSeq f) (Ne.symm hb)).trans hu) ⟨_,q⟩ ?_
 exact⟨hz,its',_,hv,q⟩
theorem Inv.lnew{t':Nat}(I:Inv X pins σ H s)(hv:Vals ys its)(hz:ys.length<=sizeLine):
  Inv X pins σ (upd H s.heap.objs.size (.lst ys)) {s with heap:=s.heap.push {cls:=.type "list", data:=.seq its.toArray},toks:=t'}:=
 I.laid (fun _ _ q=>Heap.get?_push_of_some _ q) (w0e _) ⟨hz,its,0,hv,Heap.get?_push_size _ rfl⟩
theorem Inv.fresh(I:Inv X pins σ H s):H s.heap.objs.size=none:=I.hok.fresh (w0e _)
theorem Inv.lstM(I:Inv X pins σ H s)(hH:H l=some (.lst xs)):xs.length<=sizeLine/\∃(its:List Value)(n:Nat),Vals xs its/\xs.length=its.length/\s.heap.get? l=some {cls:=.type "list", data:=.seq its.toArray n}:=by
 obtain⟨z,its,n,r,e⟩:=I.hok l _ hH;exact⟨z,its,n,r,r.length,e⟩
theorem notLongL(h:n<=sizeLine):Builtin.List.listTooLong n=false:=by
 unfold Builtin.List.listTooLong;exact decide_eq_false (by omega)
end
def rAppend:V->List V->Hp->VK->Prop:=fun x vs H Q=>∃l xs y,x=.ref l/\vs=[y]/\H l=some (.lst xs)/\xs.length<sizeLine/\Q .non (upd H l (.lst (xs++[y])))
theorem q7d:MtM X "list.append" rAppend:=by
 intro pins s σ H x vs v us Q I rx rv h;obtain⟨l,xs,y,rfl,rfl,hH,hz,q⟩:=h;cases rx;obtain⟨u,rfl,ru⟩:=rv.one;obtain⟨z,its,n,r,hl,e⟩:=I.lstM hH;refine call_meets F.slot_list_append ⟨_,e,rfl⟩ F.entry_list_append (F.args_list_append_2 _ _) (PySem.list_append l its.toArray n u (by rw[w0c];omega)) ⟨e,?_⟩;refine⟨.non,_,I.lset (its':=its++[u]) hH e (by simp) (r.append (.cons ru .nil)) ?_,rfl,q⟩;rw[w0q,w3u];omega
def rPop:V->List V->Hp->VK->Prop:=fun x vs H Q=>∃l xs y,x=.ref l/\vs=[]/\H l=some (.lst xs)/\xs[xs.length-1]?=some y/\Q y (upd H l (.lst xs.dropLast))
theorem y54:MtM X "list.pop" rPop:=by
 intro pins s σ H x vs v us Q I rx rv h;obtain⟨l,xs,y,rfl,rfl,hH,hy,q⟩:=h;cases rx;have hus:=rv.zero;subst hus;obtain⟨z,its,n,r,hl,e⟩:=I.lstM hH;obtain⟨u,hu,ru⟩:=r.get hy
 have hy':its.toArray[its.toArray.size-1]?=some u:=by
  show its.toArray[its.length-1]?=some u;rw[<- w1x,<- hl];exact hu
 refine call_meets F.slot_list_pop ⟨_,e,rfl⟩ F.entry_list_pop (F.args_list_pop_1 _) (MeetsSeq.list_pop_last l its.toArray n u hy' (by rw[w0c];omega)) ⟨e,?_⟩;refine⟨y,_,I.lset (its':=its.dropLast) hH e ?_ r.dropLast ?_,ru,q⟩
 ·show its.toArray.eraseIdxIfInBounds (its.toArray.size-1)=its.dropLast.toArray;rw[w0c,List.eraseIdxIfInBounds_toArray,x4x]
 ·rw[List.length_dropLast];omega
def rReverse:V->List V->Hp->VK->Prop:=fun x vs H Q=>∃l xs,x=.ref l/\vs=[]/\H l=some (.lst xs)/\Q .non (upd H l (.lst xs.reverse))
theorem x4y:MtM X "list.reverse" rReverse:=by
 intro pins s σ H x vs v us Q I rx rv h;obtain⟨l,xs,rfl,rfl,hH,q⟩:=h;cases rx;have hus:=rv.zero;subst hus;obtain⟨z,its,n,r,hl,e⟩:=I.lstM hH;refine call_meets F.slot_list_reverse ⟨_,e,rfl⟩ F.entry_list_reverse (F.args_list_reverse_1 _) (AutoSeq1.list_reverse_list_0 l its.toArray n (by rw[w0c];omega)) ⟨e,?_⟩;refine⟨.non,_,I.lset (its':=its.reverse) hH e (by simp) r.reverse ?_,rfl,q⟩;rw[w2n];omega
end L2
namespace Att
open PySem PySem.W PySem.Calls PyProof.Rows
theorem q9a{P:Params}{h:Heap}:∀(ns:List Int)(vs:List Value),WellAll P h vs (ns.map WData.int)->IntsAre vs ns:=by
 intro ns
 induction ns with
 |nil=>
  intro vs w;rw[w4l]at w;cases w;exact .nil
 |cons n ns ih=>
  intro vs w;rw[w0u]at w;cases w with
  |cons a b=>
   cases a;exact .cons _ _ (ih _ b)
theorem x6k{l:OpenLaw}{n:Nat}(hn:l.most=some n){P:Params}{h:Heap}{args:List WData}{vals:List Value}
  (hpre:l.row.toRowW.claim.pre args=true)(hwl:WellAll P h vals args):
  ∃a vs ns,vals=[Value.ref a]/\args=[WData.list (ns.map WData.int)]/\h.get? a=some {cls:=.type "list", data:=.seq vs.toArray}/\IntsAre vs ns/\ns.length<=n:=by
 have hsh:WShape.hasAll [] args [.list .int]=true:=(pre_splitW hpre).1;have hc:l.pre.holds [] {args:=args}=true:=(pre_splitW hpre).2;obtain⟨d,r,rfl,h1,h2⟩:=hasAllW_cons hsh;obtain rfl:=hasAllW_nil h2;obtain⟨xs,rfl,h3⟩:=hasW_list h1;obtain⟨ns,rfl⟩:=items_int h3
 have hlen:ns.length<=n:=by
  unfold OpenLaw.pre at hc
  have h4:(WTm.not (.lt (.lit (.int (n:Int))) (.len (.arg 0)))).holds [] {args:=[.list (ns.map .int)]}=true:=by
   have h4:=(holds_andW hc).1;rw[hn]at h4;exact h4
  have h5:=condW_of h4 (w_not (w_lt w_lit (w_len_list (w_arg rfl))));rw[w0a]at h5;refine Nat.le_of_not_lt fun q=>?_
  have q':(n:Int)<((ns.length:Nat):Int):=by omega
  first
   |(rw[decide_eq_true q']at h5;exact absurd h5 (by decide))
   |(simp at h5;omega)
 cases hwl with
 |cons w1 w2=>
  cases w2;cases w1 with
  |list ho hall=>exact⟨_,_,ns,rfl,rfl,ho,q9a ns _ hall,hlen⟩
theorem x6l(l:OpenLaw)(args:List WData):l.row.toRowW.claim.post args (.bool true) args=true:=
 postW_of (r:=l.row.toRowW) (X:=(true==true))
  (show WShape.has [] (.bool true) .bool=true by first|rfl|decide|simp[WShape.has,WShape.arms,WShape.armsAll])
  (show(WTm.eq .res (.lit (.bool true))).value [] {args:=args,res:=some (.bool true),after:=args}=some (.bool (true==true))from w_eq_bool (w_res rfl) w_lit) rfl
theorem attach_call{l:OpenLaw}{n:Nat}{q:Program}{loose:List Str}{XP:(Str->Option Value)->Heap->Prop}{YP:World->Heap->Prop}{d:DefRec}
  (hn:l.most=some n)(hdf:d.params.defaults=[])
  (call:∀(w:World)(s₀ s₁:Shared)(mg mb:Str->Option Value)(fa:Addr)(o:Obj)(pm cd doc:Value)(a:Addr)(vs:List Value)(ns:List Int),
   Ground q loose [] XP w s₀ mg mb s₁.heap->YP w s₁.heap ->
   s₁.heap.get? fa=some o->o.data=.func (docDef d.name d.params d.body d.scope pm cd doc)->s₁.heap.CodeRec cd d.name->mg d.name=some (.ref fa) ->
   s₁.heap.get? a=some {cls:=.type "list", data:=.seq vs.toArray}->IntsAre vs ns->ns.length<=n->s₁.gens=#[] ->
   codeAny (model l.prog w) callerA (.call (.ref fa) ⟨[.ref a],[]⟩) (fun r s'=>r=.ok (.ret (.bool true))/\OldK s₁.heap s'.heap/\s'.os=s₁.os/\AllBare s'.gens) s₁):
  WalkO q loose XP YP l.row.toRowW d [] (fun f vs=>PySem.call f vs):=by
 intro w s₀ s₁ mg mb G Y fa o pm cd doc dV kV ho hd hcd hD hmg hg args vals as hpre hlay hrd hwl hlo;obtain rfl:dV=.none:=Dflts.none hD hdf;obtain rfl:kV=.none:=Dflts.noKw hD;obtain⟨a,vs,ns,rfl,rfl,hobj,hints,hlen⟩:=x6k hn hpre hwl;refine enter_call (codeAny_mono (call w s₀ s₁ mg mb fa o pm cd doc a vs ns G Y ho (fd_plain hd) hcd hmg hobj hints hlen hg) fun r s' hq=>?_)
 obtain⟨rfl,h2,h3,h4⟩:=hq;exact⟨.inl ⟨.bool true,.bool true,[],rfl,fun _=>rfl,.bool true,x6l l _,fun _=>⟨List.Pairwise.nil,fun _ hm=>(nomatch hm)⟩⟩,h2,h3,h4⟩
section
variable{prog:Program}{w:World}{A:Around}{E:Value->Shared->Prop}{s:Shared}{K:Frag}
noncomputable def ledger(h:Heap)(L d:Addr):List (Addr×Obj):=(List.range h.objs.size).filterMap fun a=>if a=L\/a=d then none else(h.get? a).map fun o=>(a,o)
end
end Att
namespace L2
open PySem PySem.Spec PyProof.Rows
theorem q7e:∀{vs:List Value}{ns:List Int},IntsAre vs ns->Vals (ns.map V.int) vs
 |_,_,.nil=>.nil
 |_,_,.cons n t h=>.cons ⟨t,rfl⟩ (q7e h)
def Only(H:Hp):Prop:=∀b,H b=none\/∃o xs,H b=some (.frz o (.lst xs))
theorem x9a{P:Program}{w:World}{K:PySem.W.Frag}{mg mb:Str->Option Value}{CX:CXT}{k:Nat}{fa a:Addr}{fd:FuncData}{x:Str}{sp:Sp}{s₁:Shared}{vs:List Value}{ns:List Int}
  (KX:K.In s₁.heap)(hns:s₁.heap.Ns mainGlobals mg)(hb:s₁.heap.Ns builtinsNs mb)(hbb:∀x:Str,x≠"__name__"->mb x=bootBuiltins x)(hlim:s₁.heap.NoLimit)(hg:s₁.gens=#[])
  (ha:s₁.heap.get? a=some {cls:=.type "list", data:=.seq vs.toArray})(hi:IntsAre vs ns)(hl:ns.length<=sizeLine)(hr:Room k callerA)
  (F:∀base:Heap,K.In base->base.Ns mainGlobals mg->FnOk P w K mg base CX k fa fd [x] sp)(hbind:∀(s:Shared)(u:Value),BindsTo s fd ⟨[u],[]⟩ [(x,u)])
  (hsp:∀H:Hp,Only H->SqL K H a (ns.map V.int)->sp [.ref a] H (fun v _=>v=.bl true) fun _ _ _=>False)
  (hCX:∀H e s',CX [] H s₁ (fun _ _ _=>False) e s'->False)(hNM:noMark K=true):
  codeAny (model P w) callerA (.call (.ref fa) ⟨[.ref a],[]⟩) (fun r s'=>r=.ok (.ret (.bool true))/\OldK s₁.heap s'.heap/\s'.os=s₁.os/\AllBare s'.gens) s₁:=by
 have rv:=q7e hi;have lenV:=hi.length
 have core:∀H:Hp,Only H->SqL K H a (ns.map V.int)->HOk P w H s₁.heap->(∀b,H b≠none->b=a)->(H a≠none->K.lookup a=none) ->
   codeAny (model P w) callerA (.call (.ref fa) ⟨[.ref a],[]⟩) (fun r s'=>r=.ok (.ret (.bool true))/\OldK s₁.heap s'.heap/\s'.os=s₁.os/\AllBare s'.gens) s₁:=by
  intro H hO hS hok hA hK;have base_of:∀{b:Addr}{o:Obj},s₁.heap.get? b=some o->H b=none->(hidT s₁.heap H).get? b=some o:=fun e n=>x11 e n
  have noA:∀{b:Addr}{o:Obj}{es:Array DictEntry}{ep:Nat},s₁.heap.get? b=some o->o.data=.dict es ep->H b=none:=fun {b o es ep} e d=>by
   cases q:H b with
   |none=>rfl
   |some u=>
    have e':b=a:=hA b (by rw[q];simp);subst e';rw[ha]at e;cases e;have d':Data.seq vs.toArray _=Data.dict es ep:=d;cases d'
  have nsK:∀{b:Addr}{m:Str->Option Value},s₁.heap.Ns b m->(hidT s₁.heap H).Ns b m:=fun {b m} ⟨o,es,ep,e,d,r⟩=>⟨o,es,ep,base_of e (noA e d),d,r⟩
  have hKb:K.In (hidT s₁.heap H):=fun b o e=>base_of (KX b o e) (by
   cases q:H b with
   |none=>rfl
   |some u=>
    have e':b=a:=hA b (by rw[q];simp);subst e';rw[hK (by rw[q];simp)]at e;cases e)
  have hM:Mod K mg (hidT s₁.heap H):=⟨hKb,nsK hns,⟨mb,nsK hb,hbb⟩,let ⟨mc,h1,h2⟩:=hlim;⟨mc,nsK h1,h2⟩⟩;have e0:Env0 P w K mg (hidT s₁.heap H) callerA [] s₁ H:=⟨rfl,hM,fun b o e=>x30 e,Nat.le_of_eq (x0n _ _),trivial,fun b hb=>absurd (show b∈([]:List Addr)from hb) (by simp),hok,.of_eq hg,.vac hNM⟩
  refine codeAny_mono ((F _ hKb (nsK hns)).run callerA [] s₁ H ⟨[.ref a],[]⟩ [.ref a] [.ref a] _ _ hr e0 (hbind s₁ (.ref a)) (.cons rfl .nil) (hsp H hO hS)) fun r s' h=>?_
  cases r with
  |error e=>exact(hCX H e s' h).elim
  |ok fl=>
   cases fl with
   |next=>exact False.elim h
   |brk=>exact False.elim h
   |cont=>exact False.elim h
   |ret u=>
    obtain⟨v,H',os,bare,un,hok',r',q⟩:=h;have q':v=.bl true:=q;subst q';obtain rfl:u=Value.bool true:=r';refine⟨rfl,OldK.of_keep fun b o e=>?_,os,bare⟩
    cases q:H b with
    |none=>exact un.keep b o e q (by intro z;exact absurd (show b∈([]:List Addr)from z) (by simp)) (by simp)
    |some u=>
     rcases hO b with z|⟨ob,xs,z⟩
     ·rw[q]at z;cases z
     ·have z2:=un.frzs b ob _ z;obtain⟨e1,_⟩:=hok b _ z;obtain⟨e2,_⟩:=hok' b _ z2;rw[e]at e1;cases e1;exact e2
 cases hk:K.lookup a with
 |some o=>
  have e:=KX a o hk;rw[ha]at e;cases e;refine core (fun _=>none) (fun _=>.inl rfl) (.inr ⟨_,vs.toArray,_,hk,rfl,rfl,rfl,by rw[w0c,lenV];exact hl,by simpa using rv⟩) (fun b u z=>by have z':(none:Option HO)=some u:=z;cases z') (fun b z=>absurd rfl z) fun z=>absurd rfl z
 |none=>
  refine core (fun b=>if b=a then some (.frz {cls:=.type "list", data:=.seq vs.toArray} (.lst (ns.map V.int)))else none) (fun b=>?_) (.inl (.inr ⟨{cls:=.type "list", data:=.seq vs.toArray},if_pos rfl⟩)) (fun b u z=>?_) (fun b z=>?_) fun _=>hk
  ·by_cases hb:b=a
   ·exact .inr ⟨_,_,if_pos hb⟩
   ·exact .inl (if_neg hb)
  ·by_cases hb:b=a
   ·have z':=(if_pos hb).symm.trans z;cases z';subst hb;exact⟨ha,by rw[w0a];exact hl,vs,_,rv,ha⟩
   ·have z':=(if_neg hb).symm.trans z;cases z'
  ·by_cases hb:b=a
   ·exact hb
   ·exact absurd (if_neg hb) z
noncomputable abbrev KOf{K:PySem.W.Frag}{h:Heap}(_:K.In h):PySem.W.Frag:=K
theorem y2n{l:PySem.W.OpenLaw}{n k:Nat}{q:Program}{loose:List Str}{XP:(Str->Option Value)->Heap->Prop}{YP:World->Heap->Prop}{d:DefRec}{K:Params->PySem.W.Frag}{CX:World->CXT}{sp:World->Sp}{x:Str}
  (hn:l.most=some n)(hn2:n<=sizeLine)(hdf:d.params.defaults=[])(hr:Room k callerA)
  (hY:∀(w:World)(h:Heap),YP w h->(K w.params).In h)
  (F:∀(w:World)(mg:Str->Option Value)(fa:Addr)(h:Heap),(K w.params).In h->h.Ns mainGlobals mg->mg d.name=some (.ref fa) ->
   ∃fd:FuncData,(∀(s:Shared)(u:Value),BindsTo s fd ⟨[u],[]⟩ [(x,u)]) /\
    ∀base:Heap,(K w.params).In base->base.Ns mainGlobals mg->FnOk l.prog w (K w.params) mg base (CX w) k fa fd [x] (sp w))
  (hsp:∀(w:World)(H:Hp)(a:Addr)(ns:List Int),ns.length<=n->Only H->SqL (K w.params) H a (ns.map V.int)->sp w [.ref a] H (fun v _=>v=.bl true) fun _ _ _=>False)
  (hCX:∀(w:World)(H:Hp)(s:Shared)(e:Value)(s':Shared),CX w [] H s (fun _ _ _=>False) e s'->False)(hNM:∀w:World,noMark (K w.params)=true):
  PySem.W.WalkO q loose XP YP l.row.toRowW d [] (fun f vs=>PySem.call f vs):=by
 refine Att.attach_call hn hdf fun w s₀ s₁ mg mb fa o pm cd doc a vs ns G Y ho hd hcd hmg hobj hints hlen hg=>?_
 have KX:=hY w _ Y;obtain⟨fd,hb,hF⟩:=F w mg fa _ KX G.T.g hmg;exact x9a KX G.T.g G.T.b G.T.builtins G.T.nolimit hg hobj hints (w0w hlen hn2) hr hF hb (fun H hO hS=>hsp w H a ns hlen hO hS) (fun H e s'=>hCX w H s₁ e s') (hNM w)
end L2
/- THE LAST THEOREM (shape; LID, My.* are yours):
   My.Adr: a structure of the addresses that your layer names (classes, functions); My.Txt K t: a structure (Prop) of the equations over K;
   My.txt_mk : {K} {implicit addresses ..} (e1 : nsIn K mainGlobals "law" = some (some (.ref f))) (e2 : K.lookup f = some ⟨oc, od, .func (fnOf "law" "law" params body scope dV kV doc pm an cdv ct), sl⟩) (e3 : codeIn K cdv "law" = true) .. : ∃ t, My.Txt K t
set_option maxRecDepth 100000 in
set_option maxHeartbeats 0 in
theorem PySem.Challenge.cw_LID_holds : PySem.Challenge.rw_LID.Holds := by
 w_on; o_law; k_head; (case hw => w_witness2)
 k_fill
 refine L2.y2n (l := PySem.Challenge.rw_LID) (n := 63) (k := 40) (x := "script") (CX := fun w => ..) (sp := fun _ => My.sp_law) rfl (by decide) rfl ⟨rfl, by decide, by decide⟩ (fun w h Y => PySem.W.kIn_of Y) ?F ?S ?C
 case F =>
  intro w mg fa h KX G hmg
  have T : ∃ t, My.Txt (L2.KOf KX) t := by
   dsimp only [L2.KOf]                          -- K must stand as «<heap const> w.params» for k_is;refine' My.txt_mk ?e1 ?e2 ?e3 ..
   (case e1 => PySem.W.k_is)                    -- in the order: a name -> its address -> its object -> its parts
   (case e2 => PySem.W.k_is)
   ..
  obtain ⟨t, T⟩ := T;have e0 := hmg.symm.trans (mg_of KX G T.law);cases e0                                       -- fa is the law's own address;exact ⟨_, fun s u => .of_eq rfl, fun base kb nb => My.law_fn T kb nb⟩     -- if «.of_eq rfl» comes too early: refine' ⟨_, ?b, fun base kb nb => My.law_fn T kb nb⟩; exact fun s u => .of_eq rfl
 case S => exact fun w H a ns hl hO hS => ..
 case C => exact ..
(the tactic k_is has no namespace: write k_is) -/
namespace L2
open PySem PySem.Spec PyProof.Rows
variable{a f:Addr}{A:Around}{X:Cx}{env:Env}{e:Expr}{fd:FuncData}{base h h1:Heap}{H H':Hp}{pins:List (Addr×Obj)}{l:List Env}{es ifs:List Expr}{js:List Nat}{N ps:List Str}{k:Nat}{pos:Pos}{P:Program}{K:PySem.W.Frag}{s:Shared}{sp:Sp}{σ:St}{st:Stmt}{qual x:Str}{mg:Str->Option Value}{te:TE}{v:V}{cls:Value}{w:World}
noncomputable def defArgs(s:Stmt):Arguments:=match s with
 |.FunctionDef _ a _ _ _ _ _ _ _ _=>a
 |_=>{posonlyargs:=[],args:=[],vararg:=none,kwonlyargs:=[],kw_defaults:=[],kwarg:=none,defaults:=[]}
noncomputable def defBody(s:Stmt):List Stmt:=match s with
 |.FunctionDef _ _ b _ _ _ _ _ _ _=>b
 |_=>[]
noncomputable def defScope(s:Stmt):Scope:=match s with
 |.FunctionDef _ _ _ _ _ _ sc _ _ _=>sc
 |_=>{kind:=.function,names:=[],isGenerator:=false,isCoroutine:=false}
noncomputable abbrev CX0:CXT:=fun _ _ _ _ _ _=>False
noncomputable abbrev E0:XK:=fun _ _ _=>False
structure Fun(K:PySem.W.Frag)(x qual:Str)(st:Stmt)(f:Addr)(fd:FuncData):Prop where
 ex:∃(oc:Value)(od:Option Addr)(kV doc pm:Value)(an:Option Addr)(cdv ct:Value)(osl:Array (Option Value)),
  fd=PySem.W.fnOf x qual (defArgs st) (defBody st) (defScope st) .none kV doc pm an cdv ct/\K.lookup f=some ⟨oc,od,.func fd,osl⟩/\PySem.W.codeIn K cdv qual=true
 kp:keepIn K (.ref f)=true
theorem Fun.binds{ps:List Str}(F:Fun K x qual st f fd)
  (h:∀(kV doc pm:Value)(an:Option Addr)(cdv ct:Value)(us:List Value),us.length=ps.length->bindArgs (PySem.W.fnOf x qual (defArgs st) (defBody st) (defScope st) .none kV doc pm an cdv ct) ⟨us,[]⟩=pure (ps.zip us)):Binds K fd ps []:=by
 obtain⟨oc,od,kV,doc,pm,an,cdv,ct,osl,rfl,lk,hcd⟩:=F.ex;exact .all (h kV doc pm an cdv ct)
theorem q0j{st:Stmt}{oc:Value}{od an:Option Addr}{osl:Array (Option Value)}{kV doc pm cdv ct:Value}(l:K.lookup f=some ⟨oc,od,.func (PySem.W.fnOf x qual (defArgs st) (defBody st) (defScope st) .none kV doc pm an cdv ct),osl⟩)
  (c:PySem.W.codeIn K cdv qual=true)(k:keepIn K (.ref f)=true):Fun K x qual st f (PySem.W.fnOf x qual (defArgs st) (defBody st) (defScope st) .none kV doc pm an cdv ct):=⟨⟨oc,od,kV,doc,pm,an,cdv,ct,osl,rfl,l,c⟩,k⟩
theorem pv(i:Nat)(hN:X.N[i]?=some x:=by rfl)(hv:Vis X.env.scope x:=by walk_at "1")(hd:(x==("__debug__":Str))=false:=by decide)
  (hcd:(x==("__classdict__":Str))=false:=by decide):PE X (.Name x pos) (tVar i):=y5k hN hv hd hcd
def Same(H H':Hp):Prop:=∀b o,H b=some o->H' b=some o
theorem Same.refl(H:Hp):Same H H:=fun _ _ h=>h
theorem Same.trans{H1 H2:Hp}(a:Same H H1)(b:Same H1 H2):Same H H2:=fun c o h=>b c o (a c o h)
theorem Same.free(e:Same H H'){l:Addr}(h:H' l=Option.none):H l=Option.none:=by
 cases q:H l with
 |none=>rfl
 |some o=>
  rw[e l o q]at h;cases h
theorem Same.seq{xs:List V}(e:Same H H')(h:SqL K H a xs):SqL K H' a xs:=by
 rcases h with(h|⟨o,h⟩)|h
 ·exact .inl (.inl (e _ _ h))
 ·exact .inl (.inr ⟨o,e _ _ h⟩)
 ·exact .inr h
set_option maxHeartbeats 4000000
theorem ObjOk.get{o:HO}(x:ObjOk P w H h a o):∃ob,h.get? a=some ob:=by
 cases o with
 |lst xs=>obtain⟨_,_,_,_,e⟩:=x;exact⟨_,e⟩
 |tup xs=>obtain⟨_,_,_,p,_⟩:=x;obtain⟨o,e,_⟩:=p;exact⟨o,e⟩
 |dK kvs=>obtain⟨_,_,_,_,o,_,_,e,_⟩:=x;exact⟨_,e⟩
 |dT sh kvs kas=>obtain⟨_,_,_,_,_,o,_,_,e,_⟩:=x;exact⟨_,e⟩
 |set S n=>obtain⟨o,_,_,_,e,_⟩:=x;exact⟨_,e⟩
 |ins C dx fs=>obtain⟨_,_,_,e,_⟩:=x;exact⟨_,e⟩
 |own y=>obtain⟨_,e⟩:=x;exact⟨_,e⟩
 |xd fs=>obtain⟨_,⟨_,_,_,e,_⟩,_⟩:=x;exact⟨_,e⟩
 |rng lo hi=>obtain⟨_,_,_,e⟩:=x;exact⟨_,e⟩
 |frz ob u=>obtain⟨e,_⟩:=x;exact⟨_,e⟩
 |tbl ps=>rcases x with⟨_,_,_,_,e,_⟩|⟨_,_,_,_,_,_,_,_,_,_,_,_,e⟩<;>exact⟨_,e⟩
 |met f y=>exact⟨_,(show h.get? a=some _ from x)⟩
 |ext φ=>obtain⟨_,⟨_,e⟩,_⟩:=x;exact⟨_,e⟩
structure Fly(outer:List Env)(H H':Hp)(h h':Heap)(e:Addr)(cls:Value)(B:Heap):Prop where
 fl:∃a0,Heap.FlyingW B outer e cls a0 h'
 old:∀b o,h.get? b=some o->H b=none->b∉frs outer->B.get? b=some o
 trk:∀b u o,H' b=some u->h'.get? b=some o->B.get? b=some o
 all:∀b o,h.get? b=some o->b∈frs outer\/∃o',B.get? b=some o'
 new:h.get? e=none
noncomputable def CX1(P:Program)(w:World):CXT:=fun outer H s E ev s'=>∃(e:Addr)(cls:Value)(H':Hp)(B:Heap),
 ev=.ref e/\s'.os=s.os/\AllBare s'.gens/\Un (frs outer) [] H H' s.heap s'.heap/\HOk P w H' s'.heap/\Fly outer H H' s.heap s'.heap e cls B/\E cls none H'
def PassX(CX:CXT)(X:Cx)(EE:St->XK):Prop:=∀(pins:List (Addr×Obj))(σ:St)(H:Hp)(s:Shared)(e:Value)(s':Shared),Inv X pins σ H s->CX X.stack H s (EE σ) e s'->X.xe e s'
def RaisX(X:Cx)(EE:St->XK):Prop:=∀(pins:List (Addr×Obj))(σ:St)(H:Hp)(s:Shared)(e:Addr)(cls:Value)(vs:List Value)(h':Heap),Inv X pins σ H s->Heap.MadeExcOf s.heap h' e cls vs->EE σ cls none H->X.xe (.ref e) {s with heap:=h'}
section
variable{CX:CXT}{scope:Scope}{cd:Value}{outer:List Env}{s₀:Shared}{H₀:Hp}{E:XK}
theorem q92{s':Shared}{e:Addr}{B h'':Heap}{a0:Value}
  (I:Inv (cxOf CX P w K mg base N qual scope f cd A outer s₀ H₀ E) pins σ H s)(J:Inv (cxOf CX P w K mg base N qual scope f cd A outer s₀ H₀ E) pins σ H' s')
  (old:∀b o,s.heap.get? b=some o->H b=none->b∉frs (envOfC qual scope s₀.heap.objs.size f cd::outer)->B.get? b=some o)
  (trk:∀b u o,H' b=some u->s'.heap.get? b=some o->B.get? b=some o)
  (all:∀b o,s.heap.get? b=some o->b∈frs (envOfC qual scope s₀.heap.objs.size f cd::outer)\/∃o',B.get? b=some o')
  (new:s.heap.get? e=none)
  (fl:Heap.FlyingW B outer e cls a0 h'')(up:s'.heap.UpToSlots h'')(hE:E cls none H'):
  CX1 P w outer H₀ s₀ E (.ref e) {s' with heap:=h''}:=by
 have neL:∀b o,s₀.heap.get? b=some o->b∉frs outer->b∉frs (envOfC qual scope s₀.heap.objs.size f cd::outer):=fun b o q nb hb=>by
  rcases w0p.mp (show b∈s₀.heap.objs.size::frs outer from hb)with z|z
  ·exact absurd (Heap.lt_size q) (by rw[z];exact w1v _)
  ·exact nb z
 have ex0:∀b:Addr,b∉([]:List Addr):=fun b z=>nomatch z
 have slot:∀b o,s₀.heap.get? b=some o->b∈frs outer->∃sl,h''.get? b=some {o with slots:=sl}:=fun b o q hb=>by
  obtain⟨sl,e1⟩:=J.base.slot b o q (J.ok.frf b hb) hb (ex0 b);obtain⟨_,o2,e2,nd⟩:=J.funs.mem hb
  rw[e1]at e2;cases e2;obtain⟨sl',e3⟩:=up b _ e1 nd;exact⟨sl',e3⟩
 refine⟨e,cls,H',B,rfl,J.os,J.bare,⟨fun b o q n hb hx=>?_,fun b o q n hb hx=>slot b o q hb,fun b o q n hx=>J.base.free b o q n hx,fun b o q hx=>?_,J.base.tups,J.base.frzs,J.base.tbls⟩,fun a o q=>?_,⟨⟨a0,fl⟩,fun b o q n hb=>?_,fun b u o q z=>?_,fun b o q=>?_,?_⟩,hE⟩
 ·exact fl.1 b o (old b o (I.base.keep b o q n hb hx) (I.base.free b o q n hx) (neL b o q hb))
 ·by_cases hb:b∈frs outer
  ·obtain⟨sl,z⟩:=slot b o q hb;exact⟨_,z⟩
  ·obtain⟨o1,e1⟩:=I.base.there b o q hx;rcases all b o1 e1 with z|⟨o',z⟩
   ·exact absurd z (neL b o q hb)
   ·exact⟨o',fl.1 b o' z⟩
 ·refine(J.hok a o q).stay (fun b u hb z=>?_) (fun _ z=>z) fun _ _ _ z=>z
  rcases hb with rfl|hb
  ·exact fl.1 _ _ (trk b o u q z)
  ·exact fl.1 _ _ (trk b _ u hb z)
 ·exact old b o (I.base.keep b o q n hb (ex0 b)) (I.base.free b o q n (ex0 b)) (neL b o q hb)
 ·obtain⟨o1,e1⟩:=(J.hok b u q).get;have e2:=trk b u o1 q e1;have e3:=fl.1 b o1 e2;rw[e3]at z;cases z;exact e2
 ·obtain⟨o1,e1⟩:=I.base.there b o q (ex0 b);rcases all b o1 e1 with z|z
  ·by_cases hb:b∈frs outer
   ·exact .inl hb
   ·exact absurd z (neL b o q hb)
  ·exact .inr z
 ·cases q:s₀.heap.get? e with
  |none=>rfl
  |some o=>
   obtain⟨o1,e1⟩:=I.base.there e o q (ex0 e);rw[new]at e1;cases e1
theorem pass1:PassX (CX1 P w) (cxOf (CX1 P w) P w K mg base N qual scope f cd A outer s₀ H₀ E) (fun _=>E):=by
 intro pins σ H s ev s' I hx;obtain⟨e,cls,H',B,rfl,hos,hg,un,hok,fly,hE⟩:=hx;have J:=I.call' (ch:=[]) hos un hok hg (fun b hb=>nomatch hb)
 obtain⟨a0,fl⟩:=fly.fl;refine wpAny_leaves_onW (base:=B) I.ok.frames rfl fl fun h'' fl2 up=>?_
 exact q92 I J fly.old fly.trk fly.all fly.new fl2 up hE
theorem rais1:RaisX (cxOf (CX1 P w) P w K mg base N qual scope f cd A outer s₀ H₀ E) (fun _=>E):=by
 intro pins σ H s e cls vs h' I hx hE;have J:Inv (cxOf (CX1 P w) P w K mg base N qual scope f cd A outer s₀ H₀ E) pins σ H {s with heap:=h'}:=I.kept (t':=s.toks) hx.keeps;have hin:∀env∈(envOfC qual scope s₀.heap.objs.size f cd::outer),∀b,env.frame=some b->b∈frs (envOfC qual scope s₀.heap.objs.size f cd::outer):=fun env he b hb=>w1p.mpr ⟨env,he,hb⟩
 refine wpAny_leaves_madeW (base:=hideAll s.heap (frs (envOfC qual scope s₀.heap.objs.size f cd::outer))) (h:=s.heap) I.ok.frames rfl (fun b o q=>of_hideAll _ q) (PySem.W.funFrames_hide I.stack hin) hx fun h'' t fl _ _ up=>?_
 refine q92 I J (fun b o q _ nb=>hideAll_get _ q nb) (fun b u o q z=>?_) (fun b o q=>?_) hx.new fl up hE
 ·obtain⟨o1,e1⟩:=(I.hok b u q).get;have e2:=hx.keeps b o1 e1;have z':h'.get? b=some o:=z;rw[e2]at z';cases z';refine hideAll_get _ e1 fun hb=>?_
  rw[I.stkFree b hb]at q;cases q
 ·by_cases hb:b∈frs (envOfC qual scope s₀.heap.objs.size f cd::outer)
  ·exact .inl hb
  ·exact .inr ⟨o,hideAll_get _ q hb⟩
end
theorem passE:PassX (CX1 P w) X (fun _=>E0):=fun _ _ _ _ _ _ _ h=>by
 obtain⟨_,_,_,_,_,_,_,_,_,_,z⟩:=h;exact False.elim z
def tCallX(sp:Sp)(dvs:List V)(EE:St->XK)(t:TA):TE:=fun σ H Q=>t σ H fun vs H1=>sp (vs++dvs) H1 Q (EE σ)
section
variable{CX:CXT}{C:Addr}{dvs:List V}{ds:List Value}{EE:St->XK}{m:Str}{p apos:Pos}{o:Expr}{ta:TE}{t:TA}
theorem y2o{Q:VK}{us:List Value}{vs:List V}(F:FnOk X.prog X.w X.K X.mg X.base CX k f fd ps sp)(hr:Room k X.A)(hb:Binds X.K fd ps ds)(hd:Vals dvs ds)(hx:PassX CX X EE)
  (I:Inv X pins σ H s)(r:Vals vs us)(h:sp (vs++dvs) H Q (EE σ)):wpAny (model X.prog X.w) X.A (call (.ref f) us) (EP X pins σ Q) X.xe s:=by
 have r2:Vals (vs++dvs) (us++ds):=r.append hd;have hl:(us++ds).length=ps.length:=by rw[<- r2.length];exact F.len _ _ _ _ h
 refine wpAny_call (codeAny_mono (F.run X.A X.stack s H ⟨us,[]⟩ (us++ds) (vs++dvs) Q (EE σ) hr I.env0 (hb s us I.kIn hl) r2 h) fun r s' hq=>?_)
 cases r with
 |error e=>exact hx pins σ H s e s' I hq
 |ok fl=>
  cases fl with
  |ret u=>exact I.after hq
  |next=>exact False.elim hq
  |brk=>exact False.elim hq
  |cont=>exact False.elim hq
theorem x9b(F:FnOk X.prog X.w X.K X.mg X.base CX k f fd ps sp)(hr:Room k X.A)(hg:Gl X x)(hm:X.mg x=some (.ref f))(hk:keepIn X.K (.ref f)=true)(hb:Binds X.K fd ps ds)(hd:Vals dvs ds)(hx:PassX CX X EE)
  (ha:PA X (e::es) t)(hdb:(x==("__debug__":Str))=false:=by decide)(he:starEach (e::es) X.env=(false,eval e X.env)::starEach es X.env:=by rfl)(hpl:(backTo pos (starEach es X.env)).any (·.1)=false:=by rfl):
  PE X (.Call (.Name x p) (e::es) [] pos) (tCallX sp dvs EE t):=by
 intro pins s σ H Q I h;refine wpAny_Call_Name_kw (q43 I hg hm ?_ hdb);refine callWith_K (h₀:=X.base) I.ok.mod.kin hk (thn (ha pos pins s σ H _ I h) fun us s1 ⟨vs,H1,I1,r,q⟩=>⟨I1.kIn,?_⟩) he hpl
 exact y2o F hr hb hd hx I1 r q
end
theorem Fun.okX(F:Fun K x qual st f fd)(S:FnScope N ps (defScope st))(len:∀vs H Q E,sp vs H Q E->vs.length=ps.length)
  (hbody:∀(cdv:Value)(A:Around)(outer:List Env)(s:Shared)(H:Hp)(vs:List V)(Q:VK)(E:XK),Room k (A.deeper (envOfC qual (defScope st) s.heap.objs.size f cdv))->sp vs H Q E ->
   ∃t,PSs (cxOf (CX1 P w) P w K mg base N qual (defScope st) f cdv A outer s H E) (defBody st) t/\t {nx:=fun _ H'=>Q .non H',rt:=Q} (start N vs) H):FnOk P w K mg base (CX1 P w) (k+1) f fd ps sp:=by
 obtain⟨oc,od,kV,doc,pm,an,cdv,ct,osl,rfl,lk,hcd⟩:=F.ex;exact y1s lk hcd S len fun A outer s H vs Q E hr hsp=>hbody cdv A outer s H vs Q E hr hsp
noncomputable def strKeysIn(K:PySem.W.Frag)(a:Addr):Bool:=match K.lookup a with
 |some ⟨_,_,.dict es _,_⟩=>es.toList.all fun e=>match e.key with|.str _ _=>true|_=>false
 |_=>false
noncomputable def noInitIn(K:PySem.W.Frag)(a:Addr):Bool:=strKeysIn K a&&PySem.W.nsIn K a "__init__"==some none
noncomputable abbrev veMro:List Value:=[.type "ValueError", .type "Exception", .type "BaseException", .type "object"]
noncomputable def excIn(K:PySem.W.Frag)(C A:Addr):Bool:=match K.lookup C,K.lookup A with
 |some ⟨.type "type", _,.cls cd,sl⟩,some ⟨_,_,.cls ca,_⟩=>(match sl.toList with
   |[_,_,_,_,some (.builtin n),_]=>n=="ValueError.__new__"&&cd.mro==(.ref C::.ref A::veMro)&&!cd.hasDel&&noInitIn K cd.ns&&noInitIn K ca.ns
   |_=>false)
 |_,_=>false
theorem x0v(X:K.In h)(q:noInitIn K a=true):∃m,h.Ns a m/\m "__init__"=none:=by
 unfold noInitIn at q;rw[w1g]at q;obtain⟨q1,q2⟩:=q;unfold strKeysIn at q1;split at q1
 ·rename_i c d es n sl hl
  have hs:StrKeys es:=fun e he=>by
   have:=w1e.mp q1 e (by simpa using he);split at this
   ·rename_i k t hk;exact⟨_,_,hk⟩
   ·cases this
  refine⟨nsFind es,⟨_,es,n,X _ _ hl,rfl,hs,fun _=>rfl⟩,?_⟩
  have q2:=beq_iff_eq.mp q2;unfold PySem.W.nsIn at q2;rw[hl]at q2;dsimp only at q2;unfold nsFind findBy;rw[<- Array.find?_toList];split at q2
  ·cases q2
  ·rename_i he;rw[he];rfl
 ·cases q1
theorem q7f{C A:Addr}(X:K.In h)(q:excIn K C A=true):
  ∃nm qn N bs hdct sn sub ab col dd k0 k1 k2 k3 k5 mN,h.get? C=some (excClassObj nm qn C N bs (.ref A::veMro) hdct sn sub ab col dd k0 k1 k2 k3 k5 "ValueError.__new__")/\h.Ns N mN/\mN "__init__"=none/\OwnTail h veMro (.ref A::veMro):=by
 unfold excIn at q;split at q
 ·rename_i dd cd sl ca0 cad ca csl hC hA;split at q
  ·rename_i k0 k1 k2 k3 n k5 hs;simp only[w1g,beq_iff_eq,Bool.not_eq_true']at q;obtain⟨⟨⟨⟨rfl,hm⟩,hdel⟩,hn⟩,hna⟩:=q;obtain⟨nm,bs,mro,ns,qn,hd,sn,sub,ab,col,del⟩:=cd;dsimp only at hm hdel hn;subst hm hdel
   have hsl:sl=#[k0,k1,k2,k3,some (.builtin "ValueError.__new__"),k5]:=by
    obtain⟨l⟩:=sl;simp only at hs;rw[hs]
   subst hsl;obtain⟨mN,hN,hi⟩:=x0v X hn;obtain⟨mA,hNA,hiA⟩:=x0v X hna;exact⟨nm,qn,ns,bs,hd,sn,sub,ab,col,dd,k0,k1,k2,k3,k5,mN,X _ _ hC,hN,hi,.own (X _ _ hA) hNA hiA .base⟩
  ·cases q
 ·cases q
def tRaise(C:Addr)(EE:St->XK)(t:TA):TS:=fun _ σ H=>t σ H fun vs H1=>vs.length<=sizeLine/\EE σ (.ref C) none H1
section
variable{C Ac:Addr}{EE:St->XK}{np cpos:Pos}{t:TA}
theorem x9c(hx:RaisX X EE)(hc:X.calm=true)(hg:Gl X x)(hm:X.mg x=some (.ref C))(hC:excIn X.K C Ac=true)(ha:PA X (e::es) t)
  (hdb:(x==("__debug__":Str))=false:=by decide)(he:starEach (e::es) X.env=(false,eval e X.env)::starEach es X.env:=by rfl)(hpl:(backTo cpos (starEach es X.env)).any (·.1)=false:=by rfl):
  PS X (.Raise (some (.Call (.Name x np) (e::es) [] cpos)) none pos) (tRaise C EE t):=by
 intro pins s σ H D I h;obtain⟨nm,qn,N,bs,hdct,sn,sub,ab,col,dd,k0,k1,k2,k3,k5,mN,hC1,hN,hi,T⟩:=q7f I.kIn hC
 have hpl2:(backTo cpos (starEach (e::es) X.env)).any (·.1)=false:=by
  rw[he];show(false||(backTo cpos (starEach es X.env)).any (·.1))=false;rw[hpl];rfl
 refine wpAny_Raise_call_subT (C:=C) (nm:=nm) (q:=qn) (N:=N) (bs:=bs) (bm:=.ref Ac::veMro) (hdct:=hdct) (sn:=sn) (sub:=sub) (ab:=ab) (col:=col) (dd:=dd) (k0:=k0) (k1:=k1) (k2:=k2) (k3:=k3) (k5:=k5)
  PySem.F.excBase_ValueError (mN:=mN) (by rfl) (I.ok.hd hc) hpl2 hi (q43 I hg hm ⟨rfl,?_⟩ hdb)
 have key:=ha cpos pins s σ H _ I h;rw[he]at key |-
 refine Calls.evalArgs_plain (wpAny_mono key (fun us s1 ⟨vs,H1,I1,r,hz,q⟩=>?_) fun _ _ y=>y)
 obtain⟨nm',qn',N',bs',hdct',sn',sub',ab',col',dd',k0',k1',k2',k3',k5',mN',hC1',hN',hi',T'⟩:=q7f I1.kIn hC;have kk:∀b o,X.base.get? b=some o->s1.heap.get? b=some o:=I1.bk
 have hCb:X.base.get? C=s1.heap.get? C:=by
  obtain⟨_,_,_,_,_,_,_,_,_,_,_,_,_,_,_,_,z,_⟩:=q7f I.ok.mod.kin hC;rw[z];exact(kk _ _ z).symm
 have hCs:s.heap.get? C=s1.heap.get? C:=by
  obtain⟨_,_,_,_,_,_,_,_,_,_,_,_,_,_,_,_,z,_⟩:=q7f I.ok.mod.kin hC;rw[I.bk _ _ z];exact(kk _ _ z).symm
 have hC2:s1.heap.get? C=some (excClassObj nm qn C N bs (.ref Ac::veMro) hdct sn sub ab col dd k0 k1 k2 k3 k5 "ValueError.__new__"):=hCs ▸ hC1;rw[hC2]at hC1';cases hC1';have em:mN' "__init__"=none:=hi'
 have hN2:s1.heap.Ns N mN:=by
  obtain⟨o1,es1,ep1,a1,a2,a3,a4⟩:=hN;obtain⟨_,_,N3,_,_,_,_,_,_,_,_,_,_,_,_,m3,z3,n3,_,_⟩:=q7f I.ok.mod.kin hC;have z4:=I.bk _ _ z3;rw[hC1]at z4;cases z4;obtain⟨o5,es5,ep5,b1,b2,b3,b4⟩:=n3;have c1:=I.bk _ _ b1;rw[a1]at c1;cases c1;exact⟨_,es1,ep1,I1.bk _ _ b1,a2,a3,a4⟩
 exact⟨rfl,by rw[<- r.length];exact hz,hC2,hN2,T',fun h' ea hme=>hx pins σ H1 s1 ea (.ref C) us h' I1 hme q⟩
end
noncomputable def excO(e:Addr)(cls:Value):HO:=.ext fun h=>∃o vs,h.get? e=some o/\o.cls=cls/\o.data=.fields vs
theorem y2p{e:Addr}(x:∃o vs,h.get? e=some o/\o.cls=cls/\o.data=.fields vs):ObjOk P w H h e (excO e cls):=by
 obtain⟨o,vs,h1,h2,h3⟩:=x;refine⟨⟨o,vs,h1,h2,h3⟩,⟨o,h1⟩,fun g1 g2 ⟨o',vs',q1,q2,q3⟩ k=>⟨o',vs',k o' q1,q2,q3⟩⟩
noncomputable abbrev Cx.tr(X:Cx)(pn:List (Addr×Obj))(xe:Value->Shared->Prop):Cx:={X with pn:=pn,xe:=xe}
noncomputable abbrev Cx.hn(X:Cx)(e:Addr):Cx:={X with A:=X.A.mark (some (.ref e)),calm:=false,xe:=fun _ _=>False}
section
variable{pins':List (Addr×Obj)}{xe:Value->Shared->Prop}{e:Addr}
theorem Cx.Ok.tr(ok:X.Ok)(pn:List (Addr×Obj))(xe:Value->Shared->Prop):(X.tr pn xe).Ok:=
 ⟨ok.mod,ok.kind,ok.glob,ok.blt,ok.above,ok.inj,ok.has,ok.cab,ok.hd,ok.frames,ok.stk,ok.exf,ok.bs,ok.bsz,ok.noex,ok.exfs,ok.funs,ok.frf,ok.tab⟩
theorem Cx.Ok.untr{pn:List (Addr×Obj)}(ok:(X.tr pn xe).Ok):X.Ok:=
 ⟨ok.mod,ok.kind,ok.glob,ok.blt,ok.above,ok.inj,ok.has,ok.cab,ok.hd,ok.frames,ok.stk,ok.exf,ok.bs,ok.bsz,ok.noex,ok.exfs,ok.funs,ok.frf,ok.tab⟩
theorem Cx.Ok.hn(ok:X.Ok)(e:Addr):(X.hn e).Ok:=
 ⟨ok.mod,ok.kind,ok.glob,ok.blt,ok.above,ok.inj,ok.has,ok.cab,(fun z=>nomatch z),ok.frames,ok.stk,ok.exf,ok.bs,ok.bsz,ok.noex,ok.exfs,ok.funs,ok.frf,ok.tab⟩
theorem Inv.tr(I:Inv X pins σ H s)(xe:Value->Shared->Prop):Inv (X.tr (X.pn++pins) xe) [] σ H s:=
 ⟨I.ok.tr _ xe,I.os,I.bare,I.base,I.loc,I.cell,I.free,I.freeC,fun p hp=>I.pin p (by simpa using hp),I.hok,I.len⟩
theorem Inv.untr(I:Inv (X.tr (X.pn++pins) xe) pins' σ H s):Inv X pins σ H s:=
 ⟨I.ok.untr,I.os,I.bare,I.base,I.loc,I.cell,I.free,I.freeC,fun p hp=>I.pin p (w2d _ hp),I.hok,I.len⟩
theorem Inv.hn(I:Inv X pins σ H s)(e:Addr):Inv (X.hn e) pins σ H s:=
 ⟨I.ok.hn e,I.os,I.bare,I.base,I.loc,I.cell,I.free,I.freeC,I.pin,I.hok,I.len⟩
theorem Inv.unhn(ok:X.Ok)(I:Inv (X.hn e) pins σ H s):Inv X pins σ H s:=
 ⟨ok,I.os,I.bare,I.base,I.loc,I.cell,I.free,I.freeC,I.pin,I.hok,I.len⟩
theorem Inv.forget{h':Heap}{m':Str->Option Value}{t:Nat}(I:Inv X pins σ H s)(hs:Heap.SameBut X.env.locals s.heap h')(hn':h'.Ns X.env.locals m'):Inv X pins (List.replicate X.N.length none) H {s with heap:=h',toks:=t}:=by
 obtain⟨m,hn,hl⟩:=id I.loc;obtain⟨oL,_,_,hoL,_⟩:=id hn
 have tracked:HOk X.prog X.w H h':=fun b ob e=>by
  refine(I.hok b ob e).stay (fun c w' hc q=>(hs.2 c ?_).trans q) (fun _ q=>q) fun _ _ _ q=>q
  rintro rfl;rcases hc with rfl|hc
  ·rw[I.free]at e;cases e
  ·rw[I.free]at hc;cases hc
 refine⟨I.ok,I.os,I.bare,⟨fun b o e n hb hx=>?_,fun b o e n hb hx=>?_,I.base.free,fun b o e hx=>?_,I.base.tups,I.base.frzs,I.base.tbls⟩,⟨m',hn',fun j y v' e1 e2 e3=>?_⟩,fun y c e=>?_,I.free,I.freeC,fun p hp=>?_,tracked,by simp⟩
 ·exact(hs.2 b (w0j (w0k (Heap.lt_size e) I.ok.above))).trans (I.base.keep b o e n hb hx)
 ·obtain⟨sl,e1⟩:=I.base.slot b o e n hb hx;exact⟨sl,(hs.2 b (w0j (w0k (Heap.lt_size e) I.ok.above))).trans e1⟩
 ·obtain⟨o',e1⟩:=I.base.there b o e hx;exact⟨o',(hs.2 b (w0j (w0k (Heap.lt_size e) I.ok.above))).trans e1⟩
 ·rw[w1y]at e2;split at e2<;>cases e2
 ·obtain⟨w',z⟩:=I.cell y c e;exact⟨w',z.sameBut hs (I.cne y c e)⟩
 ·obtain⟨e,n,ne,nf,d⟩:=I.pin p hp;exact⟨(hs.2 p.1 ne).trans e,n,ne,nf,d⟩
theorem Fly.un{h2 h3:Heap}{B:Heap}{a0:Value}(un:Un (frs l) [] H H' h1 h2)(fly:Fly l H H' h1 h2 e cls B)(fl:Heap.FlyingW B l e cls a0 h3)(up:h2.UpToSlots h3):Un (frs l) [] H H' h1 h3:=by
 obtain⟨a1,fl1⟩:=fly.fl;have ex0:∀b:Addr,b∉([]:List Addr):=fun b z=>nomatch z
 have slot:∀b o,h1.get? b=some o->H b=none->b∈frs l->∃sl,h3.get? b=some {o with slots:=sl}:=fun b o q n hb=>by
  obtain⟨sl,e1⟩:=un.slot b o q n hb (ex0 b);obtain⟨_,o2,e2,nd⟩:=fl1.2.2.1.mem hb;rw[e1]at e2;cases e2;obtain⟨sl',e3⟩:=up b _ e1 nd;exact⟨sl',e3⟩
 refine⟨fun b o q n hb hx=>fl.1 b o (fly.old b o q n hb),fun b o q n hb hx=>slot b o q n hb,un.free,fun b o q hx=>?_,un.tups,un.frzs,un.tbls⟩
 rcases fly.all b o q with hb|⟨o',z⟩
 ·obtain⟨_,o2,e2,nd⟩:=fl.2.2.1.mem hb;exact⟨o2,e2⟩
 ·exact⟨o',fl.1 b o' z⟩
theorem Fly.hok{h2 h3:Heap}{B:Heap}{a0:Value}(hok:HOk P w H' h2)(fly:Fly l H H' h1 h2 e cls B)(fl:Heap.FlyingW B l e cls a0 h3):HOk P w H' h3:=fun a o q=>by
 refine(hok a o q).stay (fun b u hb z=>?_) (fun _ z=>z) fun _ _ _ z=>z
 rcases hb with rfl|hb
 ·exact fl.1 _ _ (fly.trk b o u q z)
 ·exact fl.1 _ _ (fly.trk b _ u hb z)
theorem Fly.free{h2:Heap}{B:Heap}(hok:HOk P w H' h2)(fly:Fly l H H' h1 h2 e cls B):H' e=none:=by
 obtain⟨a0,fl⟩:=fly.fl;cases q:H' e with
 |none=>rfl
 |some u=>
  obtain⟨o,z⟩:=(hok e u q).get;have:=fly.trk e u o q z;rw[fl.2.1]at this;cases this
theorem Un.taken{fs:List Addr}{h3:Heap}{o:HO}(un:Un fs [] H H' h1 h3)(new:h1.get? e=none)(fr:H' e=none):Un fs [] H (upd H' e o) h1 h3:=by
 refine⟨un.keep,un.slot,fun b ob q n hx=>?_,un.there,fun b xs q=>?_,fun b ob u q=>?_,fun b ps q=>?_⟩
 ·have:b≠e:=fun z=>by rw[z,new]at q;cases q
  rw[q0e this];exact un.free b ob q n hx
 ·have z:=un.tups b xs q;rw[q0e (q0q z fr)];exact z
 ·have z:=un.frzs b ob u q;rw[q0e (q0q z fr)];exact z
 ·obtain⟨more,z⟩:=un.tbls b ps q;exact⟨more,by rw[q0e (q0q z fr)];exact z⟩
theorem HOk.taken{o:HO}(hok:HOk P w H' h)(fr:H' e=none)(new:ObjOk P w (upd H' e o) h e o):HOk P w (upd H' e o) h:=fun b u q=>by
 by_cases hb:b=e
 ·subst hb;rw[q0h]at q;cases q;exact new
 ·rw[q0e hb]at q;exact(hok b u q).stay (fun _ _ _ z=>z) (fun c z=>by rw[q0e (q0q z fr)];exact z) fun c xs _ z=>by rw[q0e (q0q z fr)];exact z
end
structure RoomH(k:Nat)(A:Around):Prop where
 dp:A.depth+3*k+5<recursionLimit
 un:A.units+16*k+200<cLine
 gd:A.guards=some []
theorem Room.hm(r:Room k A)(v:Option Value):RoomH k (A.mark v):=⟨r.dp,r.un,r.gd⟩
theorem RoomH.un0(r:RoomH k A):Room k {A with handled:=none}:=⟨rfl,r.dp,r.un,r.gd⟩
theorem RoomH.deeper(r:RoomH (k+1) A)(env:Env):RoomH k (A.deeper env):=by
 have z:=r.un0.deeper env;exact⟨z.dp,z.un,z.gd⟩
structure FnOkH(P:Program)(w:World)(K:PySem.W.Frag)(mg:Str->Option Value)(base:Heap)(k:Nat)(f:Addr)(fd:FuncData)(ps:List Str)(sp:Sp):Prop where
 len:∀vs H Q E,sp vs H Q E->vs.length=ps.length
 run:∀(A:Around)(outer:List Env)(s:Shared)(H:Hp)(args:Args)(us:List Value)(vs:List V)(Q:VK),RoomH k A->Env0 P w K mg base A outer s H->BindsTo s fd args (ps.zip us)->Vals vs us->sp vs H Q E0 ->
  codeAny (model P w) A (.call (.ref f) args) (CR CX0 outer P w H s Q E0) s
noncomputable abbrev cxH(P:Program)(w:World)(K:PySem.W.Frag)(mg:Str->Option Value)(base:Heap)(N:List Str)(qual:Str)(scope:Scope)(f:Addr)(cd:Value)(A:Around)(outer:List Env)(s:Shared)(H:Hp):Cx:=
 {cxOf CX0 P w K mg base N qual scope f cd A outer s H E0 with calm:=false,xe:=fun _ _=>False}
theorem Fun.okH(F:Fun K x qual st f fd)(S:FnScope N ps (defScope st))(len:∀vs H Q E,sp vs H Q E->vs.length=ps.length)
  (hbody:∀(cdv:Value)(A:Around)(outer:List Env)(s:Shared)(H:Hp)(vs:List V)(Q:VK),RoomH k (A.deeper (envOfC qual (defScope st) s.heap.objs.size f cdv))->sp vs H Q E0 ->
   ∃t,PSs (cxH P w K mg base N qual (defScope st) f cdv A outer s H) (defBody st) t/\t {nx:=fun _ H'=>Q .non H',rt:=Q} (start N vs) H):FnOkH P w K mg base (k+1) f fd ps sp:=by
 obtain⟨oc,od,kV,doc,pm,an,cdv,ct,osl,rfl,lk,hcd⟩:=F.ex;refine⟨len,fun A outer s H args us vs Q hr e0 hb r hsp=>?_⟩
 have hl:=len _ _ _ _ hsp;have KX:K.In s.heap:=e0.mod.kin.keeps fun b o e=>(e0.bs b o e).1
 have lim:s.heap.NoLimit:=e0.mod.nolimit.keeps fun b o e=>(e0.bs b o e).1
 have hkind:∀y∈ps.zip us,(defScope st).names.lookup y.1=some .local\/((defScope st).names.lookup y.1=some .cell/\((cellsFrom (s.heap.objs.size+1) (defScope st).names []).lookup y.1).isSome=true):=fun⟨n,v⟩ hy=>by
  rcases S.par n (w3c hy).1 with q|q
  ·exact .inl q
  ·exact .inr ⟨q,cellsFrom_some _ _ _ (.inl q)⟩
 refine codeAny_call_function (by have:=hr.dp;omega) (KX _ _ lk) rfl S.co S.gen rfl (PySem.W.codeRec_of KX hcd) (hb _ _ _ _ ?_)
 refine wpAny_newFunctionEnv_cells S.kind hkind fun env he s1 x=>?_
 subst he;refine⟨lim.keeps x.toInCall.keep,codeAny_func ?_⟩
 obtain⟨t,ht,hq⟩:=hbody cdv A outer s H vs Q (hr.deeper (envOfC qual (defScope st) s.heap.objs.size f cdv)) hsp;have e0':Env0 P w K mg base {A with handled:=none} outer s H:=⟨e0.frames,e0.mod,e0.bs,e0.bsz,e0.funs,e0.frf,e0.hok,e0.bare,e0.tab⟩
 have I0:Inv (cxOf CX0 P w K mg base N qual (defScope st) f cdv {A with handled:=none} outer s H E0) [] (start N vs) H s1:=x0t S rfl e0' hl r x;have ok0:=I0.ok
 have I:Inv (cxH P w K mg base N qual (defScope st) f cdv A outer s H) [] (start N vs) H s1:=
  ⟨⟨ok0.mod,ok0.kind,ok0.glob,ok0.blt,ok0.above,ok0.inj,ok0.has,ok0.cab,(fun z=>nomatch z),Around.frames_deeper e0.frames,ok0.stk,ok0.exf,ok0.bs,ok0.bsz,ok0.noex,ok0.exfs,ok0.funs,ok0.frf,ok0.tab⟩,
   I0.os,I0.bare,I0.base,I0.loc,I0.cell,I0.free,I0.freeC,I0.pin,I0.hok,I0.len⟩
 refine wpAny_mono (ht [] s1 (start N vs) H _ I hq) (fun fl s' hs=>?_) fun e s' hs=>hs.elim
 have fin:∀{σ':St}{H':Hp}{v:V}{u:Value},Inv (cxH P w K mg base N qual (defScope st) f cdv A outer s H) [] σ' H' s'->RelV v u->Q v H'->CE outer P w H s Q u s':=
  fun {σ' H' v u} J rv q=>⟨v,H',J.os,J.bare,J.base,J.hok,rv,q⟩
 cases fl with
 |ret u=>
  obtain⟨v,σ',H',J,rv,q⟩:=hs;exact fin J rv q
 |next=>
  obtain⟨σ',H',J,q⟩:=hs;exact fin (v:=V.non) (u:=Value.none) J rfl q
 |brk=>
  obtain⟨_,_,_,q⟩:=hs;exact False.elim q
 |cont=>
  obtain⟨_,_,_,q⟩:=hs;exact False.elim q
section
variable{p:Pos}{t:TA}
theorem x9d(F:FnOkH X.prog X.w X.K X.mg X.base k f fd ps sp)(hr:RoomH k X.A)(hg:Gl X x)(hm:X.mg x=some (.ref f))(hk:keepIn X.K (.ref f)=true)(hb:Binds X.K fd ps [])
  (ha:PA X (e::es) t)(hdb:(x==("__debug__":Str))=false:=by decide)(he:starEach (e::es) X.env=(false,eval e X.env)::starEach es X.env:=by rfl)(hpl:(backTo pos (starEach es X.env)).any (·.1)=false:=by rfl):
  PE X (.Call (.Name x p) (e::es) [] pos) (tCall sp [] E0 t):=by
 intro pins s σ H Q I h;refine wpAny_Call_Name_kw (q43 I hg hm ?_ hdb);refine callWith_K (h₀:=X.base) I.ok.mod.kin hk (thn (ha pos pins s σ H _ I h) fun us s1 ⟨vs,H1,I1,r,q⟩=>⟨I1.kIn,?_⟩) he hpl
 have q':sp (vs++[]) H1 Q E0:=q;have r2:Vals (vs++[]) (us++[]):=r.append .nil;have hl:(us++[]).length=ps.length:=by rw[<- r2.length];exact F.len _ _ _ _ q'
 refine wpAny_call (codeAny_mono (F.run X.A X.stack s1 H1 ⟨us,[]⟩ (us++[]) (vs++[]) Q hr I1.env0 (hb s1 us I1.kIn hl) r2 q') fun r s' hq=>?_)
 cases r with
 |error e=>exact False.elim hq
 |ok fl=>
  cases fl with
  |ret u=>exact I1.after hq
  |next=>exact False.elim hq
  |brk=>exact False.elim hq
  |cont=>exact False.elim hq
end
noncomputable abbrev Cx.cp(X:Cx)(Nc:List Str)(scope:Scope)(cl:List (Str×Addr))(C:Addr)(s₀:Shared)(H₀:Hp)(ex:List Addr):Cx:=
 {X with N:=Nc,s₀:=s₀,H₀:=H₀,env:=compEnvC scope cl C X.env,outer:=X.stack,ex:=ex,fn:=fun _=>false,pn:=[],xe:=fun _ _=>False}
theorem q53:∀(names:List (Str×NameKind))(acc:List (Str×Addr)),(∀x∈names,x.2=.free->∃c,env.cells.lookup x.1=some c) ->
  ∃cl,(forIn names acc fun(x:Str×NameKind) (r:List (Str×Addr))=>(if(x.2==NameKind.free)=true then(cellOf env x.1 >>= fun a=>pure (ForInStep.yield ((x.1,a)::r)))else pure (ForInStep.yield r):Sem (ForInStep (List (Str×Addr)))))=pure cl /\
   (∀x c,cl.lookup x=some c->acc.lookup x=some c\/env.cells.lookup x=some c)/\(∀x,((x,NameKind.free)∈names\/(acc.lookup x).isSome=true)->(cl.lookup x).isSome=true)
 |[],acc,_=>⟨acc,rfl,fun x c h=>.inl h,fun x h=>h.elim (fun z=>nomatch z) id⟩
 |(n,k)::r,acc,h=>by
  by_cases hk:k=.free
  ·subst hk;obtain⟨c,hc⟩:=h (n,.free) w1j rfl;obtain⟨cl,e1,e2,e3⟩:=q53 r ((n,c)::acc) fun x hx=>h x (w0z _ hx)
   refine⟨cl,?_,fun x d hd=>?_,fun x hx=>?_⟩
   ·rw[w2q];have:cellOf env n=pure c:=by unfold cellOf;rw[hc]
    simp only[beq_self_eq_true,if_true,this,pure_bind];exact e1
   ·rcases e2 x d hd with z|z
    ·rw[w0t]at z
     by_cases hx:(x==n)=true
     ·rw[hx]at z;have:x=n:=by simpa using hx
      subst this;cases z;exact .inr hc
     ·rw[w1s.mpr hx]at z;exact .inl z
    ·exact .inr z
   ·refine e3 x ?_;rcases hx with z|z
    ·rcases w0p.mp z with y|y
     ·cases y;exact .inr (by rw[w0t];simp)
     ·exact .inl y
    ·refine .inr ?_;rw[w0t]
     by_cases hx:(x==n)=true
     ·rw[hx];rfl
     ·rw[w1s.mpr hx];exact z
  ·obtain⟨cl,e1,e2,e3⟩:=q53 r acc fun x hx=>h x (w0z _ hx)
   refine⟨cl,?_,e2,fun x hx=>e3 x ?_⟩
   ·rw[w2q];have:(k==NameKind.free)=false:=by simpa using hk
    simp only[this,w2a,if_false,pure_bind];exact e1
   ·rcases hx with z|z
    ·rcases w0p.mp z with y|y
     ·cases y;exact absurd rfl hk
     ·exact .inl y
    ·exact .inr z
theorem q5w{scope:Scope}(h:∀x∈scope.names,x.2=.free->∃c,env.cells.lookup x.1=some c):
  ∃cl,closureFor scope env=pure cl/\(∀x c,cl.lookup x=some c->env.cells.lookup x=some c)/\∀x,(x,NameKind.free)∈scope.names->∃c,cl.lookup x=some c:=by
 obtain⟨cl,e1,e2,e3⟩:=q53 scope.names [] h;refine⟨cl,?_,fun x c hc=>(e2 x c hc).resolve_left (fun z=>nomatch z),fun x hx=>w3j.mp (e3 x (.inl hx))⟩
 unfold closureFor
 first
  |exact e1
  |(rw[e1];rfl)
  |(simp only[e1];rfl)
theorem q7g{env : Env} : ∀ {names : List (Str × NameKind)} {x : Str}, (∀ y ∈ names, y.2 ≠ .cell) ->
    ((names.map fun (n, k) => if (k == NameKind.free && env.scope.kind == .function && env.kindOf n == some .cell) then (n, NameKind.cell) else (n, k)).lookup x = some .cell \/
     (names.map fun (n, k) => if (k == NameKind.free && env.scope.kind == .function && env.kindOf n == some .cell) then (n, NameKind.cell) else (n, k)).lookup x = some .free) -> (x, NameKind.free) ∈ names
  | [], x, _, h => by rcases h with h | h <;> cases h
  | (n, k) :: r, x, hc, h => by
    have ih := @q7g env r x fun y hy => hc y (w0z _ hy)
    rw [w0u] at h;dsimp only at h
    by_cases hx : (x == n) = true
    . have e : x = n := by simpa using hx
      subst e
      by_cases hk : k = .free
      . subst hk; exact w1j
      . exfalso
        have hb : (k == NameKind.free) = false := by simpa using hk
        simp only [hb, Bool.false_and, w2a, if_false, w0t, hx] at h;rcases h with h | h
        . exact hc (x, k) w1j (Option.some.inj h)
        . exact hk (Option.some.inj h)
    . refine w0z _ (ih ?_)
      have hb : (x == n) = false := w1s.mpr hx
      by_cases hq : (k == NameKind.free && env.scope.kind == .function && env.kindOf n == some .cell) = true
      . rw [if_pos hq] at h
        simpa only [w0t, hb] using h
      . rw [if_neg hq] at h
        simpa only [w0t, hb] using h
theorem x6m{prog:Program}{R:Result->Shared->Prop}{elt target iter:Expr}{scope:Scope}{it acc:Value}(I:Nat->Shared->Prop)
  (turn:∀n s,I n s->wpAny (model prog w) A (pyNext it) (fun r s1=>match r with
   |none=>R (.ok .next) s1
   |some v=>wpAny (model prog w) A (letOwnedTupleGo target it v) (fun _ s2=>wpAny (model prog w) A (assign target env v) (fun _ s3=>
     wpAny (model prog w) A (forIn ifs true fun c r=>if r=true then do let ok <- isTrue c env (eval c env);pure (ForInStep.yield ok)else pure (ForInStep.yield r)) (fun ok s4=>
      if ok=true then wpAny (model prog w) A (eval elt env) (fun x s5=>wpAny (model prog w) A (call (.builtin "list.append") [acc,x]) (fun _ s6=>∃m,m<n/\I m s6) (fun _ _=>False) s5) (fun _ _=>False) s4
      else ∃m,m<n/\I m s4) (fun _ _=>False) s3) (fun _ _=>False) s2) (fun _ _=>False) s1) (fun _ _=>False) s)
  (n:Nat)(h:I n s):codeAny (model prog w) A (.compLoop (.ListComp elt [⟨target,iter,ifs,0⟩] scope pos) 0 it acc env) R s:=by
 refine codeAny_loop rfl I (fun n s hI=>?_) n h
 show wpAny _ A ((compTurn (.ListComp elt [⟨target,iter,ifs,0⟩] scope pos) 0 it acc env).onRaise (fun x=>do noteFrame x env;theTreesLotGoes x)) _ _ s
 refine wpAny_noted ?_;rw[compTurn_list];refine wpAny_bind (wpAny_standAt (wpAny_bind (wpAny_mono (turn n s hI) (fun r s1 h1=>?_) fun _ _ z=>z.elim)))
 cases r with
 |none=>exact wpAny_pure h1
 |some v=>
  refine wpAny_bind (wpAny_mono h1 (fun _ s2 h2=>?_) fun _ _ z=>z.elim)
  refine wpAny_bind (wpAny_mono h2 (fun _ s3 h3=>?_) fun _ _ z=>z.elim)
  refine wpAny_bind (wpAny_mono h3 (fun ok s4 h4=>?_) fun _ _ z=>z.elim)
  cases ok with
  |false=>exact wpAny_pure ⟨rfl,h4⟩
  |true=>exact wpAny_bind (wpAny_bind (wpAny_mono h4 (fun x s5 h5=>wpAny_bind (wpAny_mono h5 (fun _ s6 h6=>wpAny_pure (wpAny_pure ⟨rfl,h6⟩)) fun _ _ z=>z.elim)) fun _ _ z=>z.elim))
noncomputable def pj(js:List Nat)(σ:St):St:=js.map fun j=>(σ[j]?).getD none
theorem y55{i:Nat}(h:(pj js σ)[i]?=some (some v)):∃j,js[i]?=some j/\σ[j]?=some (some v):=by
 unfold pj at h;rw[w0r]at h;cases e:js[i]? with
 |none=>rw[e]at h;cases h
 |some j=>
  rw[e]at h;have h:(σ[j]?).getD none=some v:=Option.some.inj h;refine⟨j,rfl,?_⟩;cases e2:σ[j]? with
  |none=>rw[e2]at h;cases h
  |some z=>rw[e2]at h;rw[show z=some v from h]
def PTs(X:Cx)(ifs:List Expr)(t:TT):Prop:=
 ∀(pins:List (Addr×Obj))(s:Shared)(σ:St)(H:Hp)(Q:Bool->Hp->Prop),Inv X pins σ H s->t σ H Q ->
  wpAny (model X.prog X.w) X.A (forIn ifs true fun c r=>if r=true then do let ok <- isTrue c X.env (eval c X.env);pure (ForInStep.yield ok)else pure (ForInStep.yield r)) (TP X pins σ Q) X.xe s
def tYes:TT:=fun _ H Q=>Q true H
theorem y2q:PTs X [] tYes:=fun pins s σ H Q I h=>wpAny_tests_nil ⟨H,I,h⟩
def Kp(σ σ':St):Prop:=∀(i:Nat) v,σ[i]?=some (some v)->σ'[i]?=some (some v)
theorem Kp.one:Kp (List.replicate 1 none++σ) (some v::σ):=fun i u h=>by
 cases i with
 |zero=>cases h
 |succ i=>exact h
theorem Kp.two{u:V}:Kp (List.replicate 2 none++σ) (some v::some u::σ):=fun i w h=>by
 match i,h with
 |0,h=>cases h
 |1,h=>cases h
 |i+2,h=>exact h
def tComp(wi:TI)(nl:Nat)(js:List Nat)(g:TG)(tc:TT)(te:TE):TE:=fun σ H Q=>wi σ H fun J H1=>∀D,H1 D=none->∃W:Nat->Nat->Hp->Prop,(∃m,W 0 m (upd H1 D (.lst [])))/\∀i m H2,W i m H2 ->
 (J.stop i H2/\Q (.ref D) H2)\/(J.go i H2/\∀x H3,J.yld i H2 x H3->g x (List.replicate nl none++pj js σ) H3 fun σ4 H4=>Kp (List.replicate nl none++pj js σ) σ4/\tc σ4 H4 fun b H5=>
  if b=true then te σ4 H5 fun y H6=>∃ys,H6 D=some (.lst ys)/\ys.length<sizeLine/\∃m',m'<m/\W (i+1) m' (upd H6 D (.lst (ys++[y])))else ∃m',m'<m/\W (i+1) m' H5)
section
variable{elt target iter:Expr}{scope:Scope}{wi:TI}{g:TG}{tc:TT}
theorem x2a{Nl Nf:List Str}{fp:List Addr}{cl:List (Str×Addr)}{tk:Nat}{mC:Str->Option Value}
  (I:Inv X pins σ H s)(hfp:∀b∈fp,FpOk X pins H b)(hob:∀b∈fp,∃o,s.heap.get? b=some o/\∀v,o.data≠.cell v)
  (hk:scope.kind=.function)(hcell:∀y∈scope.names,y.2≠.cell)(hcl:∀x c,cl.lookup x=some c->X.env.cells.lookup x=some c)(hcf:∀x,(x,NameKind.free)∈scope.names->∃c,cl.lookup x=some c)
  (hj:∀(i j:Nat) y,Nf[i]?=some y->js[i]?=some j->X.N[j]?=some y)(hlen:js.length=Nf.length)
  (hNf:∀y∈Nf,(y,NameKind.free)∈scope.names/\Vis X.env.scope y/\X.env.kindOf y≠some .local)
  (hvis:∀y∈Nf,(relabel scope X.env).names.lookup y=some .cell\/(relabel scope X.env).names.lookup y=some .free)
  (hn:h1.Ns (s.heap.objs.size+1) mC)(hs:Heap.SameBut (s.heap.objs.size+1) ((s.heap.push {cls:=.type "list", dict:=none,data:=.seq ([]:List Value).toArray}).push {cls:=.type "dict", data:=.dict #[]}) h1):
  Inv (X.cp (Nl++Nf) scope cl (s.heap.objs.size+1) {s with heap:=s.heap.push {cls:=.type "list", dict:=none,data:=.seq ([]:List Value).toArray}} (upd H s.heap.objs.size (.lst [])) fp) [] (List.replicate Nl.length none++pj js σ) (upd H s.heap.objs.size (.lst [])) {s with heap:=h1,toks:=tk}:=by
 have fD:H s.heap.objs.size=none:=I.hok.fresh (w0e _);have up1:∀b u,s.heap.get? b=some u->(s.heap.push {cls:=.type "list", dict:=none,data:=.seq ([]:List Value).toArray}).get? b=some u:=fun b u q=>Heap.get?_push_of_some _ q
 have szp:(s.heap.push {cls:=.type "list", dict:=none,data:=.seq ([]:List Value).toArray}).objs.size=s.heap.objs.size+1:=Heap.size_push ..
 have up2:∀b u,(s.heap.push {cls:=.type "list", dict:=none,data:=.seq ([]:List Value).toArray}).get? b=some u->h1.get? b=some u:=fun b u q=>by
  have hlt:=Heap.lt_size q;rw[szp]at hlt;exact(hs.2 b (w0j hlt)).trans (Heap.get?_push_of_some _ q)
 have up:∀b u,s.heap.get? b=some u->h1.get? b=some u:=fun b u q=>up2 b u (up1 b u q)
 have ltOf:∀b o,s.heap.get? b=some o->b≠s.heap.objs.size:=fun b o q=>w0j (Heap.lt_size q)
 have fr0:∀b o,s.heap.get? b=some o->H b=none->upd H s.heap.objs.size (.lst []) b=none:=fun b o q n=>by rw[q0e (ltOf b o q)];exact n
 have hasC:∀x,((relabel scope X.env).names.lookup x=some .cell\/(relabel scope X.env).names.lookup x=some .free)->∃c,cl.lookup x=some c:=fun x hx=>hcf x (q7g hcell hx)
 have hokD:HOk X.prog X.w (upd H s.heap.objs.size (.lst [])) (s.heap.push {cls:=.type "list", dict:=none,data:=.seq ([]:List Value).toArray}):=
  I.hok.laid up1 (w0e _) ⟨w1f _,[],_,.nil,Heap.get?_push_size _ rfl⟩
 have cellK:∀x c,cl.lookup x=some c->∃v,s.heap.IsCell c v:=fun x c e=>I.cell x c (hcl x c e)
 have cellUp:∀c v,s.heap.IsCell c v->h1.IsCell c v:=fun c v ⟨o,q,r⟩=>⟨o,up _ _ q,r⟩
 refine⟨⟨I.ok.mod,hk,I.ok.glob,I.ok.blt,(by show(s.heap.push _).objs.size<=_;rw[szp];exact w0e _),fun x y c e1 e2=>I.ok.inj x y c (hcl x c e1) (hcl y c e2),fun x hx=>hasC x hx,(fun x c z=>nomatch z),I.ok.hd,I.ok.frames,.inl rfl,fun b hb=>⟨?_,fun x c e=>?_⟩,fun b o q=>?_,?_,fun b o q hb=>?_,fun b hb hb2=>?_,?_,fun b hb=>?_,(I.ok.tab.un I.base).laid fD⟩,
  rfl,I.bare,Un.kept up2,⟨mC,hn,fun i y v e1 e2 e3=>?_⟩,fun x c e=>?_,?_,fun x c e=>?_,fun p hp=>(by cases hp),hokD.kept up2,?_⟩
 ·obtain⟨o,q,_⟩:=hob b hb;exact w0j (w1u (Heap.lt_size q))
 ·exact(hfp b hb).2.2.2.2.1 x c (hcl x c e)
 ·obtain⟨q1,q2⟩:=I.bs b o q;exact⟨up1 _ _ q1,fr0 b o q1 q2⟩
 ·show X.base.objs.size<=(s.heap.push _).objs.size;rw[szp];exact Nat.le_succ_of_le (w0w I.ok.bsz I.sz)
 ·rcases(hfp b hb).2.2.2.1 with z|z
  ·exact I.ok.noex b o q z
  ·obtain⟨q1,_⟩:=I.ok.bs b o q;exact absurd (Heap.lt_size q1) (w2u.mpr z)
 ·rcases w0p.mp (I.stkSub b hb2)with z|z
  ·exact(hfp b hb).2.1 z
  ·exact(hfp b hb).2.2.1 z
 ·exact I.stack.of_keeps fun b o q _=>⟨o,up1 _ _ q,rfl⟩
 ·obtain⟨_,o,q,_⟩:=I.stack.mem hb;exact fr0 b o q (I.stkFree b hb)
 ·-- the names
  have e2':(List.replicate Nl.length none++pj js σ)[i]?=some (some v):=e2;have e1':(Nl++Nf)[i]?=some y:=e1
  by_cases hi:i<Nl.length
  ·rw[w1d (by simpa using hi),w1y]at e2';split at e2'<;>cases e2'
  ·have hi':Nl.length<=i:=w2u.mp hi;rw[w1n (by simpa using hi')]at e2';rw[w1n hi']at e1';rw[w2w]at e2';obtain⟨j,ej,eσ⟩:=y55 e2';have hNy:=hj _ _ _ e1' ej;obtain⟨hfr,hv,hnl⟩:=hNf y (w0v e1');obtain⟨m,hm,hl⟩:=I.loc;obtain⟨u,r,l⟩:=hl j y v hNy eσ hv;refine⟨u,r,?_⟩;rcases l with⟨k,_⟩|⟨k,c,ec,z⟩
   ·exact absurd k hnl
   ·obtain⟨c',ec'⟩:=hcf y hfr;have:=hcl y c' ec';rw[ec]at this;cases this;exact .inr ⟨hvis y (w0v e1'),c,ec',cellUp _ _ z⟩
 ·obtain⟨v,z⟩:=cellK x c e;exact⟨v,cellUp _ _ z⟩
 ·show upd H s.heap.objs.size (.lst []) (s.heap.objs.size+1)=none;rw[q0e (Nat.succ_ne_self _)];exact I.hok.fresh (w3d _)
 ·obtain⟨v,o,q,_⟩:=cellK x c e;exact fr0 c o q (I.freeC x c (hcl x c e))
 ·show(List.replicate Nl.length none++pj js σ).length=(Nl++Nf).length;rw[w0q,w0q,w2w];unfold pj;rw[w0a,hlen]
theorem x2b{σ':St}{s':Shared}{Nc:List Str}{fp:List Addr}{cl:List (Str×Addr)}{h':Heap}
  (I:Inv X pins σ H s)(hfp:∀b∈fp,FpOk X pins H b)
  (J:Inv (X.cp Nc scope cl (s.heap.objs.size+1) {s with heap:=s.heap.push {cls:=.type "list", dict:=none,data:=.seq ([]:List Value).toArray}} (upd H s.heap.objs.size (.lst [])) fp) [] σ' H' s')
  (hs:Heap.SameBut (s.heap.objs.size+1) s'.heap h'):Inv X pins σ H' {s' with heap:=h'}:=by
 have fD:H s.heap.objs.size=none:=I.hok.fresh (w0e _);have up1:∀b u,s.heap.get? b=some u->(s.heap.push {cls:=.type "list", dict:=none,data:=.seq ([]:List Value).toArray}).get? b=some u:=fun b u q=>Heap.get?_push_of_some _ q
 have neC:∀b o,s.heap.get? b=some o->b≠s.heap.objs.size+1:=fun b o q=>w0j (w1u (Heap.lt_size q))
 have fr0:∀b o,s.heap.get? b=some o->H b=none->upd H s.heap.objs.size (.lst []) b=none:=fun b o q n=>by rw[q0e (w0j (Heap.lt_size q))];exact n
 have old:∀b u,H b=some u->upd H s.heap.objs.size (.lst []) b=some u:=fun b u q=>by rw[q0e (q0q q fD)];exact q
 have B:Un (frs X.stack) fp (upd H s.heap.objs.size (.lst [])) H' (s.heap.push {cls:=.type "list", dict:=none,data:=.seq ([]:List Value).toArray}) s'.heap:=J.base;have hC:H' (s.heap.objs.size+1)=none:=J.free;refine I.call' (s':={s' with heap:=h'}) (ch:=fp) (J.os.trans rfl) ⟨fun b o q n hb hx=>?_,fun b o q n hb hx=>?_,fun b o q n hx=>B.free b o (up1 _ _ q) (fr0 b o q n) hx,fun b o q hx=>?_,fun b xs q=>B.tups b xs (old _ _ q),fun b o u q=>B.frzs b o u (old _ _ q),fun b ps q=>B.tbls b ps (old _ _ q)⟩ (fun a o q=>?_) J.bare fun b hb=>?_
 ·exact(hs.2 b (neC b o q)).trans (B.keep b o (up1 _ _ q) (fr0 b o q n) hb hx)
 ·obtain⟨sl,z⟩:=B.slot b o (up1 _ _ q) (fr0 b o q n) hb hx;exact⟨sl,(hs.2 b (neC b o q)).trans z⟩
 ·obtain⟨o',z⟩:=B.there b o (up1 _ _ q) hx;exact⟨o',(hs.2 b (neC b o q)).trans z⟩
 ·refine(J.hok a o q).stay (fun c v hc z=>(hs.2 c ?_).trans z) (fun _ z=>z) fun _ _ _ z=>z
  rintro rfl;rcases hc with rfl|hc
  ·rw[hC]at q;cases q
  ·rw[hC]at hc;cases hc
 ·obtain⟨_,f1,f2,f3,f4,f5⟩:=hfp b hb;exact⟨f3,f1,f4,f5⟩
theorem y2r{Nl Nf:List Str}(hc:X.calm=true)(hi:PI X target iter wi)
  (hk:scope.kind=.function)(hcell:∀y∈scope.names,y.2≠.cell)(hnames:∀x∈scope.names,x.2=.local->scope.names.lookup x.1=some .local)
  (hfree:∀x∈scope.names,x.2=.free->X.env.kindOf x.1=some .cell\/X.env.kindOf x.1=some .free)
  (hj:∀(i j:Nat) y,Nf[i]?=some y->js[i]?=some j->X.N[j]?=some y)(hlen:js.length=Nf.length)
  (hNf:∀y∈Nf,(y,NameKind.free)∈scope.names/\Vis X.env.scope y/\X.env.kindOf y≠some .local)
  (hvis:∀y∈Nf,(relabel scope X.env).names.lookup y=some .cell\/(relabel scope X.env).names.lookup y=some .free)
  (hg:∀cl C s₀ H₀ ex,PG (X.cp (Nl++Nf) scope cl C s₀ H₀ ex) target g)(ht:∀cl C s₀ H₀ ex,PTs (X.cp (Nl++Nf) scope cl C s₀ H₀ ex) ifs tc)(he:∀cl C s₀ H₀ ex,PE (X.cp (Nl++Nf) scope cl C s₀ H₀ ex) elt te)
  (hs:∀x,foldedSetIterable iter X.env x=pure x:=by intro _;rfl):
  PE X (.ListComp elt [⟨target,iter,ifs,0⟩] scope pos) (tComp wi Nl.length js g tc te):=by
 intro pins s σ H Q I h;obtain⟨cl,hclos,hcl,hcf⟩:=q5w (scope:=scope) (env:=X.env) fun x hx hf=>I.ok.has x.1 (hfree x hx hf)
 rw[eval_ListComp];refine wpAny_comprehension_free (use:=none) rfl hs hclos hk hnames (thn (hi pins s σ H _ I h) fun v s1 h1=>thn h1 fun itv s2 h2=>?_)
 obtain⟨it,fp,tn,J,H2,e,I2,T,st2,f2,rd⟩:=h2;subst e;refine wpAny_newObj_type (wpAny_newFunctionEnv hcell (by intro y hy;simp at hy) (fun h₁ hns₁ hsb₁=>?_) hk)
 dsimp only at hns₁ hsb₁ |-
 have szp:(s2.heap.push {cls:=.type "list", dict:=none,data:=.seq ([]:List Value).toArray}).objs.size=s2.heap.objs.size+1:=Heap.size_push ..;rw[szp]at hns₁ hsb₁ |-
 have fD:H2 s2.heap.objs.size=none:=I2.hok.fresh (w0e _);obtain⟨W,⟨m0,w0⟩,turn⟩:=rd s2.heap.objs.size fD;have obj2:=T.obj 0 s2.heap st2;have IS:=x2a (Nl:=Nl) (Nf:=Nf) (js:=js) (cl:=cl) (tk:=s2.toks+([]:List (Str×Value)).length) I2 f2 obj2 hk hcell hcl hcf hj hlen hNf hvis hns₁ hsb₁
 have upS:∀b u,s2.heap.get? b=some u->h₁.get? b=some u:=fun b u q=>by
  have hlt:=Heap.lt_size q;exact(hsb₁.2 b (w0j (w1u hlt))).trans (Heap.get?_push_of_some _ (Heap.get?_push_of_some _ q))
 have stS:tn 0 h₁:=T.keep 0 s2.heap h₁ st2 fun b hb o q=>upS b o q
 have noD:∀b∈fp,upd H2 s2.heap.objs.size (.lst []) b=none:=fun b hb=>by
  obtain⟨o,q,_⟩:=obj2 b hb;rw[q0e (w0j (Heap.lt_size q))];exact(f2 b hb).1
 have stat:∀{H':Hp},(∀b∈fp,H' b=none)->∀b∈fp,FpOk (X.cp (Nl++Nf) scope cl (s2.heap.objs.size+1) {s2 with heap:=s2.heap.push {cls:=.type "list", dict:=none,data:=.seq ([]:List Value).toArray}} (upd H2 s2.heap.objs.size (.lst [])) fp) [] H' b:=fun hn b hb=>by
  refine⟨hn b hb,(IS.ok.exf b hb).1,IS.ok.exfs b hb,.inl hb,(IS.ok.exf b hb).2,fun p hp=>(by cases hp)⟩
 have loop:∀s4:Shared,s4={s2 with heap:=h₁,toks:=s2.toks+([]:List (Str×Value)).length} ->
   codeAny (model X.prog X.w) X.A (.compLoop (.ListComp elt [⟨target,iter,ifs,0⟩] scope pos) 0 (.ref it) (.ref s2.heap.objs.size) (compEnvC scope cl (s2.heap.objs.size+1) X.env))
    (compPost (model X.prog X.w) X.A X.xe none (EP X pins σ Q) (.ref s2.heap.objs.size) (s2.heap.objs.size+1)) s4:=by
  rintro s4 rfl;refine x6m (fun n s'=>∃i H',Inv (X.cp (Nl++Nf) scope cl (s2.heap.objs.size+1) {s2 with heap:=s2.heap.push {cls:=.type "list", dict:=none,data:=.seq ([]:List Value).toArray}} (upd H2 s2.heap.objs.size (.lst [])) fp) [] (List.replicate Nl.length none++pj js σ) H' s'/\tn i s'.heap/\(∀b∈fp,H' b=none)/\W i n H') ?_ m0 ⟨0,_,IS,stS,noD,w0⟩
  rintro n s3 ⟨i,H3,I3,st3,fr3,w3⟩;rcases turn i n H3 w3 with⟨stop,qn⟩|⟨go,step⟩
  ·refine thn (T.done (X.cp (Nl++Nf) scope cl (s2.heap.objs.size+1) {s2 with heap:=s2.heap.push {cls:=.type "list", dict:=none,data:=.seq ([]:List Value).toArray}} (upd H2 s2.heap.objs.size (.lst [])) fp) rfl rfl rfl hc i [] s3 _ H3 _ I3 (stat fr3) st3 stop) fun r s5 ⟨hr,I5⟩=>?_
   subst hr;obtain⟨m5,hn5,_⟩:=I5.loc;refine⟨m5,hn5,fun h' hs'=>⟨.ref s2.heap.objs.size,H3,x2b I2 f2 I5 hs',rfl,qn⟩⟩
  ·refine thn (T.item (X.cp (Nl++Nf) scope cl (s2.heap.objs.size+1) {s2 with heap:=s2.heap.push {cls:=.type "list", dict:=none,data:=.seq ([]:List Value).toArray}} (upd H2 s2.heap.objs.size (.lst [])) fp) rfl rfl rfl hc i [] s3 _ H3 _ I3 (stat fr3) st3 go) fun r s5 ⟨u,hr,h5⟩=>?_
   subst hr;refine thn h5 fun _ s6 ⟨x,H6,I6,r6,y6,st6,fr6⟩=>?_
   have I6':=I6.pinned (stat fr6) (T.obj _ _ st6);refine thn (hg _ _ _ _ _ _ s6 _ H6 x u _ I6' r6 (step x H6 y6)) fun _ s7 ⟨σ7,H7,I7,kp,q7⟩=>?_
   refine thn (ht _ _ _ _ _ _ s7 σ7 H7 _ I7 q7) fun ok s8 ⟨H8,I8,q8⟩=>?_
   have again:∀{σ9:St}{H9:Hp}{s9:Shared},Inv (X.cp (Nl++Nf) scope cl (s2.heap.objs.size+1) {s2 with heap:=s2.heap.push {cls:=.type "list", dict:=none,data:=.seq ([]:List Value).toArray}} (upd H2 s2.heap.objs.size (.lst [])) fp) ([]++pinsAt fp s6.heap) σ9 H9 s9 ->
     Kp (List.replicate Nl.length none++pj js σ) σ9->(∃m',m'<n/\W (i+1) m' H9)->∃m,m<n/\∃i H',Inv (X.cp (Nl++Nf) scope cl (s2.heap.objs.size+1) {s2 with heap:=s2.heap.push {cls:=.type "list", dict:=none,data:=.seq ([]:List Value).toArray}} (upd H2 s2.heap.objs.size (.lst [])) fp) [] (List.replicate Nl.length none++pj js σ) H' s9/\tn i s9.heap/\(∀b∈fp,H' b=none)/\W i m H':=fun {σ9 H9 s9} I9 hw ⟨m',hm,w9⟩=>by
    refine⟨m',hm,i+1,H9,I9.unpinned.weak (by rw[I9.len,<- IS.len]) hw,T.keep _ _ _ st6 fun b hb o q=>(I9.pin (b,o) (w0o _ (w0o _ (q3w hb q)))).1,fun b hb=>?_,w9⟩
    obtain⟨o,q,d⟩:=T.obj _ _ st6 b hb;exact(I9.pin (b,o) (w0o _ (w0o _ (q3w hb q)))).2.1
   cases ok with
   |false=>exact again I8 kp (by simpa using q8)
   |true=>
    have q8':=by simpa only[if_true]using q8
    refine thn (he _ _ _ _ _ _ s8 σ7 H8 _ I8 q8') fun y s9 ⟨yv,H9,I9,r9,ys,hD,hz,q9⟩=>?_
    refine thn (q7d _ s9 σ7 H9 (.ref s2.heap.objs.size) [yv] (.ref s2.heap.objs.size) [y] (fun v H'=>v=.non/\H'=upd H9 s2.heap.objs.size (.lst (ys++[yv]))) I9 rfl (.cons r9 .nil) ⟨_,ys,yv,rfl,rfl,hD,hz,rfl,rfl⟩) fun _ s10 ⟨_,H10,I10,_,_,e10⟩=>?_
    subst e10;exact again I10 kp q9
 exact codeAny_compStart_list (loop _ rfl) (T.self X.A 0 _ _ _ stS (loop _ rfl))
end
theorem q54{env:Env}:∀{names:List (Str×NameKind)}{x:Str},names.lookup x=some .free ->
  (names.map fun(n,k)=>if(k==NameKind.free&&env.scope.kind==.function&&env.kindOf n==some .cell)then(n,NameKind.cell)else(n,k)).lookup x=some .cell \/
  (names.map fun(n,k)=>if(k==NameKind.free&&env.scope.kind==.function&&env.kindOf n==some .cell)then(n,NameKind.cell)else(n,k)).lookup x=some .free
 |[],x,h=>by cases h
 |(n,k)::r,x,h=>by
  have ih:=@q54 env r x;rw[w0u];dsimp only
  by_cases hx:(x==n)=true
  ·simp only[w0t,hx]at h;cases h
   by_cases hq:(NameKind.free==NameKind.free&&env.scope.kind==.function&&env.kindOf n==some .cell)=true
   ·rw[if_pos hq];left;simp[w0t,hx]
   ·rw[if_neg hq];right;simp[w0t,hx]
  ·have hb:(x==n)=false:=w1s.mpr hx;simp only[w0t,hb]at h;have z:=ih h
   by_cases hq:(k==NameKind.free&&env.scope.kind==.function&&env.kindOf n==some .cell)=true
   ·rw[if_pos hq];simpa only[w0t,hb]using z
   ·rw[if_neg hq];simpa only[w0t,hb]using z
noncomputable def compOk(sc scope:Scope)(N Nf:List Str)(js:List Nat):Bool:=
 scope.kind==.function&&scope.names.all (fun y=>y.2 != .cell)&&scope.names.all (fun y=>y.2 != .local||scope.names.lookup y.1==some .local) &&
 scope.names.all (fun y=>y.2 != .free||sc.names.lookup y.1==some .cell||sc.names.lookup y.1==some .free)&&js.length==Nf.length &&
 (List.range js.length).all (fun i=>match js[i]?,Nf[i]? with|some j,some y=>N[j]?==some y|_,_=>true) &&
 Nf.all (fun y=>scope.names.lookup y==some .free&&(sc.names.lookup y==some .cell||sc.names.lookup y==some .free))
theorem q8l{elt target iter:Expr}{scope sc:Scope}{wi:TI}{g:TG}{tc:TT}{Nl Nf:List Str}(hc:X.calm=true)(hi:PI X target iter wi)
  (ok:compOk sc scope N Nf js=true)
  (hg:∀cl C s₀ H₀ ex,PG (X.cp (Nl++Nf) scope cl C s₀ H₀ ex) target g)(ht:∀cl C s₀ H₀ ex,PTs (X.cp (Nl++Nf) scope cl C s₀ H₀ ex) ifs tc)(he:∀cl C s₀ H₀ ex,PE (X.cp (Nl++Nf) scope cl C s₀ H₀ ex) elt te)
  (hsc:X.env.scope=sc:=by rfl)(hN:X.N=N:=by rfl)(hs:∀x,foldedSetIterable iter X.env x=pure x:=by intro _;rfl):
  PE X (.ListComp elt [⟨target,iter,ifs,0⟩] scope pos) (tComp wi Nl.length js g tc te):=by
 unfold compOk at ok;simp only[w1g,w1e,beq_iff_eq,bne_iff_ne,w2f,w1m]at ok;obtain⟨⟨⟨⟨⟨⟨k1,k2⟩,k3⟩,k4⟩,k5⟩,k6⟩,k7⟩:=ok;have kind:∀x,X.env.kindOf x=sc.names.lookup x:=fun x=>by rw[<- hsc];rfl
 refine y2r hc hi k1 k2 (fun x hx hl=>(k3 x hx).resolve_left fun z=>z hl) (fun x hx hf=>?_) (fun i j y e1 e2=>?_) k5 (fun y hy=>?_) (fun y hy=>?_) hg ht he hs
 ·rw[kind];rcases k4 x hx with(z|z)|z
  ·exact absurd hf z
  ·exact .inl z
  ·exact .inr z
 ·have hlt:i<js.length:=(w0b.mp e2).1;have z:=k6 i hlt;rw[e1,e2]at z;rw[hN]
  simpa using z
 ·obtain⟨z1,z2⟩:=k7 y hy;refine⟨PySem.mem_of_lookup z1,?_,?_⟩
  ·rw[hsc];rcases z2 with z|z
   ·exact .inr (.inl z)
   ·exact .inr (.inr z)
  ·rw[kind];rcases z2 with z|z<;>(rw[z];decide)
 ·exact q54 (k7 y hy).1
abbrev TF:=Str->St->Hp->(Str->Hp->Prop)->Prop
def PF(X:Cx)(es:List Expr)(t:TF):Prop:=∀(acc:Str)(pins:List (Addr×Obj))(s:Shared)(σ:St)(H:Hp)(Q:Str->Hp->Prop),Inv X pins σ H s->t acc σ H Q ->
 Joins (model X.prog X.w) X.A X.xe (evalEach es X.env) acc (fun out s'=>out.length<=sizeLine/\∃H',Inv X pins σ H' s'/\Q out H') s
namespace RevT
variable{I c f:Addr}{A:Around}{X:Cx}{e:Expr}{h:Heap}{H H':Hp}{es:List Expr}{ps:List Str}{k:Nat}{p pos:Pos}{P prog:Program}{K:PySem.W.Frag}{s:Shared}{EE:St->XK}{x:Str}{te:TE}{E:Value->Shared->Prop}{w:World}
theorem nolen:typeLookup (.type "list_reverseiterator") "__len__"=pure none:=by rw[typeLookup_type,builtinLookup_eq_fast];kernel_rfl
theorem hint:typeLookup (.type "list_reverseiterator") "__length_hint__"=pure (some (.builtin "list_reverseiterator.__length_hint__")):=by rw[typeLookup_type,builtinLookup_eq_fast];kernel_rfl
section
variable{fp wr:List Addr}{G:Array GenState->Array GenState->Prop}{n:Nat}{P:Nat->Value->Prop}{St:Nat->Shared->Prop}
theorem x3i{Q:List Value->Shared->Prop}(W:WalksS prog w A.in1 I fp wr G n P St)(hT:∀i s,St i s->s.TypeIs (.ref I) "list_reverseiterator")(hst:St 0 s)(hfp:∀b∈fp,b<s.heap.objs.size)(hI:I∈fp)
  (hQ:∀s' acc,Moved wr G s s'->ItemsOf P acc n->Q acc.toList s')(hn:n<=sizeLine):wpAny (model prog w) A (collect (.ref I)) Q E s:=by
 have hSf:s.heap.objs.size∉fp:=fun hm=>w1v _ (hfp _ hm)
 have hSI:s.heap.objs.size≠I:=fun e=>hSf (e ▸ hI)
 unfold collect;refine wpAny_bind (wpAny_runValue (codeAny_builtin F.entry_proto_collect ?_));rw[Around.under_plainId F.plain_proto_collect _];show wpAny _ A.in1 (newList [] >>= fun l=>again (.builtin "list.__iadd__" ⟨[l,.ref I],[]⟩)) _ _ s
 refine wpAny_bind (wpAny_newObj_type ?_);refine wpAny_pure ⟨plainId_quiet F.plain_list_iadd _,codeAny_builtin F.entry_list_iadd ?_⟩;rw[Around.under_plainId F.plain_list_iadd _];have hst1:=W.frame 0 s (s.heap.push {cls:=.type "list", data:=.seq ([]:List Value).toArray}) s.toks hst (w0e _) fun b _ o e=>Heap.get?_push_of_some _ e
 have hS1:(s.heap.push {cls:=.type "list", data:=.seq ([]:List Value).toArray}).get? s.heap.objs.size=some {cls:=.type "list", data:=.seq ([]:List Value).toArray}:=Heap.get?_push_size _ rfl;have h1:Builtin.List.listSameRef (.ref s.heap.objs.size) (.ref I)=false:=by simp[Builtin.List.listSameRef,hSI]
 show wpAny _ A.in1 (Builtin.List.listExtendWith (.ref s.heap.objs.size) (.ref I) (.ref s.heap.objs.size)) _ _ _;unfold Builtin.List.listExtendWith;refine wpAny_bind (wpAny_typeOf (hT 0 _ hst1) ?_);rw[if_neg (by rw[h1];decide)];refine wpAny_bind (W.self 0 _ _ _ hst1 ?_);refine wpAny_bind (wpAny_holding ?_);unfold Builtin.List.listLengthHint;refine wpAny_bind (wpAny_specialOf (hT 0 _ hst1) nolen ?_);show wpAny _ A.in1 (specialOf (Value.ref I) (Str.ofString "__length_hint__") >>= _) _ _ _;refine wpAny_bind (wpAny_specialOf (hT 0 _ hst1) hint ?_)
 (generalize hid:("list_reverseiterator.__length_hint__":String)=id0;(fail_if_success (clear hid id0));wp_delta;rw[show splitId id0=some ("list_reverseiterator", "__length_hint__")from by subst hid;decide +kernel];subst hid)
 refine wpAny_bind (wpAny_isInstance (b:=true) (hT 0 _ hst1) (by rw[isSubtype_type];kernel_rfl) ?_);refine wpAny_pure ?_;rw[if_neg (by decide)];refine wpAny_pure ⟨plainId_quiet F.plain_extend_loop _,codeAny_extend_loopS W hn _ hSf _ n 0 _ _ _ rfl (w1f _) hst1 hS1 (ItemsOf.nil P) fun s' acc' c' hm hS' hacc=>?_⟩
 show wpAny _ A (load s.heap.objs.size >>= _) _ _ s';refine wpAny_bind (wpAny_load hS' ?_);exact wpAny_pure (hQ s' acc' (Moved.drop_new (o:={cls:=.type "list", data:=.seq ([]:List Value).toArray}) (tk:=s.toks) hm (w0e _)) hacc)
end
open AutoSeq1 (wpAny_loadPart')
theorem x4z{l:Addr}{items:Array Value}{Q:List Value->Shared->Prop}(hh:A.handled=none)(hne:l≠I)(hit:s.heap.IsRevIter I l ((items.size:Int)-1))(hl:s.heap.IsList l items)(hsz:items.size<=sizeLine)
  (hQ:∀s' acc,Moved [I] (fun a b=>b=a) s s'->ItemsOf (fun i v=>items[items.size-1-i]?=some v) acc items.size->Q acc.toList s'):wpAny (model prog w) A (collect (.ref I)) Q E s:=by
 have hlt:∀b∈[I,l],b<s.heap.objs.size:=fun b hb=>by
  rcases w0p.mp hb with z|z
  ·rw[z];obtain⟨_,e,_⟩:=hit;exact Heap.lt_size e
  ·rw[w0g.mp z];obtain⟨_,e,_⟩:=hl;exact Heap.lt_size e
 exact x3i (Walks.listRev (A:=A.in1) hh I l hne items).toS (fun _ _ st=>st.2.1.typeIs) ⟨w1f _,by simpa using hit,hl⟩ hlt w1j hQ hsz
theorem x1m(I l:Addr)(items:Array Value)(hne:l≠I)(hsz:items.size<=sizeLine):
  Meets (Builtin.«tuple.__new__» ⟨[.type "tuple", .ref I],[]⟩)
   (fun A R s=>A.handled=none/\s.heap.IsRevIter I l ((items.size:Int)-1)/\s.heap.IsList l items/\∀(s':Shared)(acc:Array Value),Moved [I] (fun a b=>b=a) s s'->ItemsOf (fun i v=>items[items.size-1-i]?=some v) acc items.size ->
    R (.ok (.ret (.ref s'.heap.objs.size))) {s' with heap:=s'.heap.push {cls:=.type "tuple", data:=.seq acc}}):=
 .of_wp fun prog w A R s h=>by
  obtain⟨hh,hit,hl,h⟩:=h;have hsub:=sub_tuple_self;have hinit:=init_tuple_lookup;have hmh:=madeHere_tuple;have hT:s.TypeIs (.ref I) "list_reverseiterator":=hit.typeIs;have hh1:A.in1.handled=none:=hh
  wp_walk using wpAny_typeOf hT,x4z hh1 hne hit hl hsz
  intro s' acc hm hacc;show wpAny _ _ (Builtin.Tuple.tupleExact acc.toList.toArray >>= fun v=>ret v) _ _ _
  unfold Builtin.Tuple.tupleExact;refine wpAny_bind (wpAny_newObj_type ?_ (show acc.toList.toArray.size<=sizeLine by simp only[Array.toArray_toList];rw[hacc.1];exact hsz));refine wpAny_pure ⟨_,rfl,?_⟩;have e:acc.toList.toArray=acc:=by simp
  rw[e];exact h s' acc hm hacc
theorem call_rev{l:Addr}{items:Array Value}{Q:Value->Shared->Prop}(hh:A.handled=none)(hne:l≠I)(hit:s.heap.IsRevIter I l ((items.size:Int)-1))(hl:s.heap.IsList l items)(hsz:items.size<=sizeLine)
  (h:∀(h':Heap)(tk:Nat)(acc:Array Value),(∀b o,b≠I->s.heap.get? b=some o->h'.get? b=some o)->ItemsOf (fun i v=>items[items.size-1-i]?=some v) acc items.size->Q (.ref h'.objs.size) {s with heap:=h'.push {cls:=.type "tuple", data:=.seq acc},toks:=tk}):
  wpAny (model prog w) A (call (.type "tuple") [.ref I]) Q E s:=by
 refine callType_new F.called_tuple (by decide) (F.typeCall_tuple_1 _) (F.newCall_tuple_1 _) (fun obj=>F.args_object_init_2 obj _) F.entry_tuple_new
  (x1m I l items hne hsz) ⟨hh,hit,hl,fun s' acc hm hacc=>⟨⟨_,Heap.get?_push_size _ rfl,rfl⟩,?_⟩⟩
 rw[Moved.eq_with hm];exact h s'.heap s'.toks acc (fun b o hb e=>hm.heap b o (fun z=>hb (w0g.mp z)) e) hacc
end RevT
def tTupRev(K:PySem.W.Frag)(te:TE):TE:=fun σ H Q=>te σ H fun x H1=>∃p ys,x=.ref p/\SqL K H1 p ys/\∀l,H1 l=none->Q (.ref l) (upd H1 l (.tup ys.reverse))
theorem x6n{p1 p2 pos1 pos2:Pos}(hc:X.calm=true)(hm1:X.mg "tuple"=none)(hm2:X.mg "reversed"=none)(he:PE X e te)(hg1:Gl X "tuple":=by rfl)(hg2:Gl X "reversed":=by rfl)
  (hs1:starEach [.Call (.Name "reversed" p2) [e] [] pos2] X.env=(false,eval (.Call (.Name "reversed" p2) [e] [] pos2) X.env)::starEach [] X.env:=by rfl)(hs2:starEach [e] X.env=(false,eval e X.env)::starEach [] X.env:=by rfl):
  PE X (.Call (.Name "tuple" p1) [.Call (.Name "reversed" p2) [e] [] pos2] [] pos1) (tTupRev X.K te):=by
 intro pins s σ H Q I h;refine wpAny_Call_Name_kw (q4p I hg1 hm1 PyProof.Rows.Boot.«tuple» ?_ (by decide));refine PyProof.Rows.callWith_type1 ?_ hs1 rfl;rw[hs1];show wpAny _ _ (spliced ((false,eval (.Call (.Name "reversed" p2) [e] [] pos2) X.env)::backTo pos1 (starEach [] X.env))) _ _ s;refine Calls.spliced_cons ?_;refine wpAny_Call_Name_kw (q4p I hg2 hm2 PyProof.Rows.Boot.«reversed» ?_ (by decide));refine PyProof.Rows.callWith_type1 ?_ hs2 rfl;rw[hs2];show wpAny _ _ (spliced ((false,eval e X.env)::backTo pos2 (starEach [] X.env))) _ _ s;refine Calls.spliced_cons (thn (he pins s σ H _ I h) fun v s1 ⟨x,H1,I1,rx,p,ys,ex,hq,q⟩=>Calls.spliced_nil ?_)
 subst ex;cases rx;obtain⟨its,r',pl,hz⟩:=I1.list hq;have hl:=pl.isList;have hlt:p<s1.heap.objs.size:=by obtain⟨_,e,_⟩:=hl;exact Heap.lt_size e
 refine call_reversed_list hl ?_;refine Calls.spliced_nil ?_;have hh:X.A.handled=none:=I1.ok.hd hc;refine RevT.call_rev (items:=its.toArray) hh (w0j hlt) ⟨_,Heap.get?_push_size _ rfl,rfl,rfl⟩ (hl.push _) (by simp only[w0c];rw[<- r'.length];exact hz) fun h' tk acc kp hacc=>?_
 have up:∀b o,s1.heap.get? b=some o->h'.get? b=some o:=fun b o hbo=>kp b o (w0j (Heap.lt_size hbo)) (Heap.get?_push_of_some _ hbo)
 have I2:Inv X pins σ H1 {s1 with heap:=h',toks:=tk}:=I1.kept (t':=tk) up
 have ea:acc=its.reverse.toArray:=by
  obtain⟨n1,n2⟩:=hacc;apply Array.ext';apply w3i;intro i
  by_cases hi:i<its.length
  ·have hi':i<acc.size:=by rw[n1];simpa using hi
   have z:=n2 i acc[i] (by simp[hi']);simp only[w0c,List.getElem?_toArray]at z;rw[List.getElem?_reverse hi,z];simp[hi']
  ·rw[w1o (by simp at n1 |-;omega),w1o (by simp;omega)]
 subst ea
 have I3:Inv X pins σ (upd H1 h'.objs.size (.tup ys.reverse)) {s1 with heap:=h'.push {cls:=.type "tuple", data:=.seq its.reverse.toArray},toks:=tk}:=
  I2.laid (t':=tk) (fun b o e=>Heap.get?_push_of_some _ e) (w0e _) (show ObjOk X.prog X.w _ _ _ (.tup ys.reverse)from⟨by rw[w2n];exact hz,its.reverse,r'.reverse,IsTup.new _ _,_,Heap.get?_push_size _ rfl,rfl⟩)
 exact⟨.ref h'.objs.size,_,I3,rfl,q _ (I2.hok.fresh (w0e _))⟩
open PySem PySem.Spec PyProof.Rows
structure ExcCls(K:PySem.W.Frag)(D:Addr):Prop where
 ga:findIn K (.ref D) "__getattribute__"=some (some (.builtin "BaseException.__getattribute__"))
 gt:findIn K (.ref D) "__getattr__"=some none
 cl:findIn K (.ref D) "__class__"=some (some (.builtin "object.__class__"))
 gs:specialIn K (.builtin "object.__class__") "__get__"=some (some (.builtin "getset_descriptor.__get__"))
 tk:takesIn K (.builtin "object.__class__")=some true
 mo:PySem.W.mroIn K D (.type "object")=some true
 mb:PySem.W.mroIn K D (.type "BaseException")=some true
 cd:(PySem.W.clsIn K D).isSome=true
noncomputable def excClsIn(K:PySem.W.Frag)(D:Addr):Bool:=
 findIn K (.ref D) "__getattribute__"==some (some (.builtin "BaseException.__getattribute__"))&&findIn K (.ref D) "__getattr__"==some none &&
 findIn K (.ref D) "__class__"==some (some (.builtin "object.__class__"))&&specialIn K (.builtin "object.__class__") "__get__"==some (some (.builtin "getset_descriptor.__get__")) &&
 takesIn K (.builtin "object.__class__")==some true&&PySem.W.mroIn K D (.type "object")==some true&&PySem.W.mroIn K D (.type "BaseException")==some true&&(PySem.W.clsIn K D).isSome
theorem ExcCls.of{D:Addr}(h:excClsIn K D=true):ExcCls K D:=by
 unfold excClsIn at h;simp only[w1g,beq_iff_eq]at h;obtain⟨⟨⟨⟨⟨⟨⟨h1,h2⟩,h3⟩,h4⟩,h5⟩,h6⟩,h7⟩,h8⟩:=h;exact⟨h1,h2,h3,h4,h5,h6,h7,h8⟩
def ExcAt(e D:Addr)(h:Heap):Prop:=∃o vs,h.get? e=some o/\o.cls=.ref D/\o.data=.fields vs
section
variable{e D:Addr}
open PySem.W Builtin Builtin.ObjectAttr Builtin.Getset_descriptor
theorem q9b{M:Model}(p:ExcAt e D h):Looks M h (typeOf (.ref e)) (.ref D):=by
 obtain⟨o,vs,h1,h2,h3⟩:=p;exact h2 ▸ (Looks.ld h1).andThen .now
theorem x9e{M:Model}(X:K.In h)(C:ExcCls K D):Looks M h (find (.ref e) (.ref D) "__class__") (.bind (.builtin "getset_descriptor.__get__") (.builtin "object.__class__")):=by
 have L1:=looks_findIn (M:=M) X C.cl;have L2:Looks M h (getOf (some (.builtin "object.__class__"))) (some (.builtin "getset_descriptor.__get__")):=looks_specialIn X C.gs;have L3:=looks_takesIn (M:=M) X C.tk;refine L1.andThen (L2.andThen ?_);exact(show Looks M h (dataDescriptor? (some (.builtin "object.__class__")) (some (.builtin "getset_descriptor.__get__"))) (some (.builtin "getset_descriptor.__get__", .builtin "object.__class__"))from L3.andThen .now).andThen (Looks.tag .now)
theorem y2s{tp:Value}{R:Result->Shared->Prop}(X:K.In s.heap)(p:ExcAt e D s.heap)(hm:mroIn K D (.type "object")=some true)
  (h:R (.ok (.ret (.ref D))) s):codeAny (model prog w) A (.call (.builtin "getset_descriptor.__get__") ⟨[.builtin "object.__class__", .ref e,tp],[]⟩) R s:=by
 obtain⟨hh,g,dr,t,os⟩:=s;have L0:=q9b (M:=model prog w) p;have L1:=looks_mroIn (M:=model prog w) X hm;refine codeAny_call_builtin KF.slot_gs.plain KF.entry_gs (KF.slot_gs.check _ _ _ _ _ _ _ _ KF.type_class (KF.args_gs _ _ _) ?_);unfold Builtin.«getset_descriptor.__get__» descrGet;rw[dga_obj];refine wpAny_bind (wpAny_pure ?_);unfold descrGetter descrCheckInstance descrNameAndClass isInstance;simp only[KF.owner_class]
 repeat lk
 refine⟨Code.quiet_builtin _ (by decide +kernel),codeAny_builtin KF.entry_class ?_⟩;unfold Builtin.«object.__class__» shownTypeOf
 repeat lk
 exact h
theorem x6o{M:Model}{nameV:Value}{Q:Unit->Shared->Prop}{g:Array GenState}{d:Drawn}{t:Nat}{os:OsState}(X:K.In h)(p:ExcAt e D h)(hm:mroIn K D (.type "BaseException")=some true)(hq:Q () ⟨h,g,d,t,os⟩):
  wpAny M A (checkBuiltinCall "BaseException.__getattribute__" ⟨[.ref e,nameV],[]⟩) Q E ⟨h,g,d,t,os⟩:=by
 have hk:builtinKind "BaseException.__getattribute__"=some .slot:=by decide +kernel
 have hsplit:splitId "BaseException.__getattribute__"=some ("BaseException", "__getattribute__"):=by decide +kernel
 have L0:=q9b (M:=M) p;have L1:=looks_mroIn (M:=M) X hm;have LI:Looks M h (isInstance (.ref e) (.type "BaseException")) true:=L0.andThen L1;have ha:=PySem.F.args_bexc_ga (.ref e) nameV;simp only[checkBuiltinCall,hk,hsplit];refine wpAny_bind (LI.at ?_);rw[if_neg (by decide)];unfold argsOk at ha;split
 ·rename_i sig hs;rw[hs]at ha;exact wpAny_of_eq ha hq
 ·exact wpAny_pure hq
theorem x6p{Q:Option Value->Shared->Prop}(X:K.In s.heap)(p:ExcAt e D s.heap)(C:ExcCls K D)(h:Q (some (.ref D)) {s with toks:=s.toks+1}):wpAny (model prog w) A (getAttr? (.ref e) "__class__") Q E s:=by
 obtain⟨hh,g,d,t,os⟩:=s;have L0:=q9b (M:=model prog w) p;have L1:=looks_findIn (M:=model prog w) X C.ga;have L2:=looks_findIn (M:=model prog w) X C.gt;have L3:=x9e (M:=model prog w) (e:=e) X C;unfold getAttr? getAttrBy? getAttrBy;refine wpAny_bind (wpAny_mkText (wpAny_bind (wpAny_attempt (wpAny_holding (wpAny_bind (L0.at (wpAny_bind (L1.at ?_))))))));have hx2:(Value.builtin "BaseException.__getattribute__"==Value.builtin "object.__getattribute__")=false:=by decide +kernel
 have hx1:(onTheHeap (Value.ref D)&&Value.builtin "BaseException.__getattribute__"==Value.builtin "object.__getattribute__")=false:=by rw[hx2];rfl
 dsimp only;rw[if_neg (by rw[hx1];decide)];unfold getAttrByItsOwn hookBefore;rw[if_pos (by rfl)];refine wpAny_bind (L2.at ?_);refine wpAny_bind (wpAny_attempt (wpAny_holding ?_));unfold callGetattribute;rw[if_neg (by decide)];unfold boundAndCalled;have f3:=PySem.F.excAttr_ValueError.ga.bind (.ref e);refine wpAny_bind (wpAny_of_eq f3 ?_);refine wpAny_call (codeAny_call_builtin PySem.F.excAttr_ValueError.ga.plain F.entry_bexc_ga (x6o (K:=K) (D:=D) X p C.mb ?_));unfold Builtin.«object.__getattribute__»;refine wpAny_bind (wpAny_of_eq (a:=(Value.ref e,[Value.str (Str.ofString "__class__") t])) (by rfl) ?_);dsimp only;refine wpAny_bind (wpAny_of_eq (a:=Str.ofString "__class__") (by rfl) ?_);refine wpAny_bind (L0.at (wpAny_bind (L3.at ?_)));dsimp only;unfold bindTo;refine wpAny_bind (wpAny_holding (wpAny_call (y2s (K:=K) (D:=D) X p C.mo ?_)));dsimp only;refine wpAny_pure ?_;dsimp only;refine wpAny_of_eq (a:=Value.ref D) (by rfl) ?_;exact wpAny_pure h
theorem x9f(C:ExcCls K D):KitX K (.ref e) (.ref D) (ExcAt e D) where
 ty:=fun _ _ _ p=>q9b p
 it:=fun M h X p=>by
  have hcD:=C.cd;unfold clsIn at hcD;split at hcD
  ·rename_i c' d' cd' sl' ho;intro A' Q' E' s' k q;unfold isType loadHead;exact wpAny_bind (wpAny_loadPart (k _ _ (X _ _ ho)) (wpAny_pure q))
  ·cases hcD
 ne:=fun h tp dd its n sl X htp=>by
  refine w1s.mpr fun q=>?_
  have e1:D=tp:=Value.ref.inj (beq_iff_eq.mp q);subst e1;have hcD:=C.cd;unfold clsIn at hcD;split at hcD
  ·rename_i c' d' cd' sl' ho;have z:=(X _ _ ho).symm.trans htp;cases z
  ·cases hcD
 ca:=fun X p k=>x6p X p C k
end
def ClsV:V->Value->Prop
 |.ty n,c=>c=.type n
 |.ref a,c=>c=.ref a
 |_,_=>False
structure Cal(P:Program)(w:World)(K:PySem.W.Frag)(mg:Str->Option Value)(base:Heap)(k:Nat)(x:Str)(ps:List Str)(sp:Sp):Prop where
 ex:∃f fd,FnOk P w K mg base (CX1 P w) k f fd ps sp/\mg x=some (.ref f)/\keepIn K (.ref f)=true/\Binds K fd ps []
structure CalH(P:Program)(w:World)(K:PySem.W.Frag)(mg:Str->Option Value)(base:Heap)(k:Nat)(x:Str)(ps:List Str)(sp:Sp):Prop where
 ex:∃f fd,FnOkH P w K mg base k f fd ps sp/\mg x=some (.ref f)/\keepIn K (.ref f)=true/\Binds K fd ps []
structure At(K:PySem.W.Frag)(mg:Str->Option Value)(x:Str)(st:Stmt)(ps:List Str):Prop where
 ex:∃f fd,Fun K x x st f fd/\mg x=some (.ref f)/\Binds K fd ps []
section
variable{mg:Str->Option Value}{base:Heap}
theorem At.cal{st:Stmt}{N:List Str}{sp:Sp}(F:At K mg x st ps)(S:FnScope N ps (defScope st))(len:∀vs H Q E,sp vs H Q E->vs.length=ps.length)
  (hbody:∀(f:Addr)(cdv:Value)(A:Around)(outer:List Env)(s:Shared)(H:Hp)(vs:List V)(Q:VK)(E:XK),Room k (A.deeper (envOfC x (defScope st) s.heap.objs.size f cdv))->sp vs H Q E ->
   ∃t,PSs (cxOf (CX1 P w) P w K mg base N x (defScope st) f cdv A outer s H E) (defBody st) t/\t {nx:=fun _ H'=>Q .non H',rt:=Q} (start N vs) H):Cal P w K mg base (k+1) x ps sp:=by
 obtain⟨f,fd,F,m,b⟩:=F.ex;exact⟨f,fd,F.okX S len (hbody f),m,F.kp,b⟩
theorem At.calH{st:Stmt}{N:List Str}{sp:Sp}(F:At K mg x st ps)(S:FnScope N ps (defScope st))(len:∀vs H Q E,sp vs H Q E->vs.length=ps.length)
  (hbody:∀(f:Addr)(cdv:Value)(A:Around)(outer:List Env)(s:Shared)(H:Hp)(vs:List V)(Q:VK),RoomH k (A.deeper (envOfC x (defScope st) s.heap.objs.size f cdv))->sp vs H Q E0 ->
   ∃t,PSs (cxH P w K mg base N x (defScope st) f cdv A outer s H) (defBody st) t/\t {nx:=fun _ H'=>Q .non H',rt:=Q} (start N vs) H):CalH P w K mg base (k+1) x ps sp:=by
 obtain⟨f,fd,F,m,b⟩:=F.ex;exact⟨f,fd,F.okH S len (hbody f),m,F.kp,b⟩
end
section
variable{sp:Sp}{t:TA}
theorem y56(C:Cal X.prog X.w X.K X.mg X.base k x ps sp)(hr:Room k X.A)(hx:PassX (CX1 X.prog X.w) X EE)(ha:PA X (e::es) t)(hg:Gl X x:=by rfl)
  (hdb:(x==("__debug__":Str))=false:=by decide)(he:starEach (e::es) X.env=(false,eval e X.env)::starEach es X.env:=by rfl)(hpl:(backTo pos (starEach es X.env)).any (·.1)=false:=by rfl):
  PE X (.Call (.Name x p) (e::es) [] pos) (tCallX sp [] EE t):=by
 obtain⟨f,fd,F,m,kp,b⟩:=C.ex;exact x9b F hr hg m kp b .nil hx ha hdb he hpl
theorem y2t(C:CalH X.prog X.w X.K X.mg X.base k x ps sp)(hr:RoomH k X.A)(ha:PA X (e::es) t)(hg:Gl X x:=by rfl)
  (hdb:(x==("__debug__":Str))=false:=by decide)(he:starEach (e::es) X.env=(false,eval e X.env)::starEach es X.env:=by rfl)(hpl:(backTo pos (starEach es X.env)).any (·.1)=false:=by rfl):
  PE X (.Call (.Name x p) (e::es) [] pos) (tCall sp [] E0 t):=by
 obtain⟨f,fd,F,m,kp,b⟩:=C.ex;exact x9d F hr hg m kp b ha hdb he hpl
end
section
variable{t:TA}{pos':Pos}
theorem x40(i:Nat)(hN:X.N.Nodup)(he:PE X e te)(hi:X.N[i]?=some x:=by rfl)(hx:Loc X.env.scope x:=by walk_at "3")(hs:swapsWith e (some (.Name x pos')) pos.line X.env=pure false:=by rfl)(hf:X.fn x=true\/X.env.scope.names.lookup x=some .local:=by walk_at "2"):
  PS X (.Assign [.Name x pos'] e pos) (tAsg te (gName i)):=y5t hN hi hx he hs hf
theorem q2r(i:Nat)(hN:X.N.Nodup)(hi:X.N[i]?=some x:=by rfl)(hx:Loc X.env.scope x:=by walk_at "3")(hf:X.fn x=true\/X.env.scope.names.lookup x=some .local:=by walk_at "2"):PG X (.Name x pos) (gName i):=y2g hN hi hx hf
theorem y57{o:Expr}{to:TE}{apos:Pos}(ho:PE X o to)(ha:PA X (e::es) t)(hbase:attributeBase o "append" X.env (eval o X.env)=eval o X.env:=by rfl)
  (hfew:((backTo pos (starEach (e::es) X.env)).all (fun x=>!x.1)&&(backToKw pos (keywordEach [] X.env)).all (fun x=>x.1.isSome)&&decide ((e::es).length+([]:List Keyword).length+(if([]:List Keyword).isEmpty then 0 else 1)<30))=true:=by rfl)
  (hline:(apos.endLine==pos.line)=true:=by rfl)(hs:starEach (e::es) X.env=(false,eval e X.env)::starEach es X.env:=by rfl)(hplain:(backTo pos (starEach es X.env)).any (·.1)=false:=by rfl):
  PE X (.Call (.Attribute o "append" apos) (e::es) [] pos) (tBM X.K "list" rAppend to t):=x4w PySem.F.plainAttrs_list PySem.F.slot_list_append PySem.F.type_list_append q7d ho ha hbase hfew hline hs hplain
end
theorem q24{p:Addr}(h:H p=none)(o:HO):Same H (upd H p o):=fun b u q=>by rw[q0e (q0q q h)];exact q
theorem Same.tup{a:Addr}{xs:List V}(e:Same H H')(h:SqT K H a xs):SqT K H' a xs:=by
 rcases h with(h|⟨o,h⟩)|h
 ·exact .inl (.inl (e _ _ h))
 ·exact .inl (.inr ⟨o,e _ _ h⟩)
 ·exact .inr h
noncomputable abbrev rawO(o:Obj):HO:=.frz o (.own 0)
noncomputable abbrev fnO(o:Obj)(q:Str)(c:Addr):HO:=.frz o (.tbl #[.bool false,.str q 0,.ref c])
noncomputable abbrev celO(o:Obj):HO:=.frz o (.ext fun _=>True)
noncomputable abbrev Cs:=List (Addr×Obj)
variable{cs:Cs}
noncomputable def rmC(H:Hp)(cs:Cs):Hp:=fun b=>match cs.lookup b with
 |some _=>none
 |none=>H b
noncomputable def addC(H:Hp)(cs:Cs):Hp:=fun b=>match cs.lookup b with
 |some o=>some (celO o)
 |none=>H b
section
variable{b:Addr}{o:Obj}{u:HO}
theorem q5j(h:cs.lookup b=some o):rmC H cs b=none:=by unfold rmC;rw[h]
theorem q1g(h:cs.lookup b=none):rmC H cs b=H b:=by unfold rmC;rw[h]
theorem q2o(h:cs.lookup b=some o):addC H cs b=some (celO o):=by unfold addC;rw[h]
theorem q0w(h:cs.lookup b=none):addC H cs b=H b:=by unfold addC;rw[h]
theorem q45(h:H b=none):rmC H cs b=none:=by unfold rmC;split<;>first|rfl|exact h
def CelsIn(H:Hp)(cs:Cs):Prop:=∀b o,cs.lookup b=some o->H b=some (celO o)
theorem CelsIn.out(c:CelsIn H cs)(h:H b=none):cs.lookup b=none:=by
 cases q:cs.lookup b with
 |none=>rfl
 |some o=>rw[c b o q]at h;cases h
theorem CelsIn.out'(c:CelsIn H cs)(h:H b=some u)(n:∀o,u≠celO o):cs.lookup b=none:=by
 cases q:cs.lookup b with
 |none=>rfl
 |some o=>rw[c b o q]at h;cases h;exact absurd rfl (n o)
theorem CelsIn.rm_some(c:CelsIn H cs)(h:H b=some u)(n:∀o,u≠celO o):rmC H cs b=some u:=by rw[q1g (c.out' h n)];exact h
theorem x41(h:rmC H cs b=some u):H b=some u/\cs.lookup b=none:=by
 unfold rmC at h;split at h
 ·cases h
 ·rename_i q;exact⟨h,q⟩
theorem q8b(t:TupLike u):∀o,u≠celO o:=fun o z=>by subst z;exact t
end
section
variable{h':Heap}{fs ex:List Addr}
theorem HOk.rm(x:HOk P w H h)(c:CelsIn H cs):HOk P w (rmC H cs) h:=fun a u e=>by
 obtain⟨e1,_⟩:=x41 e;exact(x a u e1).stay (fun b v _ q=>q) (fun b q=>c.rm_some q fun o z=>nomatch z) fun b v t q=>c.rm_some q (q8b t)
theorem HOk.add(x:HOk P w H h)(hc:∀b o,cs.lookup b=some o->H b=none/\h.get? b=some o):HOk P w (addC H cs) h:=fun a u e=>by
 cases q:cs.lookup a with
 |some o=>
  rw[q2o q]at e;cases e;exact⟨(hc a o q).2,trivial,⟨o,(hc a o q).2⟩,fun _ _ _ _=>trivial⟩
 |none=>
  rw[q0w q]at e
  have out:∀b v,H b=some v->addC H cs b=some v:=fun b v z=>by
   cases q2:cs.lookup b with
   |some o=>rw[(hc b o q2).1]at z;cases z
   |none=>rw[q0w q2];exact z
  exact(x a u e).stay (fun b v _ q=>q) (fun b q=>out b _ q) fun b v t q=>out b v q
theorem y2u{o:Obj}{q:Str}(x:HOk P w H h)(e:H f=some (fnO o q c)):h.get? f=some o/\h.CodeRec (.ref c) q:=by
 obtain⟨h1,h2⟩:=(show h.get? f=some o/\ObjOk P w H h f (.tbl #[.bool false,.str q 0,.ref c])from x f _ e);refine⟨h1,?_⟩;rcases h2 with⟨_,_,p0,_⟩|⟨q',c',oc,ob,vs,t,_,p1,p2,h3,h4,h5,_⟩
 ·cases p0
 ·cases p1;cases p2;exact⟨c,oc,vs,t,rfl,(show h.get? c=some oc/\_ from x c _ h3).1,h4,h5⟩
theorem Un.cells(u:Un fs ex (rmC H cs) H' h h')(c:CelsIn H cs):Un fs ex H (addC H' cs) h h' where
 keep:=fun b o q n hb hx=>u.keep b o q (q45 n) hb hx
 slot:=fun b o q n hb hx=>u.slot b o q (q45 n) hb hx
 free:=fun b o q n hx=>by rw[q0w (c.out n)];exact u.free b o q (q45 n) hx
 there:=u.there
 tups:=fun b xs q=>by
  have z:=c.out' q fun o z=>nomatch z
  rw[q0w z];exact u.tups b xs (by rw[q1g z];exact q)
 frzs:=fun b o v q=>by
  cases z:cs.lookup b with
  |some o'=>
   rw[q2o z];rw[c b o' z]at q;exact q
  |none=>rw[q0w z];exact u.frzs b o v (by rw[q1g z];exact q)
 tbls:=fun b ps q=>by
  have z:=c.out' q fun o z=>nomatch z
  rw[q0w z];exact u.tbls b ps (by rw[q1g z];exact q)
theorem Un.nocells(u:Un fs ex (addC H cs) H' h h')(hok:HOk P w H' h')(hc:∀b o,cs.lookup b=some o->H b=none/\h.get? b=some o):Un fs ex H (rmC H' cs) h h':=by
 have inn:∀b o,cs.lookup b=some o->H' b=some (celO o)/\h'.get? b=some o:=fun b o z=>by
  have q:=u.frzs b o _ (q2o z);exact⟨q,(show h'.get? b=some o/\_ from hok b _ q).1⟩
 refine⟨fun b o q n hb hx=>?_,fun b o q n hb hx=>?_,fun b o q n hx=>?_,u.there,fun b xs q=>?_,fun b o v q=>?_,fun b ps q=>?_⟩
 ·cases z:cs.lookup b with
  |some o'=>
   have:=(hc b o' z).2;rw[q]at this;cases this;exact(inn b _ z).2
  |none=>exact u.keep b o q (by rw[q0w z];exact n) hb hx
 ·cases z:cs.lookup b with
  |some o'=>
   have:=(hc b o' z).2;rw[q]at this;cases this;exact⟨o.slots,(inn b _ z).2⟩
  |none=>exact u.slot b o q (by rw[q0w z];exact n) hb hx
 ·cases z:cs.lookup b with
  |some o'=>exact q5j z
  |none=>rw[q1g z];exact u.free b o q (by rw[q0w z];exact n) hx
 ·have z:cs.lookup b=none:=by
   cases z:cs.lookup b with
   |some o'=>rw[(hc b o' z).1]at q;cases q
   |none=>rfl
  rw[q1g z];exact u.tups b xs (by rw[q0w z];exact q)
 ·have z:cs.lookup b=none:=by
   cases z:cs.lookup b with
   |some o'=>rw[(hc b o' z).1]at q;cases q
   |none=>rfl
  rw[q1g z];exact u.frzs b o v (by rw[q0w z];exact q)
 ·have z:cs.lookup b=none:=by
   cases z:cs.lookup b with
   |some o'=>rw[(hc b o' z).1]at q;cases q
   |none=>rfl
  rw[q1g z];exact u.tbls b ps (by rw[q0w z];exact q)
end
noncomputable abbrev lamEnv(qual:Str)(scope:Scope)(f:Addr)(cd:Value)(cl:List (Str×Addr))(s:Shared):Env:=PySem.W.envX qual scope s.heap.objs.size f cd cl
noncomputable def cxLam(P:Program)(w:World)(K:PySem.W.Frag)(mg:Str->Option Value)(base:Heap)(N:List Str)(qual:Str)(scope:Scope)(f:Addr)(cd:Value)(cl:List (Str×Addr))(A:Around)(outer:List Env)(s:Shared)(H:Hp):Cx where
 prog:=P
 w:=w
 K:=K
 mg:=mg
 base:=base
 A:=A.deeper (lamEnv qual scope f cd cl s)
 N:=N
 s₀:=s
 H₀:=H
 env:=lamEnv qual scope f cd cl s
 outer:=outer
 stack:=lamEnv qual scope f cd cl s::outer
 ex:=[]
 calm:=true
 fn:=fun _=>false
 pn:=[]
 xe:=fun _ _=>False
structure LamScope(ps Nf:List Str)(sc:Scope):Prop where
 kind:sc.kind=.function
 co:sc.isCoroutine=false
 gen:sc.isGenerator=false
 nd:ps.Nodup
 nocell:∀y∈sc.names,y.2≠.cell
 par:∀x∈ps,sc.names.lookup x=some .local
 fr:∀y∈Nf,sc.names.lookup y=some .free
structure LamCells(cl:List (Str×Addr))(Nf:List Str)(sc:Scope)(zs:List V)(h:Heap)(cs:Cs):Prop where
 inj:∀x y c,cl.lookup x=some c->cl.lookup y=some c->x=y
 has:∀x,(x,NameKind.free)∈sc.names->∃c,cl.lookup x=some c
 all:∀x c,cl.lookup x=some c->∃o,cs.lookup c=some o
 cel:∀c o,cs.lookup c=some o->h.get? c=some o/\∃v,o.data=.cell v
 val:∀(i:Nat) y z,Nf[i]?=some y->zs[i]?=some z->∃c o u,cl.lookup y=some c/\cs.lookup c=some o/\o.data=.cell (some u)/\RelV z u
def FnV(P:Program)(w:World)(K:PySem.W.Frag)(mg:Str->Option Value)(base:Heap)(CX:CXT)(k:Nat)(sp:V->List V->Hp->VK->XK->Prop):Prop:=∀(x:V)(vs:List V)(H:Hp)(Q:VK)(E:XK),sp x vs H Q E ->
 ∃f oc od fd sl u,x=.ref f/\H f=some (.frz ⟨oc,od,.func fd,sl⟩ u)/\∀(A:Around)(outer:List Env)(s:Shared)(us:List Value),Room k A->Env0 P w K mg base A outer s H->Vals vs us ->
  codeAny (model P w) A (.call (.ref f) ⟨us,[]⟩) (CR CX outer P w H s Q E) s
def IsFn(H:Hp)(x:V):Prop:=∃f oc od fd sl u,x=.ref f/\H f=some (.frz ⟨oc,od,.func fd,sl⟩ u)
def tCallV(sp:V->List V->Hp->VK->XK->Prop)(EE:St->XK)(tv:TE)(t:TA):TE:=fun σ H Q=>tv σ H fun x H1=>IsFn H1 x/\t σ H1 fun vs H2=>sp x vs H2 Q (EE σ)
section
variable{CX:CXT}{sp:V->List V->Hp->VK->XK->Prop}{tv:TE}{t:TA}
theorem x9g(F:FnV X.prog X.w X.K X.mg X.base CX k sp)(hr:Room k X.A)(hv:PE X (.Name x p) tv)(hx:PassX CX X EE)(ha:PA X (e::es) t)
  (he:starEach (e::es) X.env=(false,eval e X.env)::starEach es X.env:=by rfl)(hpl:(backTo pos (starEach es X.env)).any (·.1)=false:=by rfl):
  PE X (.Call (.Name x p) (e::es) [] pos) (tCallV sp EE tv t):=by
 intro pins s σ H Q I h;refine wpAny_Call_Name_kw (thn (hv pins s σ H _ I h) fun u s1 ⟨y,H1,I1,ry,⟨f,oc,od,fd,sl,uu,ey,ef⟩,q⟩=>?_)
 subst ey;obtain rfl:u=Value.ref f:=ry;refine PySem.W.callWith_F ⟨oc,od,fd,sl,(show s1.heap.get? f=some _/\_ from I1.hok f _ ef).1⟩ (thn (ha pos pins s1 σ H1 _ I1 q) fun us s2 ⟨vs,H2,I2,r,q2⟩=>?_) he hpl
 obtain⟨f',oc',od',fd',sl',u',ex',ef',run⟩:=F _ _ _ _ _ q2;cases ex';refine⟨⟨oc',od',fd',sl',(show s2.heap.get? f=some _/\_ from I2.hok f _ ef').1⟩,wpAny_call (codeAny_mono (run X.A X.stack s2 us hr I2.env0 r) fun r s' hq=>?_)⟩
 cases r with
 |error e=>exact hx pins σ H2 s2 e s' I2 hq
 |ok fl=>
  cases fl with
  |ret u=>exact I2.after hq
  |next=>exact False.elim hq
  |brk=>exact False.elim hq
  |cont=>exact False.elim hq
end
theorem x42{pos':Pos}{a b:Int}{c cv:Value}(l:List Value)(h:TriplesOk l)(z:codeAmong pos' (l++[rawInt a,rawInt b,c])=some cv):codeAmong pos' l=some cv\/cv=c:=by
 fun_induction TriplesOk l with
 |case1=>
  simp only[List.nil_append,codeAmong,rawInt]at z;split at z
  ·cases z;exact .inr rfl
  ·cases z
 |case2 x t y u v rest ih=>
  simp only[List.cons_append,codeAmong]at z |-
  split at z
  ·rename_i hc;rw[if_pos hc];exact .inl z
  ·rename_i hc;rw[if_neg hc];exact ih h z
 |case3=>exact h.elim
def BMain(h:Heap)(mg:Str->Option Value):Prop:=∃bm ob,mg "__builtins__"=some (.ref bm)/\bm≠builtinsNs/\h.get? bm=some ob/\ob.cls=.type "module" /\ ob.dict=some builtinsNs/\ob.data=.plain
def LamAt(X:Cx)(params:Arguments)(body:Expr)(scope:Scope)(clos:List (Str×Addr))(f:Addr)(H H':Hp):Prop:=closureFor scope X.env=pure clos/\∃(H1:Hp)(pm ctv:Value)(c':Addr),(H1=H\/∃c oc,H c=none/\H1=upd H c (rawO oc))/\H1 f=none /\
 H'=upd H1 f (fnO (kla_obj "<lambda>" (X.env.qual++"<lambda>") params body scope clos pm c' ctv) (X.env.qual++"<lambda>") c')
def tLam(X:Cx)(params:Arguments)(body:Expr)(scope:Scope):TE:=fun _ H Q=>∀f clos H',LamAt X params body scope clos f H H'->Q (.ref f) H'
structure Maker(X:Cx):Prop where
 ex:∃c P a,X.env.code=.ref c/\codeHdIn X.K c P=true/\(a,markO P (X.env.qual++"<lambda>"))∈X.K
 bm:BMain X.base X.mg
section
variable{params:Arguments}{body:Expr}{scope:Scope}{lpos:Pos}
theorem y58(M:Maker X)(hdef:defaultsOf params X.env=([],[]))(hfree:∀x∈scope.names,x.2=.free->X.env.kindOf x.1=some .cell\/X.env.kindOf x.1=some .free):
  PE X (.Lambda params body scope lpos) (tLam X params body scope):=by
 intro pins s σ H Q I h;obtain⟨clos,hclos,_,_⟩:=q5w (scope:=scope) (env:=X.env) fun x hx hf=>I.ok.has x.1 (hfree x hx hf)
 obtain⟨c,P,a,hcode,hch,hmk⟩:=M.ex;have hhd:=PySem.W.codeHd_of_K I.mod.kin hch;obtain⟨ps,hP,p0,p1⟩:=I.ok.tab a _ P hmk;obtain⟨more,eP⟩:=I.base.tbls P ps hP
 have q0:(ps++more)[0]?=some (.bool true):=by
  rw[w1r (by obtain⟨z,_⟩:=w1b.mp p0;exact z)];exact p0
 have q1:(ps++more)[1]?=some (.str (X.env.qual++"<lambda>") 0):=by
  rw[w1r (by obtain⟨z,_⟩:=w1b.mp p1;exact z)];exact p1
 have oP:ObjOk X.prog X.w H s.heap P (.tbl (ps++more)):=I.hok P _ eP;rcases oP with⟨q,qs,r0,r1,g1,tr,cd⟩|⟨_,_,_,_,_,_,r0,_⟩
 case inr=>rw[q0]at r0;cases r0
 rw[q1]at r1;cases r1;have nP:∀b,H b=none->b≠P:=fun b n z=>by rw[z,eP]at n;cases n
 have hgP:mainGlobals≠P:=by
  obtain⟨o,es,ep,e,_⟩:=I.mod.glob;exact nP _ (I.bs _ o e).2
 have hB:s.heap.BuiltinsAt X.mg P:=by
  obtain⟨bm,ob,b1,b2,b3,b4,b5,b6⟩:=M.bm;refine⟨bm,ob,b1,b2,fun z=>?_,nP _ (I.bs bm ob b3).2,(I.bs bm ob b3).1,b4,b5,b6⟩
  obtain⟨o,es,ep,e,d,_⟩:=I.mod.glob;rw[z,e]at b3;cases b3;rw[d]at b6;cases b6
 have hns:=I.mod.glob.keeps I.bk;refine PySem.W.kla_eval hdef ?_;cases hc:codeAmong lpos qs.toList with
 |some cv=>
  obtain⟨c',oc,vs,t,rfl,k1,k2,k3⟩:=cd lpos cv hc;refine PySem.W.kla_makeFunctionHit (mg:=X.mg) hclos I.ok.glob hns hcode (hhd.keeps I.bk) g1 tr hc hB fun ctv h' tk hk hsz=>?_
  have fr:H h'.objs.size=none:=I.hok.fresh hsz;refine⟨.ref h'.objs.size,_,I.laid (t':=tk) (fun b u e=>Heap.get?_push_of_some _ (hk b u e)) hsz ?_,rfl,h _ clos _ ⟨hclos,H,(X.mg "__name__").getD .none,ctv,c',.inl rfl,fr,rfl⟩⟩
  exact⟨Heap.get?_push_size _ rfl,.inr ⟨_,c',oc,_,vs,t,rfl,rfl,rfl,by rw[q0e (q0q k1 fr)];exact k1,k2,k3,Heap.get?_push_size _ rfl⟩⟩
 |none=>
  refine PySem.W.kla_makeFunction (mg:=X.mg) hclos I.ok.glob hns hcode (hhd.keeps I.bk) g1 tr hc hgP hB fun c' ctv h' tk hx hge hlt hrec htb=>?_
  obtain⟨c2,oc,vs,t,ec,hoc,hd,hv⟩:=hrec;cases ec;have fc:H c'=none:=I.hok.fresh hge;have hne:∀b u,H b=some u->b≠c':=fun b u z=>q0q z fc
  have kp:∀b o,H b=none->s.heap.get? b=some o->h'.get? b=some o:=fun b o n e=>hx b o (nP b n) e
  have hok1:HOk X.prog X.w (upd H c' (rawO oc)) h':=fun a u e=>by
   by_cases ha:a=c'
   ·subst ha;rw[q0h]at e;cases e;exact⟨hoc,oc,hoc⟩
   ·rw[q0e ha]at e
    by_cases haP:a=P
    ·subst haP;rw[eP]at e;cases e;refine .inl ⟨_,_,q0,q1,htb,?_,fun pos cv z=>?_⟩
     ·rw[w4b];exact TriplesOk_snoc _ _ _ _ tr
     ·rw[w4b]at z;rcases x42 _ tr z with z|z
      ·obtain⟨d,od,vd,td,k0,k1,k2,k3⟩:=cd pos cv z;exact⟨d,od,vd,td,k0,by rw[q0e (hne d _ k1)];exact k1,k2,k3⟩
      ·exact⟨c',oc,vs,t,z,q0h,hd,hv⟩
    ·refine(I.hok a u e).stay (fun b v hb q=>hx b v ?_ q) (fun b q=>by rw[q0e (hne b _ q)];exact q) fun b v _ q=>by rw[q0e (hne b _ q)];exact q
     rcases hb with rfl|hb
     ·exact haP
     ·rintro rfl;rw[eP]at hb;cases hb
  have un:Un X.fs [] H (upd H c' (rawO oc)) s.heap h':=by
   refine⟨fun b o q n _ _=>kp b o n q,fun b o q n _ _=>⟨o.slots,kp b o n q⟩,fun b o q n _=>?_,fun b o q _=>?_,fun b xs q=>by rw[q0e (hne b _ q)];exact q,fun b o u q=>by rw[q0e (hne b _ q)];exact q,fun b qs q=>⟨#[],by rw[q0e (hne b _ q),q];simp⟩⟩
   ·rw[q0e (w0j (w0k (Heap.lt_size q) hge))];exact n
   ·by_cases hb:b=P
    ·subst hb;exact⟨_,htb⟩
    ·exact⟨o,hx b o hb q⟩
  have I1:Inv X pins σ (upd H c' (rawO oc)) {s with heap:=h',toks:=tk}:=I.un un hok1;have f1:upd H c' (rawO oc) h'.objs.size=none:=I1.hok.fresh (w0e _);refine⟨.ref h'.objs.size,_,I1.laid (t':=tk) (fun b u e=>Heap.get?_push_of_some _ e) (w0e _) ?_,rfl,h _ clos _ ⟨hclos,_,(X.mg "__name__").getD .none,ctv,c',.inr ⟨c',oc,fc,rfl⟩,f1,rfl⟩⟩
  exact⟨Heap.get?_push_size _ rfl,.inr ⟨_,c',oc,_,vs,t,rfl,rfl,rfl,by rw[q0e (q0q q0h f1)];exact q0h,hd,hv,Heap.get?_push_size _ rfl⟩⟩
end
theorem q8c{α:Type}{k:Addr}{v:α}:∀{l:List (Addr×α)},(k,v)∈l->∃v',l.lookup k=some v'
 |[],h=>nomatch h
 |(a,b)::l,h=>by
  rw[w0t]
  by_cases e:(k==a)=true
  ·rw[e];exact⟨b,rfl⟩
  ·rw[w1s.mpr e];rcases w0p.mp h with z|z
   ·cases z;simp at e
   ·exact q8c z
noncomputable def celsAt(clos:List (Str×Addr))(h:Heap):Cs:=(clos.map (·.1)).filterMap fun x=>(clos.lookup x).bind fun c=>(h.get? c).map fun o=>(c,o)
theorem q8d{clos:List (Str×Addr)}{o:Obj}(e:(celsAt clos h).lookup c=some o):∃x,clos.lookup x=some c/\h.get? c=some o:=by
 obtain⟨x,_,hx⟩:=w1p.mp (PySem.W.mem_of_lookupK e);obtain⟨c',e1,e2⟩:=w3l.mp hx;obtain⟨o',e3,e4⟩:=w0f.mp e2;cases e4;exact⟨x,e1,e3⟩
theorem q9c{clos:List (Str×Addr)}{o:Obj}(e:clos.lookup x=some c)(g:h.get? c=some o):(celsAt clos h).lookup c=some o:=by
 have hm:(c,o)∈celsAt clos h:=w1p.mpr ⟨x,w0n.mpr ⟨(x,c),PySem.mem_of_lookup e,rfl⟩,by rw[e];show(h.get? c).map _=_;rw[g];rfl⟩;obtain⟨o',e'⟩:=q8c hm;obtain⟨_,_,g'⟩:=q8d e';rw[g]at g';cases g';exact e'
structure CellsOf(clos:List (Str×Addr))(Nf:List Str)(scope:Scope)(js:List Nat)(σ:St)(H:Hp)(cs:Cs):Prop where
 inj:∀x y c,clos.lookup x=some c->clos.lookup y=some c->x=y
 has:∀x,(x,NameKind.free)∈scope.names->∃c,clos.lookup x=some c
 all:∀x c,clos.lookup x=some c->∃o,cs.lookup c=some o
 cel:∀c o,cs.lookup c=some o->H c=none/\∃v,o.data=.cell v
 val:∀(i:Nat) y j z,Nf[i]?=some y->js[i]?=some j->σ[j]?=some (some z)->∃c o u,clos.lookup y=some c/\cs.lookup c=some o/\o.data=.cell (some u)/\RelV z u
theorem x3j{outer:List Env}{s':Shared}{E:XK}{e:Value}(hc:∀b o,cs.lookup b=some o->H b=none/\s.heap.get? b=some o)
  (x:CX1 P w outer (addC H cs) s (fun c o H'=>E c o (rmC H' cs)) e s'):CX1 P w outer H s E e s':=by
 obtain⟨e,cls,H',B,rfl,hos,hg,un,hok,fly,hE⟩:=x;have CI:CelsIn H' cs:=fun b o z=>un.frzs b o _ (q2o z)
 refine⟨e,cls,rmC H' cs,B,rfl,hos,hg,un.nocells hok hc,hok.rm CI,⟨fly.fl,fun b o q n nb=>?_,fun b u o q z=>fly.trk b u o (x41 q).1 z,fly.all,fly.new⟩,hE⟩
 cases z:cs.lookup b with
 |some o'=>
  have:=(hc b o' z).2;rw[q]at this;cases this;exact fly.trk b _ o (CI b o z) ((show s'.heap.get? b=some o/\_ from hok b _ (CI b o z)).1)
 |none=>exact fly.old b o q (by rw[q0w z];exact n) nb
theorem pure_inj{α:Type}{a b:α}(h:(pure a:Sem α)=pure b):a=b:=by
 first
  |exact PySem.Sem.pure_inj h
  |(injection h)
  |(cases h;rfl)
section
variable{fd:FuncData}{sp:Sp}
theorem y2v{pins:List (Addr×Obj)}{σ:St}{Q:VK}{us:List Value}{vs:List V}{cs:Cs}(F:FnOk X.prog X.w X.K X.mg X.base (CX1 X.prog X.w) k f fd ps sp)(hr:Room k X.A)(hb:Binds X.K fd ps [])(hx:PassX (CX1 X.prog X.w) X EE)
  (I:Inv X pins σ H s)(hc:∀b o,cs.lookup b=some o->H b=none/\s.heap.get? b=some o)(hv:∀b o,cs.lookup b=some o->b∉frs X.stack)(hn:∀b o,cs.lookup b=some o->X.base.get? b=none)(r:Vals vs us)
  (h:sp vs (addC H cs) (fun v H'=>Q v (rmC H' cs)) fun c o H'=>EE σ c o (rmC H' cs)):wpAny (model X.prog X.w) X.A (call (.ref f) us) (EP X pins σ Q) X.xe s:=by
 have hl:us.length=ps.length:=by rw[<- r.length];exact F.len _ _ _ _ h
 have e0:=I.env0
 have out:∀b,H b=none->(∀o,cs.lookup b≠some o)->addC H cs b=none:=fun b n z=>by
  cases q:cs.lookup b with
  |some o=>exact absurd q (z o)
  |none=>rw[q0w q];exact n
 have e1:Env0 X.prog X.w X.K X.mg X.base X.A X.stack s (addC H cs):=by
  refine⟨e0.frames,e0.mod,fun b o q=>⟨(e0.bs b o q).1,out b (e0.bs b o q).2 fun o' z=>?_⟩,e0.bsz,e0.funs,fun b hb=>out b (e0.frf b hb) fun o z=>?_,e0.hok.add hc,e0.bare,fun a q P m=>?_⟩
  ·rw[hn b o' z]at q;cases q
  ·exact hv b o z hb
  ·obtain⟨ps,e,p⟩:=e0.tab a q P m;refine⟨ps,?_,p⟩;cases z:cs.lookup P with
   |some o=>rw[(hc P o z).1]at e;cases e
   |none=>rw[q0w z];exact e
 have hbb:=hb s us I.kIn (by rw[w0x];exact hl);rw[w0x]at hbb;refine wpAny_call (codeAny_mono (F.run X.A X.stack s (addC H cs) ⟨us,[]⟩ us vs _ _ hr e1 hbb r h) fun r s' hq=>?_)
 cases r with
 |error e=>exact hx pins σ H s e s' I (x3j hc hq)
 |ok fl=>
  cases fl with
  |ret u=>
   obtain⟨v,H',os,bare,un,hok,rv,q⟩:=hq;have CI:CelsIn H' cs:=fun b o z=>un.frzs b o _ (q2o z)
   exact I.after ⟨v,rmC H' cs,os,bare,un.nocells hok hc,hok.rm CI,rv,q⟩
  |next=>exact False.elim hq
  |brk=>exact False.elim hq
  |cont=>exact False.elim hq
def LamQ(sp:Sp)(X:Cx)(scope:Scope)(Nf:List Str)(js:List Nat)(E:XK)(σ:St)(Q:VK)(vs:List V)(H2:Hp):Prop:=∃clos,closureFor scope X.env=pure clos/\∀cs,CellsOf clos Nf scope js σ H2 cs ->
 sp vs (addC H2 cs) (fun v H'=>Q v (rmC H' cs)) fun c o H'=>E c o (rmC H' cs)
def tLamCall(sp:Sp)(X:Cx)(params:Arguments)(body:Expr)(scope:Scope)(Nf:List Str)(js:List Nat)(EE:St->XK)(te:TE):TE:=fun σ H Q=>te σ H fun v1 H1=>∀f clos H2,LamAt X params body scope clos f H1 H2->LamQ sp X scope Nf js (EE σ) σ Q [v1,.ref f] H2
theorem x43{params:Arguments}{body:Expr}{scope:Scope}{lpos:Pos}{Nf:List Str}{js:List Nat}(F:FnOk X.prog X.w X.K X.mg X.base (CX1 X.prog X.w) k f fd ps sp)(hr:Room k X.A)(hg:Gl X x)(hm:X.mg x=some (.ref f))(hk:keepIn X.K (.ref f)=true)
  (hb:Binds X.K fd ps [])(hx:PassX (CX1 X.prog X.w) X EE)(M:Maker X)(hfn:∀y,X.fn y=true)(he:PE X e te)(hdef:defaultsOf params X.env=([],[]))
  (hfree:∀x∈scope.names,x.2=.free->X.env.kindOf x.1=some .cell\/X.env.kindOf x.1=some .free)
  (hNf:∀(i j:Nat) y,Nf[i]?=some y->js[i]?=some j->X.N[j]?=some y/\(y,NameKind.free)∈scope.names/\Vis X.env.scope y/\X.env.kindOf y≠some .local)
  (hdb:(x==("__debug__":Str))=false:=by decide)(hst:starEach [e,.Lambda params body scope lpos] X.env=(false,eval e X.env)::starEach [.Lambda params body scope lpos] X.env:=by rfl)
  (hst2:starEach [.Lambda params body scope lpos] X.env=(false,eval (.Lambda params body scope lpos) X.env)::starEach [] X.env:=by rfl)(hpl:(backTo pos (starEach [.Lambda params body scope lpos] X.env)).any (·.1)=false:=by rfl):
  PE X (.Call (.Name x p) [e,.Lambda params body scope lpos] [] pos) (tLamCall sp X params body scope Nf js EE te):=by
 intro pins s σ H Q I h;have ha:PA X [e,.Lambda params body scope lpos] (tCons te (tCons (tLam X params body scope) tNil)):=q50 he (q50 (y58 M hdef hfree) q88 hst2) hst;refine wpAny_Call_Name_kw (q43 I hg hm ?_ hdb);refine callWith_K (h₀:=X.base) I.ok.mod.kin hk (thn (ha pos pins s σ H (LamQ sp X scope Nf js (EE σ) σ Q) I h) fun us s1 ⟨vs,H2,I2,r,clos,hclos,q⟩=>⟨I2.kIn,?_⟩) hst hpl
 obtain⟨clos',hclos',hcl,hcf⟩:=q5w (scope:=scope) (env:=X.env) fun x hx hf=>I.ok.has x.1 (hfree x hx hf)
 obtain rfl:clos'=clos:=pure_inj (hclos'.symm.trans hclos)
 have look:∀b o,(celsAt clos' s1.heap).lookup b=some o->∃x,X.env.cells.lookup x=some b/\s1.heap.get? b=some o:=fun b o z=>by
  obtain⟨x,h1,h2⟩:=q8d z;exact⟨x,hcl x b h1,h2⟩
 have hnone:∀b o,(celsAt clos' s1.heap).lookup b=some o->H2 b=none/\s1.heap.get? b=some o:=fun b o z=>by
  obtain⟨x,h1,h2⟩:=look b o z;exact⟨I2.freeC x b h1,h2⟩
 have hab:∀b o,(celsAt clos' s1.heap).lookup b=some o->X.s₀.heap.objs.size<=b:=fun b o z=>by
  obtain⟨x,h1,h2⟩:=look b o z;exact I2.ok.cab x b (hfn x) h1
 refine y2v (cs:=celsAt clos' s1.heap) F hr hb hx I2 hnone (fun b o z hb=>?_) (fun b o z=>Heap.get?_none_of_le (w0w I2.ok.bsz (hab b o z))) r (q _ ⟨fun x y c e1 e2=>I2.ok.inj x y c (hcl x c e1) (hcl y c e2),hcf,fun x c e=>?_,fun c o e=>⟨(hnone c o e).1,?_⟩,fun i y j z e1 e2 e3=>?_⟩)
 ·rcases w0p.mp (I2.stkSub b hb)with e|hb2
  ·obtain⟨x,h1,_⟩:=look b o z;exact I2.cne x b h1 e
  ·obtain⟨_,o',q',_⟩:=I2.ok.funs.mem hb2
   exact absurd (Heap.lt_size q') (w2u.mpr (hab b o z))
 ·obtain⟨v,o,g,_⟩:=I2.cell x c (hcl x c e);exact⟨o,q9c e g⟩
 ·obtain⟨x,h1,h2⟩:=look c o e;obtain⟨v,o',g,d⟩:=I2.cell x c h1;rw[h2]at g;cases g;exact⟨v,d⟩
 ·obtain⟨n1,n2,n3,n4⟩:=hNf i j y e1 e2;obtain⟨m,hm,hl⟩:=I2.loc;obtain⟨u,ru,l⟩:=hl j y z n1 e3 n3;rcases l with⟨k1,_⟩|⟨k1,c,ec,o,g,d⟩
  ·exact absurd k1 n4
  ·obtain⟨c',ec'⟩:=hcf y n2;have e4:=hcl y c' ec';rw[ec]at e4;cases e4;exact⟨c,o,u,ec',q9c ec' g,d,ru⟩
end
end L2
set_option maxHeartbeats 1000000
namespace D
open PySem L2
variable{a:Addr}{X:Cx}{G G' G1 H H' H1:Hp}{es:List Expr}{ps:List Str}{vs xs:List V}{r:List V->Hp->VK->Prop}{i k:Nat}{b:Option Nat}{p pos pos':Pos}{K:PySem.W.Frag}{σ:St}{EE:St->XK}{st:Stmt}{x:Str}{α:Type}{v:V}
noncomputable abbrev Sv:=Int ⊕ Bool
inductive Dd where
 |k (kvs:List (Key×Sv))
structure Lm where
 qual:Str
 params:Arguments
 body:Expr
 scope:Scope
 nf:List Str
set_option genInjectivity true in
inductive W where
 |non|bl (b:Bool)|int (i:Int)|str (x:Str)|tup (xs:List W)|lst (xs:List W)|exc (c:Value)|dic (kvs:Dd)|dw (fz:Bool) (sh:Sh) (ks:List Kx) (ws:List W)|fn (i:Nat) (l:Lm) (ws:List W)
variable{ws:List W}{w:W}{f:W->W->Option W}
inductive SK where
 |old (w:W)|new (w:W)|acc (ws:List W)|thro (us ws vs:List W)|tn (us:List W) (wss:List (List W))|pt (us ws:List W) (w:W)
inductive S where
 |no|fr (w:W)|own (io:Option Nat) (ws:List W)|dic (kvs:Dd)|thr (us ws vs:List W)|nest (wss:List (List W))|dw (sh:Sh) (ks:List Kx) (ws:List W)|x (k:SK)
variable{e e1:List S}{E:Value->List S->Prop}
noncomputable def SK.plain:SK->Option W
 |.old w=>some w
 |.new w=>some w
 |_=>none
noncomputable def SK.look:SK->Option W
 |.old w=>some w
 |.new w=>some w
 |.acc ws=>some (.lst ws)
 |_=>none
noncomputable def sV:Sv->V
 |.inl i=>.int i
 |.inr b=>.bl b
noncomputable def kvV{κ:Type}(kvs:List (κ×Sv)):List (κ×V):=kvs.map fun p=>(p.1,sV p.2)
noncomputable def dO:Dd->HO
 |.k kvs=>.dK (kvV kvs)
noncomputable def isDic:HO->Bool
 |.dK _=>true
 |_=>false
theorem q5e{d:Dd}{u:HO}(h:isDic u=false):dO d≠u:=fun z=>by
 subst z;cases d<;>cases h
def KeysG(G:Hp):List Kx->List Addr->Prop
 |[],[]=>True
 |k::ks,b::bs=>KRep G k (.ref b)/\KeysG G ks bs
 |[],_::_=>False
 |_::_,[]=>False
theorem KeysG.mono(e:Same G G'):∀{ks:List Kx}{bs:List Addr},KeysG G ks bs->KeysG G' ks bs
 |[],[],_=>trivial
 |k::ks,b::bs,h=>⟨KRep.keeps (fun _ _ _ z=>e _ _ z) k h.1,KeysG.mono e h.2⟩
 |[],_::_,h=>h.elim
 |_::_,[],h=>h.elim
def DAt(fz:Bool)(G:Hp)(a:Addr)(sh:Sh)(kvs:List (Kx×V))(kas:List Addr):Prop:=if fz=true then ∃o,G a=some (.frz o (.dT sh kvs kas))else G a=some (.dT sh kvs kas)
theorem DAt.mono{fz:Bool}{sh:Sh}{kvs:List (Kx×V)}{kas:List Addr}(e:Same G G')(h:DAt fz G a sh kvs kas):DAt fz G' a sh kvs kas:=by
 cases fz with
 |true=>obtain⟨o,h⟩:=h;exact⟨o,e _ _ h⟩
 |false=>exact e _ _ h
structure FnCells(G:Hp)(cl:List (Str×Addr))(l:Lm)(zs:List V)(cs:Cs):Prop where
 inj:∀x y c,cl.lookup x=some c->cl.lookup y=some c->x=y
 has:∀x,(x,NameKind.free)∈l.scope.names->∃c,cl.lookup x=some c
 all:∀x c,cl.lookup x=some c->∃o,cs.lookup c=some o
 cel:∀c o,cs.lookup c=some o->G c=some (celO o)/\∃v,o.data=.cell v
 val:∀(i:Nat) y z,l.nf[i]?=some y->zs[i]?=some z->∃c o u,cl.lookup y=some c/\cs.lookup c=some o/\o.data=.cell (some u)/\RelV z u
 len:zs.length=l.nf.length
theorem FnCells.mono{cl:List (Str×Addr)}{l:Lm}{zs:List V}{cs:Cs}(e:Same G G')(h:FnCells G cl l zs cs):FnCells G' cl l zs cs:=⟨h.inj,h.has,h.all,fun c o q=>⟨e _ _ (h.cel c o q).1,(h.cel c o q).2⟩,h.val,h.len⟩
def FnAtG(G:Hp)(l:Lm)(cl:List (Str×Addr))(f:Addr):Prop:=∃pm c' ctv,G f=some (fnO (kla_obj "<lambda>" l.qual l.params l.body l.scope cl pm c' ctv) l.qual c')
inductive RefTo(v:V)(P Q:Addr->List V->Prop):Prop where
 |mk (a:Addr) (xs:List V) (h:v=.ref a) (p:P a xs) (q:Q a xs):RefTo v P Q
inductive ConsOf(xs:List V)(P:V->Prop)(Q:List V->Prop):Prop where
 |mk (x:V) (r:List V) (h:xs=x::r) (p:P x) (q:Q r):ConsOf xs P Q
mutual
def Rep(K:PySem.W.Frag)(G:Hp):W->V->Prop
 |.non,v=>v=.non
 |.bl b,v=>v=.bl b
 |.int i,v=>v=.int i
 |.str x,v=>v=.str x
 |.tup ws,v=>RefTo v (SqT K G) fun _ xs=>Reps K G ws xs
 |.lst ws,v=>RefTo v (SqL K G) fun _ xs=>Reps K G ws xs
 |.exc c,v=>∃e,v=.ref e/\G e=some (excO e c)
 |.dic kvs,v=>∃e,v=.ref e/\G e=some (dO kvs)
 |.dw fz sh ks ws,v=>∃a kvs kas,v=.ref a/\DAt fz G a sh kvs kas/\kvs.map (·.1)=ks/\KeysG G ks kas/\Reps K G ws (kvs.map (·.2))
 |.fn _ l ws,v=>∃f cl zs cs,v=.ref f/\FnAtG G l cl f/\FnCells G cl l zs cs/\Reps K G ws zs
def Reps(K:PySem.W.Frag)(G:Hp):List W->List V->Prop
 |[],xs=>xs=[]
 |w::ws,xs=>ConsOf xs (Rep K G w) (Reps K G ws)
end
mutual
theorem Rep.mono{K:PySem.W.Frag}{G G':Hp}(e:Same G G'):∀(w:W){v:V},Rep K G w v->Rep K G' w v
 |.non,v,h=>h
 |.bl b,v,h=>h
 |.int i,v,h=>h
 |.str x,v,h=>h
 |.tup ws,v,h=>by
  obtain⟨a,xs,rfl,q,r⟩:=h;exact⟨a,xs,rfl,e.tup q,Reps.mono e ws r⟩
 |.lst ws,v,h=>by
  obtain⟨a,xs,rfl,q,r⟩:=h;exact⟨a,xs,rfl,e.seq q,Reps.mono e ws r⟩
 |.exc c,v,h=>by
  obtain⟨a,rfl,q⟩:=h;exact⟨a,rfl,e _ _ q⟩
 |.dic kvs,v,h=>by
  obtain⟨a,rfl,q⟩:=h;exact⟨a,rfl,e _ _ q⟩
 |.dw fz sh ks ws,v,h=>by
  obtain⟨a,kvs,kas,rfl,h1,h2,h3,h4⟩:=h;exact⟨a,kvs,kas,rfl,h1.mono e,h2,h3.mono e,Reps.mono e ws h4⟩
 |.fn i l ws,v,h=>by
  obtain⟨f,cl,zs,cs,rfl,⟨pm,c',ctv,h1⟩,h2,h3⟩:=h;exact⟨f,cl,zs,cs,rfl,⟨pm,c',ctv,e _ _ h1⟩,h2.mono e,Reps.mono e ws h3⟩
theorem Reps.mono{K:PySem.W.Frag}{G G':Hp}(e:Same G G'):∀(ws:List W){xs:List V},Reps K G ws xs->Reps K G' ws xs
 |[],xs,h=>h
 |w::ws,xs,h=>by
  obtain⟨x,r,rfl,h1,h2⟩:=h;exact⟨x,r,rfl,Rep.mono e w h1,Reps.mono e ws h2⟩
end
theorem Reps.length:∀{ws:List W}{xs:List V},Reps K G ws xs->xs.length=ws.length
 |[],xs,h=>by cases h;rfl
 |w::ws,xs,h=>by
  obtain⟨x,r,rfl,_,h2⟩:=h;simp[Reps.length h2]
theorem Reps.get:∀{ws:List W}{xs:List V}{i:Nat}{w:W},Reps K G ws xs->ws[i]?=some w->∃x,xs[i]?=some x/\Rep K G w x
 |[],xs,i,w,h,e=>by simp at e
 |w'::ws,xs,0,w,h,e=>by
  obtain⟨x,r,rfl,h1,h2⟩:=h;simp at e;subst e;exact⟨x,rfl,h1⟩
 |w'::ws,xs,i+1,w,h,e=>by
  obtain⟨x,r,rfl,h1,h2⟩:=h;obtain⟨y,e1,e2⟩:=Reps.get (i:=i) h2 (by simpa using e);exact⟨y,by simpa using e1,e2⟩
theorem Reps.getV:∀{ws:List W}{xs:List V}{i:Nat}{x:V},Reps K G ws xs->xs[i]?=some x->∃w,ws[i]?=some w/\Rep K G w x:=fun {ws xs i x} h e=>by
 have hl:=h.length;have hi:i<xs.length:=(w0b.mp e).1;have e2:ws[i]?=some ws[i]:=w0d (by omega);obtain⟨y,e3,r⟩:=h.get e2;rw[e]at e3;cases e3;exact⟨_,e2,r⟩
theorem Reps.append:∀{ws ws':List W}{xs xs':List V},Reps K G ws xs->Reps K G ws' xs'->Reps K G (ws++ws') (xs++xs')
 |[],ws',xs,xs',h,h'=>by cases h;exact h'
 |w::ws,ws',xs,xs',h,h'=>by
  obtain⟨x,r,rfl,h1,h2⟩:=h;exact⟨x,r++xs',rfl,h1,Reps.append h2 h'⟩
theorem Reps.one{x:V}(h:Rep K G w x):Reps K G [w] [x]:=⟨x,[],rfl,h,rfl⟩
theorem Reps.take:∀(n:Nat){ws:List W}{xs:List V},Reps K G ws xs->Reps K G (ws.take n) (xs.take n)
 |0,_,_,_=>rfl
 |n+1,[],_,h=>by cases h;rfl
 |n+1,w::ws,_,h=>by
  obtain⟨x,r,rfl,h1,h2⟩:=h;exact⟨x,r.take n,rfl,h1,Reps.take n h2⟩
theorem Reps.drop:∀(n:Nat){ws:List W}{xs:List V},Reps K G ws xs->Reps K G (ws.drop n) (xs.drop n)
 |0,_,_,h=>h
 |n+1,[],_,h=>by cases h;rfl
 |n+1,w::ws,_,h=>by
  obtain⟨x,r,rfl,h1,h2⟩:=h;exact Reps.drop n h2
theorem Reps.dropLast(h:Reps K G ws xs):Reps K G ws.dropLast xs.dropLast:=by
 rw[w3v,w3v,h.length];exact h.take _
theorem Reps.reverse:∀{ws:List W}{xs:List V},Reps K G ws xs->Reps K G ws.reverse xs.reverse
 |[],_,h=>by cases h;rfl
 |w::ws,_,h=>by
  obtain⟨x,r,rfl,h1,h2⟩:=h;rw[w1t,w1t];exact(Reps.reverse h2).append (.one h1)
theorem Reps.set:∀(i:Nat){ws:List W}{xs:List V}{w:W}{x:V},Reps K G ws xs->Rep K G w x->Reps K G (ws.set i w) (xs.set i x)
 |_,[],_,_,_,h,_=>by cases h;rfl
 |0,w'::ws,_,w,x,h,q=>by
  obtain⟨y,r,rfl,h1,h2⟩:=h;exact⟨x,r,rfl,q,h2⟩
 |i+1,w'::ws,_,w,x,h,q=>by
  obtain⟨y,r,rfl,h1,h2⟩:=h;exact⟨y,r.set i x,rfl,h1,Reps.set i h2 q⟩
structure Zt where
 H:Hp
 G:Hp
 io:List Addr
variable{Z Z':Zt}
def FzAt(Z:Zt)(G H:Hp)(l:Addr)(o:Obj)(ys:List V):Prop:=H l=some (.frz o (.lst ys))/\G l=none/\Z.H l=none
def NestIn(K:PySem.W.Frag)(Z:Zt)(G H:Hp):List Addr->List (List W)->Prop
 |[],[]=>True
 |l::ls,ws::wss=>(∃o ys,FzAt Z G H l o ys/\Reps K G ws ys)/\NestIn K Z G H ls wss
 |[],_::_=>False
 |_::_,[]=>False
inductive NestOk(K:PySem.W.Frag)(Z:Zt)(G H:Hp)(wss:List (List W))(v:Option V):Prop where
 |mk (a:Addr) (ls:List Addr) (h1:v=some (.ref a)) (h2:G a=some (.lst (ls.map V.ref))) (h3:ls.Nodup) (h4:NestIn K Z G H ls wss):NestOk K Z G H wss v
theorem NestIn.move(sg:Same G G')(hf:∀l o ys,H l=some (.frz o (.lst ys))->G l=none->Z.H l=none->H' l=some (.frz o (.lst ys))/\G' l=none/\Z'.H l=none):∀{ls:List Addr}{wss:List (List W)},NestIn K Z G H ls wss->NestIn K Z' G' H' ls wss
 |[],[],_=>trivial
 |l::ls,ws::wss,⟨⟨o,ys,⟨h1,h2,h3⟩,h4⟩,h⟩=>⟨⟨o,ys,hf l o ys h1 h2 h3,Reps.mono sg ws h4⟩,h.move sg hf⟩
 |[],_::_,h=>h.elim
 |_::_,[],h=>h.elim
theorem NestOk.move{wss:List (List W)}{v:Option V}(q:NestOk K Z G H wss v)(sg:Same G G')(hf:∀l o ys,H l=some (.frz o (.lst ys))->G l=none->Z.H l=none->H' l=some (.frz o (.lst ys))/\G' l=none/\Z'.H l=none):NestOk K Z' G' H' wss v:=by
 obtain⟨a,ls,h1,h2,h3,h4⟩:=q;exact⟨a,ls,h1,sg _ _ h2,h3,h4.move sg hf⟩
inductive DwOk(K:PySem.W.Frag)(Z:Zt)(G H:Hp)(sh:Sh)(ks:List Kx)(ws:List W)(v:Option V):Prop where
 |mk (a:Addr) (kvs:List (Kx×V)) (kas:List Addr) (h1:v=some (.ref a)) (h2:H a=some (.dT sh kvs kas)) (h3:G a=none) (h4:Z.H a=none) (h5:kvs.map (·.1)=ks) (h6:KeysG G ks kas) (h7:Reps K G ws (kvs.map (·.2))):DwOk K Z G H sh ks ws v
theorem DwOk.move{sh:Sh}{ks:List Kx}{v:Option V}(q:DwOk K Z G H sh ks ws v)(sg:Same G G')(hf:∀a kvs kas,H a=some (.dT sh kvs kas)->G a=none->Z.H a=none->H' a=some (.dT sh kvs kas)/\G' a=none/\Z'.H a=none):DwOk K Z' G' H' sh ks ws v:=by
 obtain⟨a,kvs,kas,h1,h2,h3,h4,h5,h6,h7⟩:=q;obtain⟨k1,k2,k3⟩:=hf a kvs kas h2 h3 h4;exact⟨a,kvs,kas,h1,k1,k2,k3,h5,h6.mono sg,Reps.mono sg ws h7⟩
mutual
def RepN(K:PySem.W.Frag)(Z:Zt)(G:Hp):W->V->Prop
 |.non,v=>v=.non
 |.bl b,v=>v=.bl b
 |.int i,v=>v=.int i
 |.str x,v=>v=.str x
 |.tup ws,v=>RefTo v (SqT K G) fun _ xs=>RepNs K Z G ws xs
 |.lst ws,v=>RefTo v (fun a xs=>G a=some (.lst xs)) fun a xs=>Z.H a=none/\RepNs K Z G ws xs
 |.exc _,_=>False
 |.dic _,_=>False
 |.dw _ _ _ _,_=>False
 |.fn _ _ _,_=>False
def RepNs(K:PySem.W.Frag)(Z:Zt)(G:Hp):List W->List V->Prop
 |[],xs=>xs=[]
 |w::ws,xs=>ConsOf xs (RepN K Z G w) (RepNs K Z G ws)
end
mutual
theorem RepN.rep{K:PySem.W.Frag}{Z:Zt}{G:Hp}:∀(w:W){v:V},RepN K Z G w v->Rep K G w v
 |.non,_,h=>h
 |.bl _,_,h=>h
 |.int _,_,h=>h
 |.str _,_,h=>h
 |.tup ws,_,⟨a,xs,e,q,r⟩=>⟨a,xs,e,q,RepNs.reps ws r⟩
 |.lst ws,_,⟨a,xs,e,q,_,r⟩=>⟨a,xs,e,.inl (.inl q),RepNs.reps ws r⟩
 |.exc _,_,h=>h.elim
 |.dic _,_,h=>h.elim
 |.dw _ _ _ _,_,h=>h.elim
 |.fn _ _ _,_,h=>h.elim
theorem RepNs.reps{K:PySem.W.Frag}{Z:Zt}{G:Hp}:∀(ws:List W){vs:List V},RepNs K Z G ws vs->Reps K G ws vs
 |[],_,h=>h
 |w::ws,_,⟨x,r,e,p,q⟩=>⟨x,r,e,RepN.rep w p,RepNs.reps ws q⟩
end
mutual
theorem RepN.move{K:PySem.W.Frag}{Z Z':Zt}{G G':Hp}(sg:Same G G')(hz:∀a xs,G a=some (.lst xs)->Z.H a=none->Z'.H a=none):∀(w:W){v:V},RepN K Z G w v->RepN K Z' G' w v
 |.non,_,h=>h
 |.bl _,_,h=>h
 |.int _,_,h=>h
 |.str _,_,h=>h
 |.tup ws,_,⟨a,xs,e,q,r⟩=>⟨a,xs,e,sg.tup q,RepNs.move sg hz ws r⟩
 |.lst ws,_,⟨a,xs,e,q,n,r⟩=>⟨a,xs,e,sg _ _ q,hz _ _ q n,RepNs.move sg hz ws r⟩
 |.exc _,_,h=>h.elim
 |.dic _,_,h=>h.elim
 |.dw _ _ _ _,_,h=>h.elim
 |.fn _ _ _,_,h=>h.elim
theorem RepNs.move{K:PySem.W.Frag}{Z Z':Zt}{G G':Hp}(sg:Same G G')(hz:∀a xs,G a=some (.lst xs)->Z.H a=none->Z'.H a=none):∀(ws:List W){vs:List V},RepNs K Z G ws vs->RepNs K Z' G' ws vs
 |[],_,h=>h
 |w::ws,_,⟨x,r,e,p,q⟩=>⟨x,r,e,RepN.move sg hz w p,RepNs.move sg hz ws q⟩
end
inductive AccOk(K:PySem.W.Frag)(Z:Zt)(G H:Hp)(ws:List W)(v:Option V):Prop where
 |mk (a:Addr) (o:Obj) (xs:List V) (h1:v=some (.ref a)) (h2:FzAt Z G H a o xs) (h3:RepNs K Z G ws xs):AccOk K Z G H ws v
inductive ThroOk(K:PySem.W.Frag)(Z:Zt)(G H:Hp)(us ws vs:List W)(v:Option V):Prop where
 |mk (t l:Addr) (o:Obj) (xs ys zs:List V) (h1:v=some (.ref t)) (h2:Z.G t=some (.tup (xs++.ref l::zs))) (h3:G t=some (.tup (xs++.ref l::zs))) (h4:FzAt Z G H l o ys) (h5:Reps K Z.G us xs/\Reps K Z.G ws ys/\Reps K Z.G vs zs) (h6:Reps K G us xs/\Reps K G ws ys/\Reps K G vs zs):ThroOk K Z G H us ws vs v
inductive TnOk(K:PySem.W.Frag)(Z:Zt)(G H:Hp)(us:List W)(wss:List (List W))(v:Option V):Prop where
 |mk (t l:Addr) (o:Obj) (ls:List Addr) (xs:List V) (h1:v=some (.ref t)) (h2:G t=some (.tup (xs++[.ref l]))) (h3:FzAt Z G H l o (ls.map V.ref)) (h4:ls.Nodup/\l∉ls) (h5:Reps K G us xs) (h6:NestIn K Z G H ls wss):TnOk K Z G H us wss v
inductive PtOk(K:PySem.W.Frag)(Z:Zt)(G H:Hp)(us ws:List W)(w:W)(v:Option V):Prop where
 |mk (p t l:Addr) (o:Obj) (xs ys:List V) (x:V) (h1:v=some (.ref p)) (h2:G p=some (.tup [.ref t,x])) (h3:G t=some (.tup (xs++[.ref l]))) (h4:FzAt Z G H l o ys) (h5:Reps K G us xs) (h6:Reps K G ws ys) (h7:Rep K G w x):PtOk K Z G H us ws w v
def XOk(K:PySem.W.Frag)(Z:Zt)(G H:Hp):SK->Option V->Prop
 |.old w,v=>∃u,v=some u/\Rep K Z.G w u/\Rep K G w u
 |.new w,v=>∃u,v=some u/\RepN K Z G w u
 |.acc ws,v=>AccOk K Z G H ws v
 |.thro us ws vs,v=>ThroOk K Z G H us ws vs v
 |.tn us wss,v=>TnOk K Z G H us wss v
 |.pt us ws w,v=>PtOk K Z G H us ws w v
theorem XOk.move{k:SK}{v:Option V}(q:XOk K Z G H k v)(sg:Same G G')(hf:∀l o ys,H l=some (.frz o (.lst ys))->G l=none->Z.H l=none->H' l=some (.frz o (.lst ys))/\G' l=none/\Z.H l=none):XOk K Z G' H' k v:=by
 cases k with
 |old w=>obtain⟨u,h1,h2,h3⟩:=q;exact⟨u,h1,h2,Rep.mono sg w h3⟩
 |new w=>obtain⟨u,h1,h2⟩:=q;exact⟨u,h1,RepN.move sg (fun _ _ _ z=>z) w h2⟩
 |acc ws=>obtain⟨a,o,xs,h1,⟨h2,h3,h4⟩,h5⟩:=q;exact⟨a,o,xs,h1,hf _ _ _ h2 h3 h4,RepNs.move sg (fun _ _ _ z=>z) ws h5⟩
 |tn us wss=>obtain⟨t,l,o,ls,xs,h1,h2,⟨h3,h4,h5⟩,h6,h7,h8⟩:=q;exact⟨t,l,o,ls,xs,h1,sg _ _ h2,hf _ _ _ h3 h4 h5,h6,Reps.mono sg us h7,h8.move sg hf⟩
 |pt us ws w=>obtain⟨p,t,l,o,xs,ys,x,h1,h2,h3,⟨h4,h5,h6⟩,h7,h8,h9⟩:=q;exact⟨p,t,l,o,xs,ys,x,h1,sg _ _ h2,sg _ _ h3,hf _ _ _ h4 h5 h6,Reps.mono sg us h7,Reps.mono sg ws h8,Rep.mono sg w h9⟩
 |thro us ws vs=>obtain⟨t,l,o,xs,ys,zs,h1,h2,h3,⟨h4,h5,h6⟩,h7,h8,h9,h10⟩:=q;exact⟨t,l,o,xs,ys,zs,h1,h2,sg _ _ h3,hf _ _ _ h4 h5 h6,h7,Reps.mono sg us h8,Reps.mono sg ws h9,Reps.mono sg vs h10⟩
def IoOk(Z:Zt):Option Nat->Addr->Prop
 |none,a=>Z.H a=none
 |some j,a=>Z.io[j]?=some a
theorem IoOk.io(h:IoOk Z b a):a∈Z.io\/Z.H a=none:=by
 cases b with
 |none=>exact .inr h
 |some j=>exact .inl (w0v h)
inductive OwnOk(K:PySem.W.Frag)(Z:Zt)(G H:Hp)(b:Option Nat)(ws:List W)(v:Option V):Prop where
 |mk (a:Addr) (xs:List V) (h1:v=some (.ref a)) (h2:H a=some (.lst xs)) (h3:G a=none) (h4:IoOk Z b a) (h5:Reps K G ws xs):OwnOk K Z G H b ws v
inductive DicOk(Z:Zt)(G H:Hp)(kvs:Dd)(v:Option V):Prop where
 |mk (a:Addr) (h1:v=some (.ref a)) (h2:H a=some (dO kvs)) (h3:G a=none) (h4:Z.H a=none):DicOk Z G H kvs v
inductive ThrOk(K:PySem.W.Frag)(Z:Zt)(G H:Hp)(us ws vs:List W)(v:Option V):Prop where
 |mk (t l:Addr) (o:Obj) (xs ys zs:List V) (h1:v=some (.ref t)) (h2:G t=some (.tup (xs++.ref l::zs))) (h3:H l=some (.frz o (.lst ys))) (h4:G l=none) (h5:Z.H l=none) (h6:Reps K G us xs/\Reps K G ws ys/\Reps K G vs zs):ThrOk K Z G H us ws vs v
def SlotOk(K:PySem.W.Frag)(Z:Zt)(G H:Hp):S->Option V->Prop
 |.no,_=>True
 |.fr w,v=>∃u,v=some u/\Rep K G w u
 |.own b ws,v=>OwnOk K Z G H b ws v
 |.dic kvs,v=>DicOk Z G H kvs v
 |.thr us ws vs,v=>ThrOk K Z G H us ws vs v
 |.nest wss,v=>NestOk K Z G H wss v
 |.dw sh ks ws,v=>DwOk K Z G H sh ks ws v
 |.x k,v=>XOk K Z G H k v
structure Rel(K:PySem.W.Frag)(Z:Zt)(G:Hp)(σ:St)(H:Hp)(e:List S):Prop where
 sub:Same G H
 slot:∀(i:Nat)(s:S),e[i]?=some s->SlotOk K Z G H s (σ[i]?.getD none)
 len:e.length=σ.length
 dis:∀(i j:Nat)(b b':Option Nat)(ws ws':List W)(a:Addr),e[i]?=some (.own b ws)->e[j]?=some (.own b' ws')->σ[i]?=some (some (.ref a))->σ[j]?=some (some (.ref a))->i=j
 ent:∀a o,Z.H a=some o->a∉Z.io->H a=some o
 ion:∀a∈Z.io,H a≠none
 gen:∀a,Z.H a≠none->G a=Z.G a
inductive AtG(K:PySem.W.Frag)(Z:Zt)(σ:St)(H:Hp)(P:Hp->List S->Prop):Prop where
 |mk (G:Hp) (e:List S) (r:Rel K Z G σ H e) (h:P G e):AtG K Z σ H P
structure Grow(G H G' H':Hp):Prop where
 hh:Same H H'
 gg:Same G G'
 sub:Same G' H'
 new:∀a,H a≠none->G' a=G a
theorem Grow.refl(s:Same G H):Grow G H G H:=⟨.refl _,.refl _,s,fun _ _=>rfl⟩
theorem x6q(e:Same H H')(h:H a≠none):H' a≠none:=by
 cases q:H a with
 |none=>exact absurd q h
 |some o=>rw[e a o q];simp
theorem Grow.laid(s:Same G H){D:Addr}(h:H D=none)(o:HO):Grow G H (upd G D o) (upd H D o) where
 hh:=q24 h o
 gg:=q24 (s.free h) o
 sub:=fun b u e=>by
  by_cases hb:b=D
  ·subst hb;rw[q0h]at e |-;exact e
  ·rw[q0e hb]at e |-;exact s b u e
 new:=fun a ha=>by rw[q0e (fun z=>ha (by rw[z];exact h))]
theorem Grow.hid(s:Same G H){D:Addr}(h:H D=none)(o:HO):Grow G H G (upd H D o) where
 hh:=q24 h o
 gg:=.refl _
 sub:=fun b u e=>by
  have:=s b u e;rw[q0e (q0q this h)];exact this
 new:=fun a ha=>rfl
theorem Rel.grow(r:Rel K Z G σ H e)(g:Grow G H G' H'):Rel K Z G' σ H' e where
 sub:=g.sub
 slot:=fun i s h=>by
  have q:=r.slot i s h;cases s with
  |no=>trivial
  |fr w=>
   obtain⟨u,h1,h2⟩:=q;exact⟨u,h1,Rep.mono g.gg w h2⟩
  |own b ws=>
   obtain⟨a,xs,h1,h2,h3,h4,h5⟩:=q;exact⟨a,xs,h1,g.hh _ _ h2,by rw[g.new a (by rw[h2];simp)];exact h3,h4,Reps.mono g.gg ws h5⟩
  |dic kvs=>
   obtain⟨a,h1,h2,h3,h4⟩:=q;exact⟨a,h1,g.hh _ _ h2,by rw[g.new a (by rw[h2];simp)];exact h3,h4⟩
  |thr us ws vs=>
   obtain⟨t,l,o,xs,ys,zs,h1,h2,h3,h4,h5,h6,h7,h8⟩:=q;exact⟨t,l,o,xs,ys,zs,h1,g.gg _ _ h2,g.hh _ _ h3,by rw[g.new l (by rw[h3];simp)];exact h4,h5,Reps.mono g.gg us h6,Reps.mono g.gg ws h7,Reps.mono g.gg vs h8⟩
  |nest wss=>exact NestOk.move q g.gg fun l o ys h1 h2 h3=>⟨g.hh _ _ h1,by rw[g.new l (by rw[h1];simp)];exact h2,h3⟩
  |x k=>exact XOk.move q g.gg fun l o ys h1 h2 h3=>⟨g.hh _ _ h1,by rw[g.new l (by rw[h1];simp)];exact h2,h3⟩
  |dw sh ks ws=>exact DwOk.move q g.gg fun l o ys h1 h2 h3=>⟨g.hh _ _ h1,by rw[g.new l (by rw[h1];simp)];exact h2,h3⟩
 len:=r.len
 dis:=r.dis
 ent:=fun a o h n=>g.hh _ _ (r.ent a o h n)
 ion:=fun a h=>x6q g.hh (r.ion a h)
 gen:=fun a h=>by
  have:H a≠none:=by
   cases q:Z.H a with
   |none=>exact absurd q h
   |some o=>
    by_cases hi:a∈Z.io
    ·exact r.ion a hi
    ·rw[r.ent a o q hi];simp
  rw[g.new a this];exact r.gen a h
theorem Rel.own(r:Rel K Z G σ H e)(h:e[i]?=some (.own b ws)):∃a xs,σ[i]?=some (some (.ref a))/\H a=some (.lst xs)/\G a=none/\(IoOk Z b a)/\Reps K G ws xs:=by
 obtain⟨a,xs,h1,h2,h3,h4,h5⟩:=r.slot i _ h;refine⟨a,xs,?_,h2,h3,h4,h5⟩;cases q:σ[i]? with
 |none=>rw[q]at h1;cases h1
 |some z=>rw[q]at h1;rw[show z=some (V.ref a)from h1]
theorem Rel.fr(r:Rel K Z G σ H e)(h:e[i]?=some (.fr w)):∃v,σ[i]?=some (some v)/\Rep K G w v:=by
 obtain⟨v,h1,h2⟩:=r.slot i _ h;refine⟨v,?_,h2⟩;cases q:σ[i]? with
 |none=>rw[q]at h1;cases h1
 |some z=>rw[q]at h1;rw[show z=some v from h1]
theorem Rel.at(r:Rel K Z G σ H e){s:S}(h:e[i]?=some s)(hs:SlotOk K Z G H s (σ[i]?.getD none)->σ[i]?.getD none=some v):σ[i]?=some (some v):=by
 have h1:=hs (r.slot i _ h);cases q:σ[i]? with
 |none=>rw[q]at h1;cases h1
 |some z=>rw[q]at h1;rw[show z=some v from h1]
theorem Rel.plain(r:Rel K Z G σ H e){k:SK}(h:e[i]?=some (.x k))(hk:k.plain=some w):∃v,σ[i]?=some (some v)/\Rep K G w v:=by
 have q:=r.slot i _ h;cases k with
 |old w'=>cases hk;obtain⟨v,h1,_,h2⟩:=q;exact⟨v,r.at h fun _=>h1,h2⟩
 |new w'=>cases hk;obtain⟨v,h1,h2⟩:=q;exact⟨v,r.at h fun _=>h1,RepN.rep _ h2⟩
 |_=>cases hk
theorem Rel.mut(r:Rel K Z G σ H e){ws':List W}{xs':List V}(h:e[i]?=some (.own b ws))(ha:σ[i]?=some (some (.ref a)))(q:Reps K G ws' xs'):Rel K Z G σ (upd H a (.lst xs')) (e.set i (.own b ws')):=by
 obtain⟨a',xs,h1,h2,h3,h4,h5⟩:=r.own h;rw[ha]at h1;cases h1;have hi:i<e.length:=(w0b.mp h).1;refine⟨fun c o z=>?_,fun j s z=>?_,by simpa using r.len,fun j k b1 b2 w1 w2 c z1 z2 z3 z4=>?_,fun c o z n=>?_,fun c z=>?_,r.gen⟩
 ·rw[q0e (q0q z h3)];exact r.sub c o z
 ·by_cases hj:j=i
  ·subst hj;rw[w0l hi]at z;cases z;exact⟨a,xs',by rw[ha];rfl,q0h,h3,h4,q⟩
  ·rw[w0m (fun z=>hj z.symm)]at z
   have y:=r.slot j s z;cases s with
   |no=>trivial
   |fr w=>exact y
   |own b2 w2=>
    obtain⟨c,ys,y1,y2,y3,y4,y5⟩:=y;refine⟨c,ys,y1,?_,y3,y4,y5⟩;rw[q0e];exact y2;rintro rfl;obtain⟨c',_,z1,_⟩:=r.own z;rw[z1]at y1;cases y1;exact hj (r.dis j i _ _ _ _ _ z h z1 ha)
   |dic kvs=>
    obtain⟨c,y1,y2,y3,y4⟩:=y;refine⟨c,y1,?_,y3,y4⟩;rw[q0e (q03 y2 h2 (q5e rfl))];exact y2
   |thr us w2 vs=>
    obtain⟨t,l,o,xs2,ys,zs,y1,y2,y3,y4,y5,y6⟩:=y;refine⟨t,l,o,xs2,ys,zs,y1,y2,?_,y4,y5,y6⟩;rw[q0e (q03 y3 h2 (fun z=>nomatch z))];exact y3
   |nest wss=>exact NestOk.move y (.refl _) fun l o ys k1 k2 k3=>⟨by rw[q0e (q03 k1 h2 (fun z=>nomatch z))];exact k1,k2,k3⟩
   |x k=>exact XOk.move y (.refl _) fun l o ys k1 k2 k3=>⟨by rw[q0e (q03 k1 h2 (fun z=>nomatch z))];exact k1,k2,k3⟩
   |dw sh ks ws=>exact DwOk.move y (.refl _) fun l o ys k1 k2 k3=>⟨by rw[q0e (q03 k1 h2 (fun z=>nomatch z))];exact k1,k2,k3⟩
 ·have old:∀(k:Nat)(bb:Option Nat)(ww:List W),(e.set i (S.own b ws'))[k]?=some (.own bb ww)->∃b' w',e[k]?=some (.own b' w'):=fun k bb ww z=>by
   by_cases hk:k=i
   ·subst hk;exact⟨_,_,h⟩
   ·rw[w0m (fun z=>hk z.symm)]at z;exact⟨_,_,z⟩
  obtain⟨_,_,q1⟩:=old _ _ _ z1;obtain⟨_,_,q2⟩:=old _ _ _ z2;exact r.dis _ _ _ _ _ _ _ q1 q2 z3 z4
 ·by_cases hc:c=a
  ·subst hc;exfalso;rcases h4.io with h4|h4
   ·exact n h4
   ·rw[h4]at z;cases z
  ·rw[q0e hc];exact r.ent c o z n
 ·by_cases hc:c=a
  ·subst hc;rw[q0h];simp
  ·rw[q0e hc];exact r.ion c z
theorem Rel.freeze(r:Rel K Z G σ H e)(h:e[i]?=some (.own none ws)):∃v G',σ[i]?=some (some v)/\Same G G'/\Rep K G' (.lst ws) v/\Rel K Z G' σ H (e.set i (.fr (.lst ws))):=by
 obtain⟨a,xs,h1,h2,h3,h4,h5⟩:=r.own h;have h4:Z.H a=none:=h4;have sg:Same G (upd G a (.lst xs)):=q24 h3 _;have hi:i<e.length:=(w0b.mp h).1;have rp:Rep K (upd G a (.lst xs)) (.lst ws) (.ref a):=⟨a,xs,rfl,SqL.of q0h,Reps.mono sg ws h5⟩;refine⟨.ref a,upd G a (.lst xs),h1,sg,rp,⟨fun c o z=>?_,fun j s z=>?_,by simpa using r.len,fun j k b1 b2 w1 w2 c z1 z2 z3 z4=>?_,r.ent,r.ion,fun c z=>?_⟩⟩
 ·by_cases hc:c=a
  ·subst hc;rw[q0h]at z;cases z;exact h2
  ·rw[q0e hc]at z;exact r.sub c o z
 ·by_cases hj:j=i
  ·subst hj;rw[w0l hi]at z;cases z;exact⟨.ref a,by rw[h1];rfl,rp⟩
  ·rw[w0m (fun z=>hj z.symm)]at z
   have y:=r.slot j s z;cases s with
   |no=>trivial
   |fr w=>
    obtain⟨u,y1,y2⟩:=y;exact⟨u,y1,Rep.mono sg w y2⟩
   |own b2 w2=>
    obtain⟨c,ys,y1,y2,y3,y4,y5⟩:=y;refine⟨c,ys,y1,y2,?_,y4,Reps.mono sg w2 y5⟩;rw[q0e];exact y3;rintro rfl;obtain⟨c',_,z1,_⟩:=r.own z;rw[z1]at y1;cases y1;exact hj (r.dis j i _ _ _ _ _ z h z1 h1)
   |dic kvs=>
    obtain⟨c,y1,y2,y3,y4⟩:=y;refine⟨c,y1,y2,?_,y4⟩;rw[q0e (q03 y2 h2 (q5e rfl))];exact y3
   |thr us w2 vs=>
    obtain⟨t,l,o,xs2,ys,zs,y1,y2,y3,y4,y5,y6,y7,y8⟩:=y;refine⟨t,l,o,xs2,ys,zs,y1,sg _ _ y2,y3,?_,y5,Reps.mono sg us y6,Reps.mono sg w2 y7,Reps.mono sg vs y8⟩;rw[q0e (q03 y3 h2 (fun z=>nomatch z))];exact y4
   |nest wss=>exact NestOk.move y sg fun l o ys k1 k2 k3=>⟨k1,by rw[q0e (q03 k1 h2 (fun z=>nomatch z))];exact k2,k3⟩
   |x k=>exact XOk.move y sg fun l o ys k1 k2 k3=>⟨k1,by rw[q0e (q03 k1 h2 (fun z=>nomatch z))];exact k2,k3⟩
   |dw sh ks ws=>exact DwOk.move y sg fun l o ys k1 k2 k3=>⟨k1,by rw[q0e (q03 k1 h2 (fun z=>nomatch z))];exact k2,k3⟩
 ·have old:∀(k:Nat)(bb:Option Nat)(ww:List W),(e.set i (S.fr (W.lst ws)))[k]?=some (.own bb ww)->e[k]?=some (.own bb ww):=fun k bb ww z=>by
   by_cases hk:k=i
   ·subst hk;rw[w0l hi]at z;cases z
   ·rw[w0m (fun z=>hk z.symm)]at z;exact z
  exact r.dis _ _ _ _ _ _ _ (old _ _ _ z1) (old _ _ _ z2) z3 z4
 ·by_cases hc:c=a
  ·subst hc;exact absurd h4 z
  ·rw[q0e hc];exact r.gen c z
def Free(σ:St)(e:List S)(a:Addr):Prop:=∀(j:Nat)(b:Option Nat)(ws:List W),e[j]?=some (.own b ws)->σ[j]?≠some (some (.ref a))
theorem Rel.set(r:Rel K Z G σ H e){v:V}(q:Rep K G w v):Rel K Z G (σ.set i (some v)) H (e.set i (.fr w)):=by
 refine⟨r.sub,fun j s z=>?_,by simpa using r.len,fun j k b1 b2 w1 w2 c z1 z2 z3 z4=>?_,r.ent,r.ion,r.gen⟩
 ·by_cases hj:j=i
  ·subst hj
   have hi:j<e.length:=by
    have:=(w0b.mp z).1;simpa using this
   rw[w0l hi]at z;cases z;rw[w0l (by rw[<- r.len];exact hi)];exact⟨v,rfl,q⟩
  ·rw[w0m (fun z=>hj z.symm)]at z |-
   exact r.slot j s z
 ·have old:∀(k:Nat)(bb:Option Nat)(ww:List W),(e.set i (S.fr w))[k]?=some (.own bb ww)->k≠i/\e[k]?=some (.own bb ww):=fun k bb ww z=>by
   by_cases hk:k=i
   ·subst hk
    have hi:k<e.length:=by
     have:=(w0b.mp z).1;simpa using this
    rw[w0l hi]at z;cases z
   ·rw[w0m (fun z=>hk z.symm)]at z;exact⟨hk,z⟩
  obtain⟨n1,q1⟩:=old _ _ _ z1;obtain⟨n2,q2⟩:=old _ _ _ z2;rw[w0m (fun z=>n1 z.symm)]at z3
  rw[w0m (fun z=>n2 z.symm)]at z4
  exact r.dis _ _ _ _ _ _ _ q1 q2 z3 z4
theorem Rel.setOwn(r:Rel K Z G σ H e)(h2:H a=some (.lst xs))(h3:G a=none)(h4:Z.H a=none)(hf:Free σ e a)(q:Reps K G ws xs):Rel K Z G (σ.set i (some (.ref a))) H (e.set i (.own none ws)):=by
 refine⟨r.sub,fun j s z=>?_,by simpa using r.len,fun j k b1 b2 w1 w2 c z1 z2 z3 z4=>?_,r.ent,r.ion,r.gen⟩
 ·by_cases hj:j=i
  ·subst hj
   have hi:j<e.length:=by
    have:=(w0b.mp z).1;simpa using this
   rw[w0l hi]at z;cases z;rw[w0l (by rw[<- r.len];exact hi)];exact⟨a,xs,rfl,h2,h3,h4,q⟩
  ·rw[w0m (fun z=>hj z.symm)]at z |-
   exact r.slot j s z
 ·have both:∀(k:Nat)(bb:Option Nat)(ww:List W),(e.set i (S.own none ws))[k]?=some (.own bb ww)->(σ.set i (some (.ref a)))[k]?=some (some (.ref c))->(k=i/\c=a)\/(k≠i/\e[k]?=some (.own bb ww)/\σ[k]?=some (some (.ref c))/\c≠a):=fun k bb ww z y=>by
   by_cases hk:k=i
   ·subst hk
    have hi:k<e.length:=by
     have:=(w0b.mp z).1;simpa using this
    rw[w0l (by rw[<- r.len];exact hi)]at y;cases y;exact .inl ⟨rfl,rfl⟩
   ·rw[w0m (fun z=>hk z.symm)]at z y
    exact .inr ⟨hk,z,y,fun e=>hf k bb ww z (by rw[y,e])⟩
  rcases both _ _ _ z1 z3 with⟨e1,c1⟩|⟨n1,q1,p1,c1⟩<;>rcases both _ _ _ z2 z4 with⟨e2,c2⟩|⟨n2,q2,p2,c2⟩
  ·rw[e1,e2]
  ·exact absurd c1 c2
  ·exact absurd c2 c1
  ·exact r.dis _ _ _ _ _ _ _ q1 q2 p1 p2
inductive R(α:Type) where
 |ok (a:α) (e:List S)|ex (c:Value) (e:List S)|no
noncomputable abbrev Den(α:Type):=List S->R α
variable{dA:Den (List W)}
noncomputable def R.bind{β:Type}:R α->(α->List S->R β)->R β
 |.ok a e,k=>k a e
 |.ex c e,_=>.ex c e
 |.no,_=>.no
def R.holds(r:R α)(P:α->List S->Prop)(E:Value->List S->Prop):Prop:=match r with
 |.ok a e=>P a e
 |.ex c e=>E c e
 |.no=>False
theorem R.holds_bind{β:Type}{r:R α}{k:α->List S->R β}{P:β->List S->Prop}:(r.bind k).holds P E↔r.holds (fun a e=>(k a e).holds P E) E:=by
 cases r<;>rfl
theorem R.holds.imp{r:R α}{P P':α->List S->Prop}{E':Value->List S->Prop}(h:r.holds P E)(p:∀a e,P a e->P' a e)(x:∀c e,E c e->E' c e):r.holds P' E':=by
 cases r with
 |ok a e=>exact p a e h
 |ex c e=>exact x c e h
 |no=>exact h
noncomputable def ofOpt(o:Option α)(e:List S):R α:=match o with
 |some a=>.ok a e
 |none=>.no
theorem ofOpt_holds{o:Option α}{P:α->List S->Prop}:(ofOpt o e).holds P E↔∃a,o=some a/\P a e:=by
 cases o with
 |none=>exact⟨fun h=>h.elim,fun⟨_,h,_⟩=>nomatch h⟩
 |some a=>exact⟨fun h=>⟨a,rfl,h⟩,fun⟨_,h,q⟩=>by cases h;exact q⟩
inductive SR where
 |nx (e:List S)|rt (s:S) (e:List S)|bk (e:List S)|ct (e:List S)|ex (c:Value) (e:List S)|no
section
variable(K:PySem.W.Frag)(Z:Zt)(EE:St->XK)
abbrev XH(σ:St)(G:Hp):Value->List S->Prop:=fun c e'=>∀G' H',Rel K Z G' σ H' e'->Same G G'->EE σ c none H'
def liftE(d:Den W):TE:=fun σ H Q=>AtG K Z σ H fun G e=>(d e).holds (fun w e'=>∀G' v H',Rel K Z G' σ H' e'->Same G G'->Rep K G' w v->Q v H') (XH K Z EE σ G)
def liftA(d:Den (List W)):TA:=fun σ H Q=>AtG K Z σ H fun G e=>(d e).holds (fun ws e'=>∀G' vs H',Rel K Z G' σ H' e'->Same G G'->Reps K G' ws vs->Q vs H') (XH K Z EE σ G)
def liftT(d:Den Bool):TT:=fun σ H Q=>AtG K Z σ H fun G e=>(d e).holds (fun b e'=>∀G' H',Rel K Z G' σ H' e'->Same G G'->Q b H') (XH K Z EE σ G)
def liftF(d:Den (List W)):TE:=fun σ H Q=>AtG K Z σ H fun G e=>(d e).holds (fun ws e'=>∀G' a xs H',Rel K Z G' σ H' e'->Same G G'->H' a=some (.lst xs)->G' a=none->Z.H a=none->Free σ e' a->Reps K G' ws xs->Q (.ref a) H') (XH K Z EE σ G)
def PostS(D:Ends)(G:Hp):SR->Prop
 |.nx e'=>∀G' σ' H',Rel K Z G' σ' H' e'->Same G G'->D.nx σ' H'
 |.bk e'=>∀G' σ' H',Rel K Z G' σ' H' e'->Same G G'->D.bk σ' H'
 |.ct e'=>∀G' σ' H',Rel K Z G' σ' H' e'->Same G G'->D.ct σ' H'
 |.rt s e'=>∀G' σ' v H',Rel K Z G' σ' H' e'->Same G G'->SlotOk K Z G' H' s (some v)->D.rt v H'
 |.ex c e'=>∀G' σ' H',Rel K Z G' σ' H' e'->Same G G'->EE σ' c none H'
 |.no=>False
def liftS(d:List S->SR):TS:=fun D σ H=>AtG K Z σ H fun G e=>PostS K Z EE D G (d e)
end
section
variable(Z:Zt)(X:Cx)(EE:St->XK)
def DE(e:Expr)(d:Den W):Prop:=PE X e (liftE X.K Z EE d)
def DF(e:Expr)(d:Den (List W)):Prop:=PE X e (liftF X.K Z EE d)
def DT(e:Expr)(d:Den Bool):Prop:=PT X e (liftT X.K Z EE d)
def DW(e:Expr)(d:Den Bool):Prop:=PW X e (liftT X.K Z EE d)
def DA(es:List Expr)(d:Den (List W)):Prop:=PA X es (liftA X.K Z EE d)
def DS(st:Stmt)(d:List S->SR):Prop:=PS X st (liftS X.K Z EE d)
def DSs(sts:List Stmt)(d:List S->SR):Prop:=PSs X sts (liftS X.K Z EE d)
end
theorem PE.mono{e:Expr}{t t':TE}(h:PE X e t)(i:∀σ H Q,t' σ H Q->t σ H Q):PE X e t':=fun pins s σ H Q I q=>h pins s σ H Q I (i σ H Q q)
theorem PT.mono{e:Expr}{t t':TT}(h:PT X e t)(i:∀σ H Q,t' σ H Q->t σ H Q):PT X e t':=fun pins s σ H Q I q=>h pins s σ H Q I (i σ H Q q)
theorem PW.mono{e:Expr}{t t':TT}(h:PW X e t)(i:∀σ H Q,t' σ H Q->t σ H Q):PW X e t':=fun wh pins s σ H Q I q=>h wh pins s σ H Q I (i σ H Q q)
theorem PA.mono{t t':TA}(h:PA X es t)(i:∀σ H Q,t' σ H Q->t σ H Q):PA X es t':=fun p pins s σ H Q I q=>h p pins s σ H Q I (i σ H Q q)
theorem PS.mono{t t':TS}(h:PS X st t)(i:∀D σ H,t' D σ H->t D σ H):PS X st t':=fun pins s σ H D I q=>h pins s σ H D I (i D σ H q)
theorem PSs.mono{st:List Stmt}{t t':TS}(h:PSs X st t)(i:∀D σ H,t' D σ H->t D σ H):PSs X st t':=fun pins s σ H D I q=>h pins s σ H D I (i D σ H q)
section
variable(K:PySem.W.Frag)
def Op2(r:R2)(f:W->W->Option W):Prop:=∀(G H:Hp)(x y:V)(wx wy w:W)(Q:VK),Same G H->Rep K G wx x->Rep K G wy y->f wx wy=some w->(∀G' v H',Grow G H G' H'->Rep K G' w v->Q v H')->r x y H Q
def Op1(r:V->Hp->VK->Prop)(f:W->Option W):Prop:=∀(G H:Hp)(x:V)(wx w:W)(Q:VK),Same G H->Rep K G wx x->f wx=some w->(∀G' v H',Grow G H G' H'->Rep K G' w v->Q v H')->r x H Q
def OpN(r:List V->Hp->VK->Prop)(f:List W->Option W):Prop:=∀(G H:Hp)(xs:List V)(ws:List W)(w:W)(Q:VK),Same G H->Reps K G ws xs->f ws=some w->(∀G' v H',Grow G H G' H'->Rep K G' w v->Q v H')->r xs H Q
end
noncomputable def dC(w:W):Den W:=fun e=>.ok w e
noncomputable def dVar(i:Nat):Den W:=fun e=>match e[i]? with
 |some (.fr w)=>.ok w e
 |some (.own none ws)=>.ok (.lst ws) (e.set i (.fr (.lst ws)))
 |some (.x k)=>match k.plain with
  |some w=>.ok w e
  |none=>.no
 |_=>.no
noncomputable def dOp(f:W->W->Option W)(da db:Den W):Den W:=fun e=>(da e).bind fun x e1=>(db e1).bind fun y e2=>ofOpt (f x y) e2
noncomputable def dUn(f:W->Option W)(da:Den W):Den W:=fun e=>(da e).bind fun x e1=>ofOpt (f x) e1
noncomputable def dTest(da:Den W):Den Bool:=fun e=>(da e).bind fun x e1=>match x with
 |.bl k=>.ok k e1
 |_=>.no
noncomputable def truW:W->Option Bool
 |.non=>some false
 |.bl b=>some b
 |.int i=>some (i != 0)
 |.str x=>if x.length<=16777216 then some ((x.length:Int) != 0)else none
 |.tup xs=>some (!xs.isEmpty)
 |.lst xs=>some (!xs.isEmpty)
 |.exc _=>none
 |.dic _=>none
 |.dw _ _ _ _=>none
 |.fn _ _ _=>none
noncomputable def dTru(da:Den W):Den Bool:=fun e=>(da e).bind fun x e1=>ofOpt (truW x) e1
noncomputable def dAnd(a b:Den Bool):Den Bool:=fun e=>(a e).bind fun x e1=>if x=true then b e1 else .ok false e1
noncomputable def dOr(a b:Den Bool):Den Bool:=fun e=>(a e).bind fun x e1=>if x=true then .ok true e1 else b e1
noncomputable def dAndV(a b:Den W):Den W:=fun e=>(a e).bind fun x e1=>match x with
 |.bl true=>b e1
 |.bl false=>.ok (.bl false) e1
 |_=>.no
noncomputable def dOrV(a b:Den W):Den W:=fun e=>(a e).bind fun x e1=>match x with
 |.bl true=>.ok (.bl true) e1
 |.bl false=>b e1
 |_=>.no
noncomputable def dNotV(a:Den W):Den W:=fun e=>(a e).bind fun x e1=>match x with
 |.bl k=>.ok (.bl (!k)) e1
 |_=>.no
noncomputable def dNil:Den (List W):=fun e=>.ok [] e
noncomputable def dCons(a:Den W)(r:Den (List W)):Den (List W):=fun e=>(a e).bind fun x e1=>(r e1).bind fun xs e2=>.ok (x::xs) e2
noncomputable def dTup(a:Den (List W)):Den W:=fun e=>(a e).bind fun xs e1=>if xs.length<=16777216 then .ok (.tup xs) e1 else .no
noncomputable def dLst(a:Den (List W)):Den (List W):=fun e=>(a e).bind fun xs e1=>if xs.length<=16777216 then .ok xs e1 else .no
noncomputable def dFz(a:Den (List W)):Den W:=fun e=>(a e).bind fun xs e1=>.ok (.lst xs) e1
noncomputable def dFn(f:List W->Option W)(a:Den (List W)):Den W:=fun e=>(a e).bind fun xs e1=>ofOpt (f xs) e1
section
variable{a b c e:Expr}{da db:Den W}{dc ta tb:Den Bool}
theorem XH.trans(s:Same G G1){c:Value}{e:List S}(h:XH K Z EE σ G c e):XH K Z EE σ G1 c e:=fun G' H' r q=>h G' H' r (s.trans q)
theorem q0b{i:Int}{j pos}:DE Z X EE (.Constant (.int i) j pos) (dC (.int i)):=PE.mono x6a fun σ H Q ⟨G,e,r,h⟩=>h G (.int i) H r (.refl _) rfl
theorem q6v{i:Bool}{j pos}:DE Z X EE (.Constant (.bool i) j pos) (dC (.bl i)):=PE.mono y8r fun σ H Q ⟨G,e,r,h⟩=>h G (.bl i) H r (.refl _) rfl
theorem q0m{i:Str}{j pos}:DE Z X EE (.Constant (.str i) j pos) (dC (.str i)):=PE.mono y5l fun σ H Q ⟨G,e,r,h⟩=>h G (.str i) H r (.refl _) rfl
theorem x9h:∀σ H Q,liftE K Z EE (dVar i) σ H Q->tVar i σ H Q:=by
 rintro σ H Q ⟨G,e,r,h⟩;unfold dVar at h;split at h
 ·rename_i w hw;obtain⟨v,h1,h2⟩:=r.fr hw;exact⟨v,h1,h G v H r (.refl _) h2⟩
 ·rename_i ws hw;obtain⟨v,G',h1,h2,h3,h4⟩:=r.freeze hw;exact⟨v,h1,h G' v H h4 h2 h3⟩
 ·rename_i k hw;cases q:k.plain with
  |some w=>
   rw[q]at h;obtain⟨v,h1,h2⟩:=r.plain hw q;exact⟨v,h1,h G v H r (.refl _) h2⟩
  |none=>rw[q]at h;exact h.elim
 ·exact h.elim
theorem dv(i:Nat)(hN:X.N[i]?=some x:=by rfl)(hv:Vis X.env.scope x:=by walk_at "1")(hd:(x==("__debug__":Str))=false:=by decide)
  (hcd:(x==("__classdict__":Str))=false:=by decide):DE Z X EE (.Name x pos) (dVar i):=PE.mono (pv i hN hv hd hcd) x9h
theorem q51{r:R2}(hf:Op2 K r f):∀σ H Q,liftE K Z EE (dOp f da db) σ H Q->tOp r (liftE K Z EE da) (liftE K Z EE db) σ H Q:=by
 rintro σ H Q ⟨G,e,rel,h⟩;simp only[dOp,R.holds_bind,ofOpt_holds]at h;refine⟨G,e,rel,h.imp (fun x e1 h G1 v1 H1 r1 s1 p1=>?_) fun _ _ h=>h⟩
 refine⟨G1,e1,r1,h.imp (fun y e2 h G2 v2 H2 r2 s2 p2=>?_) fun _ _ h=>XH.trans s1 h⟩
 obtain⟨w,hw,h⟩:=h;exact hf G2 H2 v1 v2 x y w Q r2.sub (Rep.mono s2 x p1) p2 hw fun G' v H' g p=>h G' v H' (r2.grow g) ((s1.trans s2).trans g.gg) p
theorem q72{op:Operator}{r:R2}(ho:OpR X (binaryOp op) r)(hf:Op2 X.K r f)(ha:DE Z X EE a da)(hb:DE Z X EE b db):DE Z X EE (.BinOp a op b pos) (dOp f da db):=PE.mono (y8v ho ha hb) (q51 hf)
theorem q7h{op:CmpOp}{r:R2}(ho:OpR X (compareOp op) r)(hf:Op2 X.K r f)(ha:DE Z X EE a da)(hb:DE Z X EE b db)(hm:behindInMarks op b=false):DE Z X EE (.Compare a [op] [b] pos) (dOp f da db):=PE.mono (y2j ho ha hb hm) (q51 hf)
theorem x0w{Q:Bool->Hp->Prop}(h:liftT K Z EE (dTest da) σ H Q):liftE K Z EE da σ H (fun x H'=>∃k,x=.bl k/\Q k H'):=by
 obtain⟨G,e,rel,h⟩:=h;simp only[dTest,R.holds_bind]at h;refine⟨G,e,rel,h.imp (fun x e1 h G1 v1 H1 r1 s1 p1=>?_) fun _ _ h=>h⟩
 cases x with
 |bl k=>
  cases(show v1=V.bl k from p1);exact⟨k,rfl,h G1 H1 r1 s1⟩
 |_=>exact h.elim
theorem q7i{op:CmpOp}{r:R2}(ho:OpR X (compareOp op) r)(hf:Op2 X.K r f)(ha:DE Z X EE a da)(hb:DE Z X EE b db)(hm:behindInMarks op b=false):DT Z X EE (.Compare a [op] [b] pos) (dTest (dOp f da db)):=
 PT.mono (y2k ho ha hb hm) fun σ H Q h=>q51 hf σ H _ (x0w h)
theorem y2w{r:V->Hp->VK->Prop}{f:W->Option W}(hf:Op1 K r f):∀σ H Q,liftE K Z EE (dUn f da) σ H Q->tUn r (liftE K Z EE da) σ H Q:=by
 rintro σ H Q ⟨G,e,rel,h⟩;simp only[dUn,R.holds_bind,ofOpt_holds]at h;refine⟨G,e,rel,h.imp (fun x e1 h G1 v1 H1 r1 s1 p1=>?_) fun _ _ h=>h⟩
 obtain⟨w,hw,h⟩:=h;exact hf G1 H1 v1 x w Q r1.sub p1 hw fun G' v H' g p=>h G' v H' (r1.grow g) (s1.trans g.gg) p
theorem y59(s:Same G H){k:Bool}(h:Rep K G w v)(e:truW w=some k):TruV K v H k:=by
 cases w with
 |non=>cases(show v=.non from h);cases e;rfl
 |bl b=>cases(show v=.bl b from h);cases e;rfl
 |int i=>cases(show v=.int i from h);cases e;rfl
 |str x=>
  cases(show v=.str x from h);simp only[truW]at e;split at e
  ·cases e;exact⟨by rw[sizeLine_eq];assumption,rfl⟩
  ·cases e
 |tup ws=>
  obtain⟨p,xs,rfl,q,r⟩:=h;cases e;refine .inr (.inl ⟨xs,s.tup q,?_⟩);have:=r.length;cases ws<;>cases xs<;>simp_all
 |lst ws=>
  obtain⟨p,xs,rfl,q,r⟩:=h;cases e;refine .inl ⟨xs,s.seq q,?_⟩;have:=r.length;cases ws<;>cases xs<;>simp_all
 |exc _=>cases e
 |dic _=>cases e
 |dw _ _ _ _=>cases e
 |fn _ _ _=>cases e
theorem q4q(ha:DE Z X EE a da)(he:∀whole,isTrue a X.env whole=(do let v <- whole;standAt a.pos;holding [v] (truthy v)):=by intro _;rfl):DT Z X EE a (dTru da):=by
 refine PT.mono (x86 ha he) ?_;rintro σ H Q ⟨G,e,rel,h⟩;simp only[dTru,R.holds_bind,ofOpt_holds]at h;refine⟨G,e,rel,h.imp (fun x e1 h G1 v1 H1 r1 s1 p1=>?_) fun _ _ h=>h⟩
 obtain⟨k,hk,h⟩:=h;exact⟨k,y59 r1.sub p1 hk,h G1 H1 r1 s1⟩
theorem x9i:∀σ H Q,liftT K Z EE (dAnd ta tb) σ H Q->tAnd (liftT K Z EE ta) (liftT K Z EE tb) σ H Q:=by
 rintro σ H Q ⟨G,e,rel,h⟩;simp only[dAnd,R.holds_bind]at h;refine⟨G,e,rel,h.imp (fun x e1 h G1 H1 r1 s1=>?_) fun _ _ h=>h⟩
 cases x with
 |true=>exact⟨G1,e1,r1,R.holds.imp (show(tb e1).holds _ _ from h) (fun y e2 h G2 H2 r2 s2=>h G2 H2 r2 (s1.trans s2)) fun _ _ h=>XH.trans s1 h⟩
 |false=>exact(show ∀G' H',_->_->Q false H' from h) G1 H1 r1 s1
theorem y2x:∀σ H Q,liftT K Z EE (dOr ta tb) σ H Q->tOr (liftT K Z EE ta) (liftT K Z EE tb) σ H Q:=by
 rintro σ H Q ⟨G,e,rel,h⟩;simp only[dOr,R.holds_bind]at h;refine⟨G,e,rel,h.imp (fun x e1 h G1 H1 r1 s1=>?_) fun _ _ h=>h⟩
 cases x with
 |false=>exact⟨G1,e1,r1,R.holds.imp (show(tb e1).holds _ _ from h) (fun y e2 h G2 H2 r2 s2=>h G2 H2 r2 (s1.trans s2)) fun _ _ h=>XH.trans s1 h⟩
 |true=>exact(show ∀G' H',_->_->Q true H' from h) G1 H1 r1 s1
theorem q73(ha:DT Z X EE a ta):DW Z X EE (.BoolOp .And [a] pos) ta:=y2d ha
theorem q5k(ha:DT Z X EE a ta):DW Z X EE (.BoolOp .Or [a] pos) ta:=y5n ha
theorem q6k{rest:List Expr}(ha:DT Z X EE a ta)(hb:DW Z X EE (.BoolOp .And (b::rest) pos) tb):DW Z X EE (.BoolOp .And (a::b::rest) pos) (dAnd ta tb):=PW.mono (y5o ha hb) x9i
theorem q5f{rest:List Expr}(ha:DT Z X EE a ta)(hb:DW Z X EE (.BoolOp .Or (b::rest) pos) tb):DW Z X EE (.BoolOp .Or (a::b::rest) pos) (dOr ta tb):=PW.mono (y8s ha hb) y2x
theorem dt_w(h:DW Z X EE a ta):DT Z X EE a ta:=PW.pt h
theorem q5l{op}(h:DE Z X EE a da):DE Z X EE (.BoolOp op [a] pos) da:=y5p h
theorem q6l{rest:List Expr}(ha:DE Z X EE a da)(hb:DE Z X EE (.BoolOp .And (b::rest) pos) db):DE Z X EE (.BoolOp .And (a::b::rest) pos) (dAndV da db):=by
 refine PE.mono (y5q ha hb) ?_;rintro σ H Q ⟨G,e,rel,h⟩;simp only[dAndV,R.holds_bind]at h;refine⟨G,e,rel,h.imp (fun x e1 h G1 v1 H1 r1 s1 p1=>?_) fun _ _ h=>h⟩
 cases x with
 |bl k=>
  cases(show v1=V.bl k from p1);cases k with
  |true=>exact⟨true,rfl,⟨G1,e1,r1,R.holds.imp (show(db e1).holds _ _ from h) (fun y e2 h G2 v2 H2 r2 s2 p2=>h G2 v2 H2 r2 (s1.trans s2) p2) fun _ _ h=>XH.trans s1 h⟩⟩
  |false=>exact⟨false,rfl,(show ∀G' v H',_->_->v=V.bl false->Q v H' from h) G1 _ H1 r1 s1 rfl⟩
 |_=>exact h.elim
theorem q6f{rest:List Expr}(ha:DE Z X EE a da)(hb:DE Z X EE (.BoolOp .Or (b::rest) pos) db):DE Z X EE (.BoolOp .Or (a::b::rest) pos) (dOrV da db):=by
 refine PE.mono (y8t ha hb) ?_;rintro σ H Q ⟨G,e,rel,h⟩;simp only[dOrV,R.holds_bind]at h;refine⟨G,e,rel,h.imp (fun x e1 h G1 v1 H1 r1 s1 p1=>?_) fun _ _ h=>h⟩
 cases x with
 |bl k=>
  cases(show v1=V.bl k from p1);cases k with
  |false=>exact⟨false,rfl,⟨G1,e1,r1,R.holds.imp (show(db e1).holds _ _ from h) (fun y e2 h G2 v2 H2 r2 s2 p2=>h G2 v2 H2 r2 (s1.trans s2) p2) fun _ _ h=>XH.trans s1 h⟩⟩
  |true=>exact⟨true,rfl,(show ∀G' v H',_->_->v=V.bl true->Q v H' from h) G1 _ H1 r1 s1 rfl⟩
 |_=>exact h.elim
theorem y6a(ha:DE Z X EE a da):DE Z X EE (.UnaryOp .Not a pos) (dNotV da):=by
 refine PE.mono (y5r ha) ?_;rintro σ H Q ⟨G,e,rel,h⟩;simp only[dNotV,R.holds_bind]at h;refine⟨G,e,rel,h.imp (fun x e1 h G1 v1 H1 r1 s1 p1=>?_) fun _ _ h=>h⟩
 cases x with
 |bl k=>
  cases(show v1=V.bl k from p1);exact⟨k,rfl,(show ∀G' v H',_->_->v=V.bl (!k)->Q v H' from h) G1 _ H1 r1 s1 rfl⟩
 |_=>exact h.elim
theorem q0c:DA Z X EE [] dNil:=PA.mono q88 fun σ H Q ⟨G,e,r,h⟩=>h G [] H r (.refl _) rfl
theorem q0a(ha:DE Z X EE e da)(hr:DA Z X EE es dA)(hs:starEach (e::es) X.env=(false,eval e X.env)::starEach es X.env:=by rfl):DA Z X EE (e::es) (dCons da dA):=by
 refine PA.mono (q50 ha hr hs) ?_;rintro σ H Q ⟨G,e,rel,h⟩;simp only[dCons,R.holds_bind]at h;refine⟨G,e,rel,h.imp (fun x e1 h G1 v1 H1 r1 s1 p1=>?_) fun _ _ h=>h⟩
 refine⟨G1,e1,r1,h.imp (fun xs e2 h G2 vs H2 r2 s2 p2=>?_) fun _ _ h=>XH.trans s1 h⟩
 exact h G2 (v1::vs) H2 r2 (s1.trans s2) ⟨v1,vs,rfl,Rep.mono s2 x p1,p2⟩
theorem q0x{x1}(h:DA Z X EE es dA):DE Z X EE (.Tuple es x1 pos) (dTup dA):=by
 refine PE.mono (y5z h) ?_;rintro σ H Q ⟨G,e,rel,h⟩;simp only[dTup,R.holds_bind]at h;refine⟨G,e,rel,h.imp (fun ws e1 h G1 vs H1 r1 s1 p1=>?_) fun _ _ h=>h⟩
 split at h
 ·rename_i hl;refine⟨by rw[p1.length,sizeLine_eq];exact hl,fun p hp=>?_⟩
  have g:=Grow.laid r1.sub hp (.tup vs);exact(show ∀G' v H',_->_->Rep X.K G' (.tup ws) v->Q v H' from h) _ (.ref p) _ (r1.grow g) (s1.trans g.gg) ⟨p,vs,rfl,SqT.of q0h,Reps.mono g.gg ws p1⟩
 ·exact h.elim
theorem q55{e:List S}(r:Rel K Z G σ H e){p:Addr}(hp:H p=none):Free σ e p:=fun j b ws h q=>by
 obtain⟨a,xs,h1,h2,_⟩:=r.own h;rw[q]at h1;cases h1;rw[hp]at h2;cases h2
theorem q5m{e:List S}(r:Rel K Z G σ H e){p:Addr}(hp:H p=none):Z.H p=none:=by
 cases q:Z.H p with
 |none=>rfl
 |some o=>
  by_cases hi:p∈Z.io
  ·exact absurd hp (r.ion p hi)
  ·rw[r.ent p o q hi]at hp;cases hp
theorem q6w{e:List S}{Q:VK}{G0:Hp}(r:Rel K Z G σ H e)(s:Same G0 G)(p1:Reps K G ws vs)
  (h:∀G' a xs H',Rel K Z G' σ H' e->Same G0 G'->H' a=some (.lst xs)->G' a=none->Z.H a=none->Free σ e a->Reps K G' ws xs->Q (.ref a) H'):∀p,H p=none->Q (.ref p) (upd H p (.lst vs)):=fun p hp=>by
 have g:=Grow.hid r.sub hp (.lst vs);exact h G p vs _ (r.grow g) s q0h (r.sub.free hp) (q5m r hp) (q55 r hp) p1
theorem q08(h:DA Z X EE es dA):DF Z X EE (.List es pos) (dLst dA):=by
 refine PE.mono (y50 h) ?_;rintro σ H Q ⟨G,e,rel,h⟩;simp only[dLst,R.holds_bind]at h;refine⟨G,e,rel,h.imp (fun ws e1 h G1 vs H1 r1 s1 p1=>?_) fun _ _ h=>h⟩
 split at h
 ·rename_i hl;exact⟨by rw[p1.length,sizeLine_eq];exact hl,q6w r1 s1 p1 h⟩
 ·exact h.elim
theorem Rel.seen{e:List S}(r:Rel K Z G σ H e){a:Addr}(h:H a=some (.lst xs))(hg:G a=none)(hz:Z.H a=none)(hf:Free σ e a):Same G (upd G a (.lst xs))/\Rel K Z (upd G a (.lst xs)) σ H e:=by
 have sg:Same G (upd G a (.lst xs)):=q24 hg _;refine⟨sg,⟨fun c o z=>?_,fun j s z=>?_,r.len,r.dis,r.ent,r.ion,fun c z=>?_⟩⟩
 ·by_cases hc:c=a
  ·subst hc;rw[q0h]at z;cases z;exact h
  ·rw[q0e hc]at z;exact r.sub c o z
 ·have y:=r.slot j s z;cases s with
  |no=>trivial
  |fr w=>
   obtain⟨u,y1,y2⟩:=y;exact⟨u,y1,Rep.mono sg w y2⟩
  |own b2 w2=>
   obtain⟨c,ys,y1,y2,y3,y4,y5⟩:=y;refine⟨c,ys,y1,y2,?_,y4,Reps.mono sg w2 y5⟩;rw[q0e];exact y3;rintro rfl;obtain⟨c',_,z1,_⟩:=r.own z;rw[z1]at y1;cases y1;exact hf j b2 w2 z z1
  |dic kvs=>
   obtain⟨c,y1,y2,y3,y4⟩:=y;refine⟨c,y1,y2,?_,y4⟩;rw[q0e (q03 y2 h (q5e rfl))];exact y3
  |thr us w2 vs=>
   obtain⟨t,l,o,xs2,ys,zs,y1,y2,y3,y4,y5,y6,y7,y8⟩:=y;refine⟨t,l,o,xs2,ys,zs,y1,sg _ _ y2,y3,?_,y5,Reps.mono sg us y6,Reps.mono sg w2 y7,Reps.mono sg vs y8⟩;rw[q0e (q03 y3 h (fun z=>nomatch z))];exact y4
  |nest wss=>exact NestOk.move y sg fun l o ys k1 k2 k3=>⟨k1,by rw[q0e (q03 k1 h (fun z=>nomatch z))];exact k2,k3⟩
  |x k=>exact XOk.move y sg fun l o ys k1 k2 k3=>⟨k1,by rw[q0e (q03 k1 h (fun z=>nomatch z))];exact k2,k3⟩
  |dw sh ks ws=>exact DwOk.move y sg fun l o ys k1 k2 k3=>⟨k1,by rw[q0e (q03 k1 h (fun z=>nomatch z))];exact k2,k3⟩
 ·by_cases hc:c=a
  ·subst hc;exact absurd hz z
  ·rw[q0e hc];exact r.gen c z
theorem q1x(h:DF Z X EE e dA):DE Z X EE e (dFz dA):=by
 refine PE.mono h ?_;rintro σ H Q ⟨G,e,rel,h⟩;simp only[dFz,R.holds_bind]at h;refine⟨G,e,rel,h.imp (fun ws e1 h G1 a xs H1 r1 s1 q1 q2 q3 q4 p1=>?_) fun _ _ h=>h⟩
 obtain⟨sg,rg⟩:=r1.seen q1 q2 q3 q4;exact(show ∀G' v H',_->_->Rep X.K G' (.lst ws) v->Q v H' from h) _ (.ref a) _ rg (s1.trans sg) ⟨a,xs,rfl,SqL.of q0h,Reps.mono sg ws p1⟩
theorem x33{f:List W->Option W}(hf:OpN K r f):∀σ H Q,liftE K Z EE (dFn f dA) σ H Q->tCB r (liftA K Z EE dA) σ H Q:=by
 rintro σ H Q ⟨G,e,rel,h⟩;simp only[dFn,R.holds_bind,ofOpt_holds]at h;refine⟨G,e,rel,h.imp (fun ws e1 h G1 vs H1 r1 s1 p1=>?_) fun _ _ h=>h⟩
 obtain⟨w,hw,h⟩:=h;exact hf G1 H1 vs ws w Q r1.sub p1 hw fun G' v H' g p=>h G' v H' (r1.grow g) (s1.trans g.gg) p
theorem x6r{id:String}{f:List W->Option W}(hc:CallR X (.builtin id) r)(hf:OpN X.K r f)(hv:bootBuiltins x=some (.builtin id))(hm:X.mg x=none)(ha:DA Z X EE (e::es) dA)(hg:Gl X x:=by rfl)(hn:x≠"__name__":=by decide)(hdb:(x==("__debug__":Str))=false:=by decide)
  (he:starEach (e::es) X.env=(false,eval e X.env)::starEach es X.env:=by rfl)(hpl:(backTo pos (starEach es X.env)).any (·.1)=false:=by rfl):DE Z X EE (.Call (.Name x p) (e::es) [] pos) (dFn f dA):=
 PE.mono (q8j hc hg hm hv ha hn hdb he hpl) (x33 hf)
theorem x6s{T:String}{f:List W->Option W}(hc:CallR X (.type T) r)(hf:OpN X.K r f)(hv:bootBuiltins x=some (.type T))(hm:X.mg x=none)(ha:DA Z X EE (e::es) dA)(hg:Gl X x:=by rfl)(hn:x≠"__name__":=by decide)(hdb:(x==("__debug__":Str))=false:=by decide)
  (he:starEach (e::es) X.env=(false,eval e X.env)::starEach es X.env:=by rfl)(hpl:(backTo pos (starEach es X.env)).any (·.1)=false:=by rfl):DE Z X EE (.Call (.Name x p) (e::es) [] pos) (dFn f dA):=
 PE.mono (x0u hc hg hm hv ha hn hdb he hpl) (x33 hf)
end
noncomputable def dNx:List S->SR:=fun e=>.nx e
noncomputable def dSeq(a b:List S->SR):List S->SR:=fun e=>match a e with
 |.nx e'=>b e'
 |r=>r
noncomputable def R.stm(r:R α)(k:α->List S->SR):SR:=match r with
 |.ok a e=>k a e
 |.ex c e=>.ex c e
 |.no=>.no
noncomputable def dDrop(d:Den W):List S->SR:=fun e=>(d e).stm fun _ e'=>.nx e'
noncomputable def dRet(d:Den W):List S->SR:=fun e=>(d e).stm fun w e'=>.rt (.fr w) e'
noncomputable def dRetF(d:Den (List W)):List S->SR:=fun e=>(d e).stm fun ws e'=>.rt (.own none ws) e'
noncomputable def dRetO(i:Nat):List S->SR:=fun e=>match e[i]? with
 |some (.own none ws)=>.rt (.own none ws) e
 |some (.fr w)=>.rt (.fr w) e
 |_=>.no
noncomputable def dIfS(c:Den Bool)(a b:List S->SR):List S->SR:=fun e=>(c e).stm fun x e1=>if x=true then a e1 else b e1
noncomputable def dSet(i:Nat)(d:Den W):List S->SR:=fun e=>(d e).stm fun w e'=>.nx (e'.set i (.fr w))
noncomputable def dSetO(i:Nat)(d:Den (List W)):List S->SR:=fun e=>(d e).stm fun ws e'=>.nx (e'.set i (.own none ws))
noncomputable def forD(i:Nat)(b:List S->SR):List W->List S->SR
 |[],e=>.nx e
 |w::ws,e=>match b (e.set i (.fr w))with
  |.nx e'=>forD i b ws e'
  |.ct e'=>forD i b ws e'
  |.bk e'=>.nx e'
  |.rt s e'=>.rt s e'
  |.ex c e'=>.ex c e'
  |.no=>.no
noncomputable def whileD(c:Den Bool)(b:List S->SR):Nat->List S->SR
 |0,_=>.no
 |n+1,e=>(c e).stm fun x e1=>if x=true then(match b e1 with
  |.nx e'=>whileD c b n e'
  |.ct e'=>whileD c b n e'
  |.bk e'=>.nx e'
  |.rt s e'=>.rt s e'
  |.ex c e'=>.ex c e'
  |.no=>.no)else .nx e1
noncomputable def seqW:W->Option (List W)
 |.tup ws=>some ws
 |.lst ws=>some ws
 |_=>none
noncomputable def dFor(i:Nat)(d:Den W)(b:List S->SR):List S->SR:=fun e=>(d e).stm fun w e1=>match seqW w with
 |some ws=>forD i b ws e1
 |none=>.no
noncomputable def rangeW(lo hi:Int):List W:=(List.range (hi-lo).toNat).map fun k=>.int (lo+(k:Nat))
noncomputable def okI(j:Int):Bool:=Nat.ble j.natAbs 4611686018427387903
theorem q5n{j:Int}(h:okI j=true):-(2^62)<=j/\j<2^62:=by
 have z:j.natAbs<=4611686018427387903:=Nat.le_of_ble_eq_true h;have e:(2:Int)^62=4611686018427387904:=by decide
 rw[e];omega
theorem q37{j:Int}(h1:-1000000000<=j)(h2:j<=1000000000):okI j=true:=Nat.ble_eq_true_of_le (by omega)
noncomputable def rng1:List W->Option (List W)
 |[.int j]=>if okI j=true then some (rangeW 0 j)else none
 |_=>none
noncomputable def rng2:List W->Option (List W)
 |[.int i,.int j]=>if okI i=true/\okI j=true then some (rangeW i j)else none
 |_=>none
noncomputable def dForR(i:Nat)(g:List W->Option (List W))(d:Den (List W))(b:List S->SR):List S->SR:=fun e=>(d e).stm fun w e1=>match g w with
 |some ws=>forD i b ws e1
 |none=>.no
section
variable{a c e tg:Expr}{rest body:List Stmt}{d:Den W}{dc:Den Bool}{s1 s2:List S->SR}
theorem PostS.trans{D:Ends}(s:Same G G1):∀{r:SR},PostS K Z EE D G r->PostS K Z EE D G1 r
 |.nx e',h=>fun G' σ' H' r q=>h G' σ' H' r (s.trans q)
 |.bk e',h=>fun G' σ' H' r q=>h G' σ' H' r (s.trans q)
 |.ct e',h=>fun G' σ' H' r q=>h G' σ' H' r (s.trans q)
 |.rt w e',h=>fun G' σ' v H' r q=>h G' σ' v H' r (s.trans q)
 |.ex c e',h=>fun G' σ' H' r q=>h G' σ' H' r (s.trans q)
 |.no,h=>h
theorem q04{D:Ends}{r:R α}{k:α->List S->SR}(h:PostS K Z EE D G (r.stm k)):r.holds (fun a e'=>PostS K Z EE D G (k a e')) (XH K Z EE σ G):=by
 cases r with
 |ok a e=>exact h
 |ex c e=>exact fun G' H' r q=>h G' σ H' r q
 |no=>exact h
theorem q0z:DSs Z X EE [] dNx:=PSs.mono y2e fun D σ H ⟨G,e,r,h⟩=>h G σ H r (.refl _)
theorem x9j:∀D σ H,liftS K Z EE (dSeq s1 s2) D σ H->tSeq (liftS K Z EE s1) (liftS K Z EE s2) D σ H:=by
 rintro D σ H ⟨G,e,rel,h⟩;refine⟨G,e,rel,?_⟩;unfold dSeq at h;cases q:s1 e with
 |nx e'=>rw[q]at h;exact fun G' σ' H' r s=>⟨G',e',r,PostS.trans s h⟩
 |bk e'=>rw[q]at h;exact h
 |ct e'=>rw[q]at h;exact h
 |rt w e'=>rw[q]at h;exact h
 |ex c e'=>rw[q]at h;exact h
 |no=>rw[q]at h;exact h
theorem q0d(h1:DS Z X EE st s1)(h2:DSs Z X EE rest s2):DSs Z X EE (st::rest) (dSeq s1 s2):=PSs.mono (x83 h1 h2) x9j
theorem q0f(h1:DS Z X EE st s1):DSs Z X EE [st] s1:=y2f h1
theorem q4l(he:DE Z X EE e d)(hs:swapsWith e none pos.line X.env=pure false:=by rfl):DS Z X EE (.Expr e pos) (dDrop d):=by
 refine PS.mono (q6j he hs) ?_;rintro D σ H ⟨G,e,rel,h⟩;exact⟨G,e,rel,(q04 h).imp (fun w e1 h G1 v1 H1 r1 s1 p1=>h G1 σ H1 r1 s1) fun _ _ h=>h⟩
theorem q0y(he:DE Z X EE e d):DS Z X EE (.Return (some e) pos) (dRet d):=by
 refine PS.mono (x13 he) ?_;rintro D σ H ⟨G,e,rel,h⟩;exact⟨G,e,rel,(q04 h).imp (fun w e1 h G1 v1 H1 r1 s1 p1=>h G1 σ v1 H1 r1 s1 ⟨v1,rfl,p1⟩) fun _ _ h=>h⟩
theorem q93(he:DF Z X EE e dA):DS Z X EE (.Return (some e) pos) (dRetF dA):=by
 refine PS.mono (x13 he) ?_;rintro D σ H ⟨G,e,rel,h⟩;exact⟨G,e,rel,(q04 h).imp (fun w e1 h G1 a xs H1 r1 s1 q1 q2 q3 q4 p1=>h G1 σ (.ref a) H1 r1 s1 ⟨a,xs,rfl,q1,q2,q3,p1⟩) fun _ _ h=>h⟩
theorem y2y(i:Nat)(hN:X.N[i]?=some x:=by rfl)(hv:Vis X.env.scope x:=by walk_at "1")(hd:(x==("__debug__":Str))=false:=by decide)
  (hcd:(x==("__classdict__":Str))=false:=by decide):DS Z X EE (.Return (some (.Name x p)) pos) (dRetO i):=by
 refine PS.mono (x13 (pv i hN hv hd hcd)) ?_;rintro D σ H ⟨G,e,rel,h⟩;unfold dRetO at h;split at h
 ·rename_i ws hw;obtain⟨a,xs,h1,h2,h3,h4,h5⟩:=rel.own hw;exact⟨.ref a,h1,h G σ _ H rel (.refl _) ⟨a,xs,rfl,h2,h3,h4,h5⟩⟩
 ·rename_i w hw;obtain⟨v,h1,h2⟩:=rel.fr hw;exact⟨v,h1,h G σ _ H rel (.refl _) ⟨v,rfl,h2⟩⟩
 ·exact h.elim
theorem x9k:∀D σ H,liftS K Z EE (dIfS dc s1 s2) D σ H->tIfS (liftT K Z EE dc) (liftS K Z EE s1) (liftS K Z EE s2) D σ H:=by
 rintro D σ H ⟨G,e,rel,h⟩;refine⟨G,e,rel,(q04 h).imp (fun x e1 h G1 H1 r1 q1=>?_) fun _ _ h=>h⟩
 cases x with
 |true=>exact⟨G1,e1,r1,PostS.trans q1 h⟩
 |false=>exact⟨G1,e1,r1,PostS.trans q1 h⟩
theorem q02{p q:List Stmt}(hc:DT Z X EE c dc)(ha:DSs Z X EE p s1)(hb:DSs Z X EE q s2):DS Z X EE (.If c p q pos) (dIfS dc s1 s2):=PS.mono (y8u hc ha hb) x9k
theorem q0k(i:Nat)(hN:X.N.Nodup)(he:DE Z X EE e d)(hi:X.N[i]?=some x:=by rfl)(hx:Loc X.env.scope x:=by walk_at "3")(hs:swapsWith e (some (.Name x pos')) pos.line X.env=pure false:=by rfl)(hf:X.fn x=true\/X.env.scope.names.lookup x=some .local:=by walk_at "2"):
  DS Z X EE (.Assign [.Name x pos'] e pos) (dSet i d):=by
 refine PS.mono (x40 i hN he hi hx hs hf) ?_;rintro D σ H ⟨G,e,rel,h⟩;exact⟨G,e,rel,(q04 h).imp (fun w e1 h G1 v1 H1 r1 q1 p1=>h G1 _ H1 (r1.set p1) q1) fun _ _ h=>h⟩
theorem q2f(i:Nat)(hN:X.N.Nodup)(he:DF Z X EE e dA)(hi:X.N[i]?=some x:=by rfl)(hx:Loc X.env.scope x:=by walk_at "3")(hs:swapsWith e (some (.Name x pos')) pos.line X.env=pure false:=by rfl)(hf:X.fn x=true\/X.env.scope.names.lookup x=some .local:=by walk_at "2"):
  DS Z X EE (.Assign [.Name x pos'] e pos) (dSetO i dA):=by
 refine PS.mono (x40 i hN he hi hx hs hf) ?_;rintro D σ H ⟨G,e,rel,h⟩;exact⟨G,e,rel,(q04 h).imp (fun w e1 h G1 a xs H1 r1 s1 q1 q2 q3 q4 p1=>h G1 _ H1 (r1.setOwn q1 q2 q3 q4 p1) s1) fun _ _ h=>h⟩
theorem x2c(n:Nat)(hp:PassesOwn (model X.prog X.w) X.A X.env X.xe)(hc:DT Z X EE c dc)(hb:DSs Z X EE body s1):DS Z X EE (.While c body [] pos) (whileD dc s1 n):=by
 refine PS.mono (x84 hp hc hb) ?_;rintro D σ H ⟨G,e,rel,h⟩;refine⟨fun m σ' H'=>∃G' e',Rel X.K Z G' σ' H' e'/\Same G G'/\PostS X.K Z EE D G (whileD dc s1 m e'),⟨n,G,e,rel,.refl _,h⟩,?_⟩
 rintro m σ1 H1 ⟨G1,e1,r1,q1,h⟩;cases m with
 |zero=>exact h.elim
 |succ m=>
  refine⟨G1,e1,r1,(q04 (σ:=σ1) h).imp (fun x e2 h G2 H2 r2 q2=>?_) fun _ _ h=>XH.trans q1 h⟩
  cases x with
  |false=>exact h G2 σ1 H2 r2 (q1.trans q2)
  |true=>
   refine⟨fun σ' H'=>∃G' e',Rel X.K Z G' σ' H' e'/\Same G G'/\PostS X.K Z EE D G (whileD dc s1 m e'),fun σ' H' q=>⟨m,w2k _,q⟩,⟨G2,e2,r2,?_⟩⟩
   have sg:=q1.trans q2;have h:PostS X.K Z EE D G (match s1 e2 with|.nx e'=>whileD dc s1 m e'|.ct e'=>whileD dc s1 m e'|.bk e'=>.nx e'|.rt s e'=>.rt s e'|.ex c e'=>.ex c e'|.no=>.no):=h;cases q:s1 e2 with
   |nx e'=>rw[q]at h;exact fun G' σ' H' r s=>⟨G',e',r,sg.trans s,h⟩
   |ct e'=>rw[q]at h;exact fun G' σ' H' r s=>⟨G',e',r,sg.trans s,h⟩
   |bk e'=>rw[q]at h;exact fun G' σ' H' r s=>h G' σ' H' r (sg.trans s)
   |rt w e'=>rw[q]at h;exact fun G' σ' v H' r s=>h G' σ' v H' r (sg.trans s)
   |ex c e'=>rw[q]at h;exact fun G' σ' H' r s=>h G' σ' H' r (sg.trans s)
   |no=>rw[q]at h;exact h
theorem x9l{D:Ends}{x:V}{N:St->Hp->Prop}(r1:Rel K Z G1 σ H e1)(q1:Same G G1)(p:Rep K G1 w x)(h:PostS K Z EE D G (forD i s1 (w::ws) e1))
  (hN:∀G' σ' H' e',Rel K Z G' σ' H' e'->Same G G'->PostS K Z EE D G (forD i s1 ws e')->N σ' H'):gName i x σ H fun σ2 H2=>liftS K Z EE s1 {D with nx:=N,ct:=N,bk:=D.nx} σ2 H2:=by
 refine⟨G1,e1.set i (.fr w),r1.set p,?_⟩;unfold forD at h;cases q:s1 (e1.set i (.fr w))with
 |nx e'=>rw[q]at h;exact fun G' σ' H' r s=>hN G' σ' H' e' r (q1.trans s) h
 |ct e'=>rw[q]at h;exact fun G' σ' H' r s=>hN G' σ' H' e' r (q1.trans s) h
 |bk e'=>rw[q]at h;exact fun G' σ' H' r s=>h G' σ' H' r (q1.trans s)
 |rt w e'=>rw[q]at h;exact fun G' σ' v H' r s=>h G' σ' v H' r (q1.trans s)
 |ex c e'=>rw[q]at h;exact fun G' σ' H' r s=>h G' σ' H' r (q1.trans s)
 |no=>rw[q]at h;exact h
def iSeq(K:PySem.W.Frag)(tl:TE):TI:=fun σ H R=>tl σ H fun x H1=>∃a,x=.ref a/\(((∃xs,SqL K H1 a xs)/\R (Itl K a) H1)\/((∃xs,SqT K H1 a xs)/\R (Itt K a) H1))
theorem q9d{l:Expr}{tl:TE}(hl:PE X l tl):PI X tg l (iSeq X.K tl):=by
 intro pins s σ H R I h;refine thn (hl pins s σ H _ I h) fun v s1 ⟨x,H1,I1,r1,q1⟩=>?_
 obtain⟨a,e,q⟩:=q1;subst e;cases r1;rcases q with⟨⟨xs,hq⟩,q⟩|⟨⟨xs,hq⟩,q⟩
 ·obtain⟨its,rv,p,hz⟩:=I1.list hq;refine wpAny_pyIter_list p.isList ?_;refine⟨s1.heap.objs.size,[s1.heap.objs.size],_,_,H1,rfl,I1.kept (t':=s1.toks) fun b o e=>Heap.get?_push_of_some _ e,x6c a _,⟨_,Heap.get?_push_size _ rfl,rfl,rfl⟩,fun b hb=>?_,q⟩
  have e:b=s1.heap.objs.size:=by simpa using hb
  subst e;exact I1.fpOk (w0e _) (I1.hok.fresh (w0e _))
 ·obtain⟨its,rv,p,hz⟩:=I1.tuple hq;refine wpAny_pyIter_tuple (show s1.heap.IsTuple a its.toArray from p) ?_;refine⟨s1.heap.objs.size,[s1.heap.objs.size],_,_,H1,rfl,I1.kept (t':=s1.toks) fun b o e=>Heap.get?_push_of_some _ e,x4q a _,⟨_,Heap.get?_push_size _ rfl,rfl,rfl⟩,fun b hb=>?_,q⟩
  have e:b=s1.heap.objs.size:=by simpa using hb
  subst e;exact I1.fpOk (w0e _) (I1.hok.fresh (w0e _))
theorem q7j{ws:List α}{w:α}(h:ws[k]?=some w):ws.drop k=w::ws.drop (k+1):=by
 obtain⟨hk,rfl⟩:=w0b.mp h;exact w3g hk
theorem x34{i:Nat}{D:Ends}(r1:Rel K Z G1 σ H1 e1)(rp:Reps K G1 ws xs)(h:PostS K Z EE D G1 (forD i s1 ws e1))(SQ:Hp->Prop)(hSQ:∀G' H',Same G1 G'->Same G' H'->SQ H'):
  ∃Pv:Nat->St->Hp->Prop,Pv 0 σ H1/\(∀j σ H,j<=xs.length->Pv j σ H->SQ H)/\(∀(j:Nat) x σ H,xs[j]?=some x->Pv j σ H->gName i x σ H fun σ2 H2=>liftS K Z EE s1 {D with nx:=Pv (j+1),ct:=Pv (j+1),bk:=D.nx} σ2 H2)/\∀σ H,Pv xs.length σ H->D.nx σ H:=by
 refine⟨fun j σ' H'=>∃G' e',Rel K Z G' σ' H' e'/\Same G1 G'/\PostS K Z EE D G1 (forD i s1 (ws.drop j) e'),⟨G1,e1,r1,.refl _,h⟩,?_,?_,?_⟩
 ·rintro j σ' H' _ ⟨G',e',r',s',_⟩;exact hSQ G' H' s' r'.sub
 ·rintro j x σ' H' hx ⟨G',e',r',s',h⟩;obtain⟨w,hw,pw⟩:=rp.getV hx;rw[q7j hw]at h;exact x9l r' s' (Rep.mono s' w pw) h fun G'' σ'' H'' e'' r'' s'' h''=>⟨G'',e'',r'',s'',h''⟩
 ·rintro σ' H' ⟨G',e',r',s',h⟩;rw[rp.length,w2l]at h;exact h G' σ' H' r' s'
theorem x6t(i:Nat)(hN:X.N.Nodup)(hp:PassesOwn (model X.prog X.w) X.A X.env X.xe)(hc:X.calm=true)(hl:DE Z X EE e d)(hb:DSs Z X EE body s1)
  (hi:X.N[i]?=some x:=by rfl)(hx:Loc X.env.scope x:=by walk_at "3")(hf:X.fn x=true\/X.env.scope.names.lookup x=some .local:=by walk_at "2")(hs:∀x,foldedSetIterable e X.env x=pure x:=by intro _;rfl):
  DS Z X EE (.For (.Name x pos') e body [] pos) (dFor i d s1):=by
 refine PS.mono (q86 hp hc (q9d hl) (q2r i hN hi hx hf) hb hs) ?_;rintro D σ H ⟨G,e,rel,h⟩;refine⟨G,e,rel,(q04 h).imp (fun w e1 h G1 v1 H1 r1 q1 p1=>?_) fun _ _ h=>h⟩
 have key:=fun ws xs (rp:Reps X.K G1 ws xs) (h:PostS X.K Z EE D G (forD i s1 ws e1))=>x34 (i:=i) (D:=D) r1 rp (PostS.trans q1 h)
 cases w with
 |tup ws=>
  obtain⟨a,xs,rfl,hq,rp⟩:=p1;refine⟨a,rfl,.inr ⟨⟨xs,r1.sub.tup hq⟩,?_⟩⟩;obtain⟨Pv,h0,h1,h2,h3⟩:=key ws xs rp h (fun H'=>SqT X.K H' a xs) (fun G' H' s s'=>Same.tup s' (Same.tup s hq))
  exact y2h Pv h0 h1 h2 h3
 |lst ws=>
  obtain⟨a,xs,rfl,hq,rp⟩:=p1;refine⟨a,rfl,.inl ⟨⟨xs,r1.sub.seq hq⟩,?_⟩⟩;obtain⟨Pv,h0,h1,h2,h3⟩:=key ws xs rp h (fun H'=>SqL X.K H' a xs) (fun G' H' s s'=>Same.seq s' (Same.seq s hq))
  exact x85 Pv h0 h1 h2 h3
 |_=>exact h.elim
theorem q9e{lo hi:Int}:Reps K G (rangeW lo hi) ((List.range (hi-lo).toNat).map fun k=>V.int (lo+(k:Nat))):=by
 unfold rangeW;generalize List.range (hi-lo).toNat=l
 induction l with
 |nil=>rfl
 |cons k l ih=>exact⟨_,_,rfl,rfl,ih⟩
theorem x35{i:Nat}{D:Ends}{lo hi:Int}(r1:Rel K Z G1 σ H1 e1)(h:PostS K Z EE D G1 (forD i s1 (rangeW lo hi) e1)):
  ∃W:Nat->Nat->St->Hp->Prop,(∃m,W 0 m σ H1)/\∀j m σ H,W j m σ H ->
   ((Itr lo (hi-lo).toNat).stop j H/\D.nx σ H)\/((Itr lo (hi-lo).toNat).go j H/\∃N:St->Hp->Prop,(∀σ' H',N σ' H'->∃m',m'<m/\W (j+1) m' σ' H')/\∀x H',(Itr lo (hi-lo).toNat).yld j H x H'->gName i x σ H' fun σ2 H2=>liftS K Z EE s1 {D with nx:=N,ct:=N,bk:=D.nx} σ2 H2):=by
 obtain⟨Pv,h0,h1,h2,h3⟩:=x34 (i:=i) (D:=D) r1 (q9e (lo:=lo) (hi:=hi)) h (fun _=>True) (fun _ _ _ _=>trivial)
 refine x6f Pv h0 (fun j σ' H' hj p=>h2 j _ σ' H' ?_ p) (fun σ' H' p=>h3 σ' H' (by simpa using p))
 simp[hj]
theorem q52(i:Nat){p1 p2:Pos}(hN:X.N.Nodup)(hp:PassesOwn (model X.prog X.w) X.A X.env X.xe)(hc:X.calm=true)(hm:X.mg "range"=none)(ha:DA Z X EE [a] dA)(hb:DSs Z X EE body s1)
  (hi:X.N[i]?=some x:=by rfl)(hx:Loc X.env.scope x:=by walk_at "3")(hf:X.fn x=true\/X.env.scope.names.lookup x=some .local:=by walk_at "2")(hg:Gl X "range":=by rfl)(hs1:starEach [a] X.env=[(false,eval a X.env)]:=by rfl)(hs:∀x,foldedSetIterable (.Call (.Name "range" p1) [a] [] p2) X.env x=pure x:=by intro _;rfl):
  DS Z X EE (.For (.Name x p) (.Call (.Name "range" p1) [a] [] p2) body [] pos) (dForR i rng1 dA s1):=by
 refine PS.mono (q86 hp hc (x0o hg hm ha hs1) (q2r i hN hi hx hf) hb hs) ?_;rintro D σ H ⟨G,e,rel,h⟩;refine⟨G,e,rel,(q04 h).imp (fun ws e1 h G1 vs H1 r1 q1 p1=>?_) fun _ _ h=>h⟩
 unfold rng1 at h;split at h
 ·rename_i hh;split at hh
  ·rename_i j;split at hh
   ·rename_i hj;cases hh;obtain⟨y,r,rfl,e1,e2⟩:=p1;cases(show y=V.int j from e1);cases(show r=[]from e2);refine⟨j,rfl,(q5n hj).1,(q5n hj).2,?_⟩;have z:=x35 (i:=i) (D:=D) r1 (PostS.trans q1 h)
    rwa [w4m]at z
   ·cases hh
  ·cases hh
 ·exact h.elim
theorem y2z(i:Nat){p1 p2:Pos}(hN:X.N.Nodup)(hp:PassesOwn (model X.prog X.w) X.A X.env X.xe)(hc:X.calm=true)(hm:X.mg "range"=none)(ha:DA Z X EE [a,c] dA)(hb:DSs Z X EE body s1)
  (hi:X.N[i]?=some x:=by rfl)(hx:Loc X.env.scope x:=by walk_at "3")(hf:X.fn x=true\/X.env.scope.names.lookup x=some .local:=by walk_at "2")(hg:Gl X "range":=by rfl)(hs1:starEach [a,c] X.env=[(false,eval a X.env),(false,eval c X.env)]:=by rfl)(hs2:starEach [c] X.env=[(false,eval c X.env)]:=by rfl)(hs:∀x,foldedSetIterable (.Call (.Name "range" p1) [a,c] [] p2) X.env x=pure x:=by intro _;rfl):
  DS Z X EE (.For (.Name x p) (.Call (.Name "range" p1) [a,c] [] p2) body [] pos) (dForR i rng2 dA s1):=by
 refine PS.mono (q86 hp hc (x6d hg hm ha hs1 hs2) (q2r i hN hi hx hf) hb hs) ?_;rintro D σ H ⟨G,e,rel,h⟩;refine⟨G,e,rel,(q04 h).imp (fun ws e1 h G1 vs H1 r1 q1 p1=>?_) fun _ _ h=>h⟩
 unfold rng2 at h;split at h
 ·rename_i hh;split at hh
  ·rename_i j k;split at hh
   ·rename_i hj;cases hh;obtain⟨y,r,rfl,e1,y2,r2,rfl,e2,e3⟩:=p1;cases(show y=V.int j from e1);cases(show y2=V.int k from e2);cases(show r2=[]from e3);exact⟨j,k,rfl,⟨(q5n hj.1).1,(q5n hj.1).2,(q5n hj.2).1,(q5n hj.2).2⟩,x35 (i:=i) (D:=D) r1 (PostS.trans q1 h)⟩
   ·cases hh
  ·cases hh
 ·exact h.elim
end
open PyProof.Rows (envOfC)
inductive FR where
 |ok (s:S)|ex (c:Value)|no
variable{F:List W->FR}
noncomputable def spF(K:PySem.W.Frag)(F:List W->FR):Sp:=fun vs H Q E=>∃G ws,Same G H/\Reps K G ws vs/\match F ws with
 |.ok s=>∀G' H' v,Grow G H G' H'->SlotOk K ⟨H,G,[]⟩ G' H' s (some v)->Q v H'
 |.ex c=>∀H',Same H H'->E c none H'
 |.no=>False
noncomputable def SR.fn:SR->FR
 |.nx _=>.ok (.fr .non)
 |.rt s _=>.ok s
 |.ex c _=>.ex c
 |_=>.no
noncomputable def init(n:Nat)(ws:List W):List S:=ws.map .fr++List.replicate (n-ws.length) .no
theorem q56{N:List Str}(s:Same G H)(r:Reps K G ws vs):Rel K ⟨H,G,[]⟩ G (L2.start N vs) H (init N.length ws):=by
 have hl:=r.length
 have hfr:∀(i:Nat)(s:S),(init N.length ws)[i]?=some s->(s=.no)\/∃w,s=.fr w/\ws[i]?=some w:=fun i s h=>by
  unfold init at h;rw[List.getElem?_append]at h;split at h
  ·rw[w0r]at h;obtain⟨w,h1,rfl⟩:=w0f.mp h;exact .inr ⟨w,rfl,h1⟩
  ·rw[w1y]at h;split at h
   ·cases h;exact .inl rfl
   ·cases h
 refine⟨s,fun i t h=>?_,?_,fun i j b b' w1 w2 a h1 h2 _ _=>?_,fun a o h _=>h,(fun a h=>nomatch h),fun a _=>rfl⟩
 ·rcases hfr i t h with rfl|⟨w,rfl,h1⟩
  ·trivial
  ·obtain⟨v,h2,h3⟩:=r.get h1;refine⟨v,?_,h3⟩;have hi:i<vs.length:=(w0b.mp h2).1;unfold L2.start;rw[w1d (by simpa using hi),w0r,h2];rfl
 ·unfold init L2.start;simp[hl]
 ·rcases hfr i _ h1 with z|⟨w,z,_⟩<;>cases z
theorem Rel.toGrow(r:Rel K ⟨H,G,[]⟩ G' σ H' e)(s:Same G G'):Grow G H G' H':=
 ⟨fun a o h=>r.ent a o h (by simp),s,r.sub,fun a h=>r.gen a h⟩
section
variable{P:Program}{w:World}{mg:Str->Option Value}{base:Heap}
theorem q7k{Q:VK}{E:XK}(h:spF K F vs H Q E):∃G ws,F ws≠.no/\Reps K G ws vs:=by
 obtain⟨G,ws,_,r,h⟩:=h;refine⟨G,ws,fun z=>?_,r⟩
 rw[z]at h;exact h
theorem q74{Q:VK}{E:XK}{r:SR}(he:r.fn=F ws)(h:match F ws with
  |.ok s=>∀G' H' v,Grow G H G' H'->SlotOk K ⟨H,G,[]⟩ G' H' s (some v)->Q v H'
  |.ex c=>∀H',Same H H'->E c none H'
  |.no=>False):PostS K ⟨H,G,[]⟩ (fun _=>E) {nx:=fun _ H'=>Q .non H',rt:=Q} G r:=by
 rw[<- he]at h;cases r with
 |nx e=>exact fun G' σ' H' r s=>h G' H' .non (r.toGrow s) ⟨.non,rfl,rfl⟩
 |rt s e=>exact fun G' σ' v H' r q p=>h G' H' v (r.toGrow q) p
 |ex c e=>exact fun G' σ' H' r s=>h H' (r.toGrow s).hh
 |bk e=>exact h.elim
 |ct e=>exact h.elim
 |no=>exact h.elim
theorem con{N:List Str}(A:At K mg x st ps)(sc:FnScope N ps (defScope st))(len:∀ws,F ws≠.no->ws.length=ps.length)
  (hb:∀ws,F ws≠.no->∀(f:Addr)(cdv:Value)(A:Around)(outer:List Env)(s:Shared)(H:Hp)(E:XK)(Z:Zt),Room k (A.deeper (envOfC x (defScope st) s.heap.objs.size f cdv)) ->
   ∃d,DSs Z (cxOf (CX1 P w) P w K mg base N x (defScope st) f cdv A outer s H E) (fun _=>E) (defBody st) d/\(d (init N.length ws)).fn=F ws):Cal P w K mg base (k+1) x ps (spF K F):=by
 refine A.cal sc (fun vs H Q E h=>?_) (fun f cdv A outer s H vs Q E hr h=>?_)
 ·obtain⟨G,ws,hn,r⟩:=q7k h;rw[r.length];exact len ws hn
 ·have hn0:=h;obtain⟨G,ws,sg,rp,h⟩:=h;have hn:F ws≠.no:=fun z=>by rw[z]at h;exact h
  obtain⟨d,hd,he⟩:=hb ws hn f cdv A outer s H E ⟨H,G,[]⟩ hr;exact⟨_,hd,G,init N.length ws,q56 sg rp,q74 he h⟩
theorem conH{N:List Str}(A:At K mg x st ps)(sc:FnScope N ps (defScope st))(len:∀ws,F ws≠.no->ws.length=ps.length)
  (hb:∀ws,F ws≠.no->∀(f:Addr)(cdv:Value)(A:Around)(outer:List Env)(s:Shared)(H:Hp)(Z:Zt),RoomH k (A.deeper (envOfC x (defScope st) s.heap.objs.size f cdv)) ->
   ∃d,DSs Z (cxH P w K mg base N x (defScope st) f cdv A outer s H) (fun _=>E0) (defBody st) d/\(d (init N.length ws)).fn=F ws):CalH P w K mg base (k+1) x ps (spF K F):=by
 refine A.calH sc (fun vs H Q E h=>?_) (fun f cdv A outer s H vs Q hr h=>?_)
 ·obtain⟨G,ws,hn,r⟩:=q7k h;rw[r.length];exact len ws hn
 ·obtain⟨G,ws,sg,rp,h⟩:=h;have hn:F ws≠.no:=fun z=>by rw[z]at h;exact h
  obtain⟨d,hd,he⟩:=hb ws hn f cdv A outer s H ⟨H,G,[]⟩ hr;exact⟨_,hd,G,init N.length ws,q56 sg rp,q74 he h⟩
end
noncomputable def dCall(F:List W->FR)(dA:Den (List W)):Den W:=fun e=>(dA e).bind fun ws e1=>match F ws with
 |.ok (.fr w)=>.ok w e1
 |.ok (.own none ws')=>.ok (.lst ws') e1
 |.ok (.dic kvs)=>.ok (.dic kvs) e1
 |.ok (.thr us ws vs)=>.ok (.tup (us++.lst ws::vs)) e1
 |.ok (.x (.new w))=>.ok w e1
 |.ok (.x (.tn us wss))=>.ok (.tup (us++[.lst (wss.map .lst)])) e1
 |.ex c=>.ex c e1
 |_=>.no
noncomputable def dCallH(F:List W->FR)(dA:Den (List W)):Den W:=fun e=>(dA e).bind fun ws e1=>match F ws with
 |.ok (.fr w)=>.ok w e1
 |.ok (.own none ws')=>.ok (.lst ws') e1
 |_=>.no
section
variable{e:Expr}
theorem q6x{s:S}(r1:Rel K Z G1 σ H1 e1)(g:Grow G1 H1 G' H')(q:SlotOk K ⟨H1,G1,[]⟩ G' H' s (some v))(hs:s=.fr w\/∃ws,s=.own none ws/\w=.lst ws):
  ∃G'',Rel K Z G'' σ H' e1/\Same G1 G''/\Rep K G'' w v:=by
 rcases hs with rfl|⟨ws,rfl,rfl⟩
 ·obtain⟨u,h1,h2⟩:=q;cases h1;exact⟨G',r1.grow g,g.gg,h2⟩
 ·obtain⟨a,xs,h1,h2,h3,h4,h5⟩:=q;cases h1;have hn:H1 a=none:=h4;obtain⟨sg,rg⟩:=(r1.grow g).seen h2 h3 (q5m r1 hn) (q55 r1 hn);exact⟨_,rg,g.gg.trans sg,⟨a,xs,rfl,SqL.of q0h,Reps.mono sg ws h5⟩⟩
theorem x6u{kvs:Dd}(r1:Rel K Z G1 σ H1 e1)(g:Grow G1 H1 G' H')(q:SlotOk K ⟨H1,G1,[]⟩ G' H' (.dic kvs) (some v)):
  ∃G'',Rel K Z G'' σ H' e1/\Same G1 G''/\Rep K G'' (.dic kvs) v:=by
 obtain⟨a,h1,h2,h3,h4⟩:=q;cases h1;have hn:H1 a=none:=h4;have r:=r1.grow g;have sg:Same G' (upd G' a (dO kvs)):=q24 h3 _;refine⟨upd G' a (dO kvs),⟨fun c o z=>?_,fun j s z=>?_,r.len,r.dis,r.ent,r.ion,fun c z=>?_⟩,g.gg.trans sg,⟨a,rfl,q0h⟩⟩
 ·by_cases hc:c=a
  ·subst hc;rw[q0h]at z;cases z;exact h2
  ·rw[q0e hc]at z;exact r.sub c o z
 ·have y:=r.slot j s z;have y1:=r1.slot j s z;cases s with
  |no=>trivial
  |fr w=>
   obtain⟨u,y1,y2⟩:=y;exact⟨u,y1,Rep.mono sg w y2⟩
  |own b2 w2=>
   obtain⟨c,ys,x1,x2,x3,x4,x5⟩:=y;refine⟨c,ys,x1,x2,?_,x4,Reps.mono sg w2 x5⟩;rw[q0e (q03 x2 h2 (fun z=>q5e rfl z.symm))];exact x3
  |dic kv=>
   obtain⟨c,x1,x2,x3,x4⟩:=y;obtain⟨c',w1,w2,_⟩:=y1;rw[x1]at w1;cases w1;refine⟨c,x1,x2,?_,x4⟩;rw[q0e (q0q w2 hn)];exact x3
  |thr us w2 vs=>
   obtain⟨t,l,o,xs2,ys,zs,x1,x2,x3,x4,x5,x6,x7,x8⟩:=y;refine⟨t,l,o,xs2,ys,zs,x1,sg _ _ x2,x3,?_,x5,Reps.mono sg us x6,Reps.mono sg w2 x7,Reps.mono sg vs x8⟩;rw[q0e (q03 x3 h2 (fun z=>q5e rfl z.symm))];exact x4
  |nest wss=>exact NestOk.move y sg fun l o ys k1 k2 k3=>⟨k1,by rw[q0e (q03 k1 h2 (fun z=>q5e rfl z.symm))];exact k2,k3⟩
  |x k=>exact XOk.move y sg fun l o ys k1 k2 k3=>⟨k1,by rw[q0e (q03 k1 h2 (fun z=>q5e rfl z.symm))];exact k2,k3⟩
  |dw sh ks ws=>exact DwOk.move y sg fun l o ys k1 k2 k3=>⟨k1,by rw[q0e (q03 k1 h2 (fun z=>q5e rfl z.symm))];exact k2,k3⟩
 ·by_cases hc:c=a
  ·subst hc;exact absurd (q5m r1 hn) z
  ·rw[q0e hc];exact r.gen c z
theorem x6v{us vs:List W}(r1:Rel K Z G1 σ H1 e1)(g:Grow G1 H1 G' H')(q:SlotOk K ⟨H1,G1,[]⟩ G' H' (.thr us ws vs) (some v)):
  ∃G'',Rel K Z G'' σ H' e1/\Same G1 G''/\Rep K G'' (.tup (us++.lst ws::vs)) v:=by
 obtain⟨t,l,o,xs,ys,zs,h1,h2,h3,h4,h5,h6,h7,h8⟩:=q;cases h1;have hn:H1 l=none:=h5;have r:=r1.grow g;have sg:Same G' (upd G' l (.frz o (.lst ys))):=q24 h4 _;refine⟨upd G' l (.frz o (.lst ys)),⟨fun c u z=>?_,fun j s z=>?_,r.len,r.dis,r.ent,r.ion,fun c z=>?_⟩,g.gg.trans sg,⟨t,_,rfl,SqT.of (sg _ _ h2),(Reps.mono sg us h6).append ⟨.ref l,zs,rfl,⟨l,ys,rfl,.inl (.inr ⟨o,q0h⟩),Reps.mono sg ws h7⟩,Reps.mono sg vs h8⟩⟩⟩
 ·by_cases hc:c=l
  ·subst hc;rw[q0h]at z;cases z;exact h3
  ·rw[q0e hc]at z;exact r.sub c u z
 ·have y:=r.slot j s z;have y1:=r1.slot j s z;cases s with
  |no=>trivial
  |fr w=>
   obtain⟨u,y1,y2⟩:=y;exact⟨u,y1,Rep.mono sg w y2⟩
  |own b2 w2=>
   obtain⟨c,ys,x1,x2,x3,x4,x5⟩:=y;refine⟨c,ys,x1,x2,?_,x4,Reps.mono sg w2 x5⟩;rw[q0e (q03 x2 h3 (fun z=>nomatch z))];exact x3
  |dic kv=>
   obtain⟨c,x1,x2,x3,x4⟩:=y;refine⟨c,x1,x2,?_,x4⟩;rw[q0e (q03 x2 h3 (q5e rfl))];exact x3
  |thr us w2 vs=>
   obtain⟨t1,l1,o1,xs1,ys1,zs1,w1,w2',w3,w4,w5,w6,w7,w8⟩:=y1;have sg2:=g.gg.trans sg;refine⟨t1,l1,o1,xs1,ys1,zs1,w1,sg2 _ _ w2',g.hh _ _ w3,?_,w5,Reps.mono sg2 us w6,Reps.mono sg2 w2 w7,Reps.mono sg2 vs w8⟩;rw[q0e (q0q w3 hn),g.new l1 (by rw[w3];simp)];exact w4
  |nest wss=>exact NestOk.move y1 (g.gg.trans sg) fun l1 o ys k1 k2 k3=>⟨g.hh _ _ k1,by rw[q0e (q0q k1 hn),g.new l1 (by rw[k1];simp)];exact k2,k3⟩
  |x k=>exact XOk.move y1 (g.gg.trans sg) fun l1 o ys k1 k2 k3=>⟨g.hh _ _ k1,by rw[q0e (q0q k1 hn),g.new l1 (by rw[k1];simp)];exact k2,k3⟩
  |dw sh ks ws=>exact DwOk.move y1 (g.gg.trans sg) fun l1 o ys k1 k2 k3=>⟨g.hh _ _ k1,by rw[q0e (q0q k1 hn),g.new l1 (by rw[k1];simp)];exact k2,k3⟩
 ·by_cases hc:c=l
  ·subst hc;exact absurd (q5m r1 hn) z
  ·rw[q0e hc];exact r.gen c z
theorem NestIn.mem0:∀{ls:List Addr}{wss:List (List W)},NestIn K Z G H ls wss->∀l∈ls,∃o ys,FzAt Z G H l o ys
 |[],_,_,_,hl=>nomatch hl
 |l::ls,ws::wss,⟨⟨o,ys,h1,_⟩,h⟩,c,hc=>by
  rcases w0p.mp hc with rfl|hc
  ·exact⟨o,ys,h1⟩
  ·exact h.mem0 c hc
 |_::_,[],h,_,_=>h.elim
theorem NestIn.reps0(sg:Same G G'):∀{ls:List Addr}{wss:List (List W)},(∀l∈ls,G' l=H l)->NestIn K Z G H ls wss->Reps K G' (wss.map W.lst) (ls.map V.ref)
 |[],[],_,_=>rfl
 |l::ls,ws::wss,hf,⟨⟨o,ys,h1,h4⟩,h⟩=>⟨.ref l,ls.map V.ref,rfl,⟨l,ys,rfl,.inl (.inr ⟨o,by rw[hf l (by simp)];exact h1.1⟩),Reps.mono sg ws h4⟩,h.reps0 sg fun c hc=>hf c (by simp[hc])⟩
 |[],_::_,_,h=>h.elim
 |_::_,[],_,h=>h.elim
theorem Rel.addNew(r1:Rel K Z G1 σ H1 e1)(g:Grow G1 H1 G' H')(As:List Addr) [DecidablePred (·∈As)](hA:∀c∈As,(∃o ys,H' c=some (.frz o (.lst ys)))/\G' c=none/\H1 c=none):
  Same G' (fun c=>if c∈As then H' c else G' c)/\Rel K Z (fun c=>if c∈As then H' c else G' c) σ H' e1:=by
 have sg:Same G' (fun c=>if c∈As then H' c else G' c):=fun c o z=>by
  show(if c∈As then H' c else G' c)=some o;rw[if_neg (fun m=>by rw[(hA c m).2.1]at z;cases z)];exact z
 refine⟨sg,r1.grow ⟨g.hh,g.gg.trans sg,fun c o z=>?_,fun c hc=>?_⟩⟩
 ·have z:(if c∈As then H' c else G' c)=some o:=z;split at z
  ·exact z
  ·exact g.sub c o z
 ·show(if c∈As then H' c else G' c)=G1 c;rw[if_neg (fun m=>hc (hA c m).2.2)];exact g.new c hc
theorem x9m{us:List W}{wss:List (List W)}(r1:Rel K Z G1 σ H1 e1)(g:Grow G1 H1 G' H')(q:SlotOk K ⟨H1,G1,[]⟩ G' H' (.x (.tn us wss)) (some v)):
  ∃G'',Rel K Z G'' σ H' e1/\Same G1 G''/\Rep K G'' (.tup (us++[.lst (wss.map .lst)])) v:=by
 classical
 obtain⟨t,l,o,ls,xs,h1,h2,⟨h3,h4,h5⟩,⟨h6,h7⟩,h8,h9⟩:=q;cases h1
 obtain⟨sg,r2⟩:=r1.addNew g (l::ls) fun c hc=>by
  rcases w0p.mp hc with rfl|hc
  ·exact⟨⟨o,_,h3⟩,h4,h5⟩
  ·obtain⟨o',ys,k1,k2,k3⟩:=h9.mem0 c hc;exact⟨⟨o',ys,k1⟩,k2,k3⟩
 refine⟨_,r2,g.gg.trans sg,t,_,rfl,SqT.of (sg _ _ h2),(Reps.mono sg us h8).append ⟨.ref l,[],rfl,⟨l,_,rfl,.inl (.inr ⟨o,?_⟩),h9.reps0 sg fun c hc=>if_pos (w0z _ hc)⟩,rfl⟩⟩
 show(if l∈l::ls then H' l else G' l)=_;rw[if_pos (w1j ..)];exact h3
theorem x44{c:Value}(r1:Rel K Z G1 σ H1 e1)(s1:Same G G1)(h:XH K Z EE σ G c e1):∀H',Same H1 H'->EE σ c none H':=fun H' sh=>
 h G1 H' (r1.grow ⟨sh,.refl _,r1.sub.trans sh,fun _ _=>rfl⟩) s1
theorem q0l(C:Cal X.prog X.w X.K X.mg X.base k x ps (spF X.K F))(hr:Room k X.A)(hx:PassX (CX1 X.prog X.w) X EE)(ha:DA Z X EE (e::es) dA)(hg:Gl X x:=by rfl)
  (hdb:(x==("__debug__":Str))=false:=by decide)(he:starEach (e::es) X.env=(false,eval e X.env)::starEach es X.env:=by rfl)(hpl:(backTo pos (starEach es X.env)).any (·.1)=false:=by rfl):
  DE Z X EE (.Call (.Name x p) (e::es) [] pos) (dCall F dA):=by
 refine PE.mono (y56 C hr hx ha hg hdb he hpl) ?_;rintro σ H Q ⟨G,e,rel,h⟩;simp only[dCall,R.holds_bind]at h;refine⟨G,e,rel,h.imp (fun ws e1 h G1 vs H1 r1 s1 p1=>?_) fun _ _ h=>h⟩
 refine⟨G1,ws,r1.sub,by rw[w0x];exact p1,?_⟩;cases q:F ws with
 |ok s=>
  rw[q]at h;intro G' H' v g sl;cases s with
  |no=>exact h.elim
  |fr w=>
   obtain⟨G'',r2,s2,p2⟩:=q6x r1 g sl (.inl rfl);exact(show ∀G' v H',_->_->Rep X.K G' w v->Q v H' from h) G'' v H' r2 (s1.trans s2) p2
  |own b ws'=>
   cases b with
   |some _=>exact h.elim
   |none=>
    obtain⟨G'',r2,s2,p2⟩:=q6x r1 g sl (.inr ⟨ws',rfl,rfl⟩);exact(show ∀G' v H',_->_->Rep X.K G' (.lst ws') v->Q v H' from h) G'' v H' r2 (s1.trans s2) p2
  |dic kvs=>
   obtain⟨G'',r2,s2,p2⟩:=x6u r1 g sl;exact(show ∀G' v H',_->_->Rep X.K G' (.dic kvs) v->Q v H' from h) G'' v H' r2 (s1.trans s2) p2
  |thr us ws' vs'=>
   obtain⟨G'',r2,s2,p2⟩:=x6v r1 g sl;exact(show ∀G' v H',_->_->Rep X.K G' (.tup (us++.lst ws'::vs')) v->Q v H' from h) G'' v H' r2 (s1.trans s2) p2
  |nest _=>exact h.elim
  |x k=>
   cases k with
   |new w=>
    obtain⟨u,h1,h2⟩:=sl;cases h1;exact(show ∀G' v H',_->_->Rep X.K G' w v->Q v H' from h) G' _ H' (r1.grow g) (s1.trans g.gg) (RepN.rep _ h2)
   |tn us wss=>
    obtain⟨G'',r2,s2,p2⟩:=x9m r1 g sl;exact(show ∀G' v H',_->_->Rep X.K G' (.tup (us++[.lst (wss.map .lst)])) v->Q v H' from h) G'' v H' r2 (s1.trans s2) p2
   |_=>exact h.elim
  |dw _ _ _=>exact h.elim
 |ex c=>
  rw[q]at h;exact x44 r1 s1 h
 |no=>rw[q]at h;exact h.elim
theorem x36(C:CalH X.prog X.w X.K X.mg X.base k x ps (spF X.K F))(hr:RoomH k X.A)(ha:DA Z X EE (e::es) dA)(hg:Gl X x:=by rfl)
  (hdb:(x==("__debug__":Str))=false:=by decide)(he:starEach (e::es) X.env=(false,eval e X.env)::starEach es X.env:=by rfl)(hpl:(backTo pos (starEach es X.env)).any (·.1)=false:=by rfl):
  DE Z X EE (.Call (.Name x p) (e::es) [] pos) (dCallH F dA):=by
 refine PE.mono (y2t C hr ha hg hdb he hpl) ?_;rintro σ H Q ⟨G,e,rel,h⟩;simp only[dCallH,R.holds_bind]at h;refine⟨G,e,rel,h.imp (fun ws e1 h G1 vs H1 r1 s1 p1=>?_) fun _ _ h=>h⟩
 refine⟨G1,ws,r1.sub,by rw[w0x];exact p1,?_⟩;cases q:F ws with
 |ok s=>
  rw[q]at h;intro G' H' v g sl;cases s with
  |no=>exact h.elim
  |fr w=>
   obtain⟨G'',r2,s2,p2⟩:=q6x r1 g sl (.inl rfl);exact(show ∀G' v H',_->_->Rep X.K G' w v->Q v H' from h) G'' v H' r2 (s1.trans s2) p2
  |own b ws'=>
   cases b with
   |some _=>exact h.elim
   |none=>
    obtain⟨G'',r2,s2,p2⟩:=q6x r1 g sl (.inr ⟨ws',rfl,rfl⟩);exact(show ∀G' v H',_->_->Rep X.K G' (.lst ws') v->Q v H' from h) G'' v H' r2 (s1.trans s2) p2
  |dic kvs=>exact h.elim
  |thr _ _ _=>exact h.elim
  |nest _=>exact h.elim
  |x _=>exact h.elim
  |dw _ _ _=>exact h.elim
 |ex c=>rw[q]at h;exact h.elim
 |no=>rw[q]at h;exact h.elim
noncomputable def dRaise(C:Addr)(d:Den (List W)):List S->SR:=fun e=>(d e).stm fun ws e1=>if ws.length<=16777216 then .ex (.ref C) e1 else .no
theorem q6y{C Ac:Addr}{np cpos:Pos}(hx:RaisX X EE)(hC:excIn X.K C Ac=true)(hm:X.mg x=some (.ref C))(hc:X.calm=true)(ha:DA Z X EE (e::es) dA)(hg:Gl X x:=by rfl)
  (hdb:(x==("__debug__":Str))=false:=by decide)(he:starEach (e::es) X.env=(false,eval e X.env)::starEach es X.env:=by rfl)(hpl:(backTo cpos (starEach es X.env)).any (·.1)=false:=by rfl):
  DS Z X EE (.Raise (some (.Call (.Name x np) (e::es) [] cpos)) none pos) (dRaise C dA):=by
 refine PS.mono (x9c hx hc hg hm hC ha hdb he hpl) ?_;rintro D σ H ⟨G,e,rel,h⟩;refine⟨G,e,rel,(q04 h).imp (fun ws e1 h G1 vs H1 r1 s1 p1=>?_) fun _ _ h=>h⟩
 split at h
 ·rename_i hl;exact⟨by rw[p1.length,sizeLine_eq];exact hl,h G1 σ H1 r1 s1⟩
 ·exact h.elim
theorem Rel.blank{e:List S}(r:Rel K Z G σ H e)(n:Nat):Rel K Z G (List.replicate n none) H (List.replicate n .no):=by
 have hno:∀(i:Nat)(s:S),(List.replicate n S.no)[i]?=some s->s=.no:=fun i s h=>by
  rw[w1y]at h;split at h
  ·cases h;rfl
  ·cases h
 refine⟨r.sub,fun i s h=>?_,by simp,fun i j b b' w1 w2 a h1 h2 _ _=>?_,r.ent,r.ion,r.gen⟩
 ·rw[hno i s h];trivial
 ·cases hno _ _ h1
end
end D
namespace L2
open PySem PySem.Spec PyProof.Rows
def rCatS(K:PySem.W.Frag):R2:=fun x y H Q=>∃l b xs zs,x=.ref l/\y=.ref b/\SqL K H l xs/\SqL K H b zs/\xs.length+zs.length<=sizeLine/\∀p,H p=none->Q (.ref p) (upd H p (.lst (xs++zs)))
theorem y20{X:Cx}:OpR X (binaryOp .Add) (rCatS X.K):=by
 intro pins s σ H x y v u Q I rx ry h;obtain⟨l,b,xs,zs,rfl,rfl,h1,h2,hz,q⟩:=h;cases rx;cases ry;obtain⟨its,r1,p1,_⟩:=I.list h1;obtain⟨its2,r2,p2,_⟩:=I.list h2;obtain⟨⟨cls,dd,data,sl⟩,ho,hc,n,hd⟩:=id p1.isList;obtain⟨⟨cls2,dd2,data2,sl2⟩,ho2,hc2,n2,hd2⟩:=id p2.isList;simp only at hc hd hc2 hd2;subst hc hd hc2 hd2;have l1:=r1.length;have l2:=r2.length;refine concat_meets ⟨_,ho,rfl⟩ ⟨_,ho2,rfl⟩ noFill_list_add seq_list_add PySem.F.slot_list_add PySem.F.entry_list_add (PySem.F.args_list_add_2 _ _) (list_addW l b its.toArray its2.toArray n n2 dd dd2 sl sl2 (by simp only[w0c];omega)) ⟨ho,ho2,?_⟩;have ea:its.toArray++its2.toArray=(its++its2).toArray:=by simp
 rw[ea];exact⟨.ref _,_,I.lnew (t':=s.toks) (r1.append r2) (by rw[w0q];omega),rfl,q _ I.fresh⟩
end L2
namespace D
open PySem L2
variable{a:Addr}{A:Around}{X:Cx}{dA p:Den (List W)}{c cc:Den Bool}{d da db dk:Den W}{G G' G1 H:Hp}{hi lo:Int}{ps:List (W×W)}{es:List Expr}{js:List Nat}{e pe:List S}{q s1:List S->SR}{xs:List V}{us ws:List W}{F:List W->FR}{f:List W->Option W}{i j k kt n:Nat}{b:Option Nat}{apos cpos p1 p2 pn pos:Pos}{K:PySem.W.Frag}{s:Shared}{σ:St}{EE:St->XK}{st:Stmt}{x y:Str}{α:Type}{v v':V}{cv u u':Value}{w w':W}{Z:Zt}
noncomputable def addW:W->W->Option W
 |.int i,.int j=>some (.int (i+j))
 |.str x,.str y=>if x.length+y.length<=16777216 then some (.str (x++y))else none
 |.tup xs,.tup ys=>if xs≠[]/\xs.length+ys.length<=16777216 then some (.tup (xs++ys))else none
 |.lst xs,.lst ys=>if xs.length+ys.length<=16777216 then some (.lst (xs++ys))else none
 |_,_=>none
noncomputable def subW:W->W->Option W
 |.int i,.int j=>some (.int (i-j))
 |_,_=>none
noncomputable def mulW:W->W->Option W
 |.int i,.int j=>if(-(2^64)<i/\i<2^64)\/(-(2^64)<j/\j<2^64)then some (.int (i*j))else none
 |_,_=>none
noncomputable def fdivW:W->W->Option W
 |.int i,.int j=>if 0<j/\j<1073741824 then some (.int (i / j))else none
 |_,_=>none
noncomputable def modW:W->W->Option W
 |.int i,.int j=>if 0<j then some (.int (i%j))else none
 |_,_=>none
noncomputable def powW:W->W->Option W
 |.int i,.int j=>if 0<=j/\j<=1000000/\i.natAbs<2^64 then some (.int (i^j.toNat))else none
 |_,_=>none
noncomputable def ltW:W->W->Option W
 |.int i,.int j=>some (.bl (decide (i<j)))
 |_,_=>none
noncomputable def gtW:W->W->Option W
 |.int i,.int j=>some (.bl (decide (j<i)))
 |_,_=>none
noncomputable def geW:W->W->Option W
 |.int i,.int j=>some (.bl (decide (j<=i)))
 |_,_=>none
theorem x6w:Op2 K (fun x y H Q=>rI0 (fun i j=>.int (i+j)) x y H Q\/((∃i j,x=.str i/\y=.str j/\i.length+j.length<=sizeLine/\Q (.str (i++j)) H)\/(rCatT K x y H Q\/rCatS K x y H Q))) addW:=by
 intro G H x y wx wy w Q s px py hf h;unfold addW at hf;split at hf
 ·cases hf;cases px;cases py;exact .inl ⟨_,_,rfl,rfl,h G _ H (.refl s) rfl⟩
 ·split at hf
  ·rename_i hl;cases hf;cases px;cases py;exact .inr (.inl ⟨_,_,rfl,rfl,by rw[sizeLine_eq];exact hl,h G _ H (.refl s) rfl⟩)
  ·cases hf
 ·rename_i us ws;split at hf
  ·rename_i hl;cases hf;obtain⟨a,xs,rfl,ha,ra⟩:=px;obtain⟨b,ys,rfl,hb,rb⟩:=py;have l1:=ra.length;have l2:=rb.length;refine .inr (.inr (.inl ⟨a,b,xs,ys,rfl,rfl,s.tup ha,s.tup hb,fun z=>hl.1 ?_,by rw[l1,l2,sizeLine_eq];exact hl.2,fun z=>?_,fun z p hp=>?_⟩))
   ·subst z;cases us with
    |nil=>rfl
    |cons _ _=>simp at l1
   ·subst z
    have:ws=[]:=by cases ws with
     |nil=>rfl
     |cons _ _=>simp at l2
    subst this;exact h G _ H (.refl s) ⟨a,xs,rfl,ha,by simpa using ra⟩
   ·have g:=Grow.laid s hp (.tup (xs++ys));exact h _ _ _ g ⟨p,_,rfl,SqT.of q0h,Reps.append (Reps.mono g.gg _ ra) (Reps.mono g.gg _ rb)⟩
  ·cases hf
 ·split at hf
  ·rename_i hl;cases hf;obtain⟨a,xs,rfl,ha,ra⟩:=px;obtain⟨b,ys,rfl,hb,rb⟩:=py;have l1:=ra.length;have l2:=rb.length;refine .inr (.inr (.inr ⟨a,b,xs,ys,rfl,rfl,s.seq ha,s.seq hb,by rw[l1,l2,sizeLine_eq];exact hl,fun p hp=>?_⟩))
   have g:=Grow.laid s hp (.lst (xs++ys));exact h _ _ _ g ⟨p,_,rfl,SqL.of q0h,Reps.append (Reps.mono g.gg _ ra) (Reps.mono g.gg _ rb)⟩
  ·cases hf
 ·cases hf
theorem y6b:Op2 K (rI0 fun i j=>.int (i-j)) subW:=by
 intro G H x y wx wy w Q s px py hf h;unfold subW at hf;split at hf
 ·cases hf;cases px;cases py;exact⟨_,_,rfl,rfl,h G _ H (.refl s) rfl⟩
 ·cases hf
theorem y6c:Op2 K (rI CMul fun i j=>.int (i*j)) mulW:=by
 intro G H x y wx wy w Q s px py hf h;unfold mulW at hf;split at hf
 ·split at hf
  ·rename_i hc;cases hf;cases px;cases py;exact⟨_,_,rfl,rfl,hc,h G _ H (.refl s) rfl⟩
  ·cases hf
 ·cases hf
theorem y21:Op2 K (rI CDiv fun i j=>.int (i / j)) fdivW:=by
 intro G H x y wx wy w Q s px py hf h;unfold fdivW at hf;split at hf
 ·split at hf
  ·rename_i hc;cases hf;cases px;cases py;exact⟨_,_,rfl,rfl,hc,h G _ H (.refl s) rfl⟩
  ·cases hf
 ·cases hf
theorem y6d:Op2 K (rI (fun _ j=>0<j) fun i j=>.int (i%j)) modW:=by
 intro G H x y wx wy w Q s px py hf h;unfold modW at hf;split at hf
 ·split at hf
  ·rename_i hc;cases hf;cases px;cases py;exact⟨_,_,rfl,rfl,hc,h G _ H (.refl s) rfl⟩
  ·cases hf
 ·cases hf
theorem y6e:Op2 K (rI CPow fun i j=>.int (i^j.toNat)) powW:=by
 intro G H x y wx wy w Q s px py hf h;unfold powW at hf;split at hf
 ·split at hf
  ·rename_i hc;cases hf;cases px;cases py;exact⟨_,_,rfl,rfl,hc,h G _ H (.refl s) rfl⟩
  ·cases hf
 ·cases hf
theorem y1u:Op2 K (rI0 fun i j=>.bl (decide (i<j))) ltW:=by
 intro G H x y wx wy w Q s px py hf h;unfold ltW at hf;split at hf
 ·cases hf;cases px;cases py;exact⟨_,_,rfl,rfl,h G _ H (.refl s) rfl⟩
 ·cases hf
theorem y1v:Op2 K (rI0 fun i j=>.bl (decide (j<i))) gtW:=by
 intro G H x y wx wy w Q s px py hf h;unfold gtW at hf;split at hf
 ·cases hf;cases px;cases py;exact⟨_,_,rfl,rfl,h G _ H (.refl s) rfl⟩
 ·cases hf
theorem y1w:Op2 K (rI0 fun i j=>.bl (decide (j<=i))) geW:=by
 intro G H x y wx wy w Q s px py hf h;unfold geW at hf;split at hf
 ·cases hf;cases px;cases py;exact⟨_,_,rfl,rfl,h G _ H (.refl s) rfl⟩
 ·cases hf
mutual
noncomputable def eqW:W->W->Option Bool
 |.non,.non=>some true
 |.non,.bl _=>some false|.non,.int _=>some false|.non,.str _=>some false|.non,.tup _=>some false|.non,.lst _=>some false
 |.bl a,.bl b=>some (a==b)
 |.bl a,.int b=>some ((if a then 1 else 0)==b)
 |.bl _,.non=>some false|.bl _,.str _=>some false|.bl _,.tup _=>some false|.bl _,.lst _=>some false
 |.int a,.int b=>some (a==b)
 |.int a,.bl b=>some (a==(if b then 1 else 0))
 |.int _,.non=>some false|.int _,.str _=>some false|.int _,.tup _=>some false|.int _,.lst _=>some false
 |.str a,.str b=>some (a==b)
 |.str _,.non=>some false|.str _,.bl _=>some false|.str _,.int _=>some false|.str _,.tup _=>some false|.str _,.lst _=>some false
 |.tup _,.non=>some false|.tup _,.bl _=>some false|.tup _,.int _=>some false|.tup _,.str _=>some false|.tup _,.lst _=>some false
 |.lst _,.non=>some false|.lst _,.bl _=>some false|.lst _,.int _=>some false|.lst _,.str _=>some false|.lst _,.tup _=>some false
 |.tup xs,.tup ys=>eqWs xs ys
 |.lst xs,.lst ys=>eqWs xs ys
 |.exc _,_=>none
 |_,.exc _=>none
 |.dic _,_=>none
 |_,.dic _=>none
 |.dw _ _ _ _,_=>none
 |.fn _ _ _,_=>none
 |_,.dw _ _ _ _=>none
 |_,.fn _ _ _=>none
noncomputable def eqWs:List W->List W->Option Bool
 |[],[]=>some true
 |[],_::_=>some false
 |_::_,[]=>some false
 |x::xs,y::ys=>match eqW x y,eqWs xs ys with
  |some a,some b=>some (a&&b)
  |_,_=>none
end
noncomputable def ixW:W->W->Option W
 |.tup ws,.int i=>atI ws i
 |.lst ws,.int i=>atI ws i
 |.str z,.int i=>if z.length<=16777216 then(atI z.cps.toList i).map fun c=>.str ⟨#[c]⟩else none
 |_,_=>none
theorem Reps.atI{i:Int}(r:Reps K G ws xs)(h:L2.atI ws i=some w):∃x,L2.atI xs i=some x/\Rep K G w x:=by
 unfold L2.atI at h |-
 rw[r.length];cases q:ixN ws.length i with
 |none=>rw[q]at h;cases h
 |some j=>
  rw[q]at h;exact r.get h
theorem y1x:Op2 K (rIx K) ixW:=by
 intro G H x y wx wy w Q s px py hf h;unfold ixW at hf;split at hf
 ·obtain⟨a,xs,rfl,ha,ra⟩:=px;cases py;obtain⟨v,hv,rv⟩:=ra.atI hf;exact .inr (.inl ⟨a,xs,_,v,rfl,rfl,s.tup ha,hv,h G v H (.refl s) rv⟩)
 ·obtain⟨a,xs,rfl,ha,ra⟩:=px;cases py;obtain⟨v,hv,rv⟩:=ra.atI hf;exact .inl ⟨a,xs,_,v,rfl,rfl,s.seq ha,hv,h G v H (.refl s) rv⟩
 ·cases px;cases py;split at hf
  ·rename_i hl;obtain⟨c,hc,rfl⟩:=w0f.mp hf;exact .inr (.inr ⟨_,_,c,rfl,rfl,by rw[sizeLine_eq];exact hl,hc,h G _ H (.refl s) rfl⟩)
  ·cases hf
 ·cases hf
noncomputable def S.look:S->Option W
 |.fr w=>some w
 |.own _ ws=>some (.lst ws)
 |.no=>none
 |.dic _=>none
 |.thr _ _ _=>none
 |.nest _=>none
 |.x k=>k.look
 |.dw _ _ _=>none
noncomputable def dIxV(i:Nat)(d:Den W):Den W:=fun e=>match e[i]?.bind S.look with
 |none=>.no
 |some _=>(d e).bind fun k e1=>match e1[i]?.bind S.look with
  |none=>.no
  |some w=>ofOpt (ixW w k) e1
noncomputable def lenW:W->Option W
 |.str z=>if z.length<=16777216 then some (.int z.length)else none
 |.tup ws=>some (.int ws.length)
 |.lst ws=>some (.int ws.length)
 |_=>none
noncomputable def len1:List W->Option W
 |[w]=>lenW w
 |_=>none
theorem x6x:OpN K (fun xs H Q=>∃x n,xs=[x]/\LenV K x H n/\Q (.int n) H) len1:=by
 intro G H xs ws w Q s pr hf h;unfold len1 at hf;split at hf
 ·obtain⟨x,r,rfl,px,pr⟩:=pr;cases(show r=[]from pr);unfold lenW at hf;split at hf
  ·split at hf
   ·rename_i hl;cases hf;cases px;exact⟨_,_,rfl,⟨by rw[sizeLine_eq];exact hl,rfl⟩,h G _ H (.refl s) rfl⟩
   ·cases hf
  ·cases hf;obtain⟨a,xs,rfl,ha,ra⟩:=px;exact⟨_,_,rfl,.inr ⟨xs,s.tup ha,rfl⟩,h G _ H (.refl s) (by rw[ra.length];rfl)⟩
  ·cases hf;obtain⟨a,xs,rfl,ha,ra⟩:=px;exact⟨_,_,rfl,.inl ⟨xs,s.seq ha,rfl⟩,h G _ H (.refl s) (by rw[ra.length];rfl)⟩
  ·cases hf
 ·cases hf
noncomputable def scalW:W->Bool
 |.non=>true|.bl _=>true|.int _=>true|.str _=>true|_=>false
theorem x9n(h:scalW w=true)(p:Rep K G w v):Rep K G' w v:=by
 cases w with
 |non=>exact p
 |bl b=>exact p
 |int i=>exact p
 |str x=>exact p
 |_=>cases h
noncomputable def dFnV(i:Nat)(f:List W->Option W):Den W:=fun e=>match e[i]?.bind S.look with
 |none=>.no
 |some w=>match f [w]with
  |none=>.no
  |some v=>match e[i]? with
   |some (.fr _)=>.ok v e
   |_=>if scalW v=true then .ok v e else .no
section
variable{a b e:Expr}{p:Pos}
theorem q0u(ha:DE Z X EE a d)(hb:DE Z X EE b db)(hs:PlainIx b:=by intro _ _;rfl):DE Z X EE (.Subscript a b pos) (dOp ixW d db):=PE.mono (y1t x6h ha hb hs) (q51 y1x)
theorem Rel.look{e:List S}(r:Rel K Z G σ H e)(h:e[i]?.bind S.look=some w):∃v,σ[i]?=some (some v) /\
  (Rep K G w v\/∃ws a xs u,(∀z,e[i]?≠some (.fr z))/\w=.lst ws/\v=.ref a/\H a=some u/\(u=.lst xs\/∃o,u=.frz o (.lst xs))/\G a=none/\Reps K G ws xs):=by
 obtain⟨s,h1,h2⟩:=w3l.mp h;cases s with
 |no=>cases h2
 |dic _=>cases h2
 |thr _ _ _=>cases h2
 |nest _=>cases h2
 |dw _ _ _=>cases h2
 |fr w'=>
  cases h2;obtain⟨v,h3,h4⟩:=r.fr h1;exact⟨v,h3,.inl h4⟩
 |x k=>
  have q:=r.slot i _ h1;cases k with
  |old w'=>cases h2;obtain⟨v,h1',h3⟩:=r.plain h1 rfl;exact⟨v,h1',.inl h3⟩
  |new w'=>cases h2;obtain⟨v,h1',h3⟩:=r.plain h1 rfl;exact⟨v,h1',.inl h3⟩
  |acc ws=>cases h2;obtain⟨a,o,xs,k1,⟨k2,k3,_⟩,k5⟩:=q;exact⟨.ref a,r.at h1 fun _=>k1,.inr ⟨ws,a,xs,_,(fun z y=>by rw[h1]at y;cases y),rfl,rfl,k2,.inr ⟨o,rfl⟩,k3,RepNs.reps _ k5⟩⟩
  |_=>cases h2
 |own b ws=>
  cases h2;obtain⟨a,xs,h3,h4,h5,h6,h7⟩:=r.own h1;exact⟨.ref a,h3,.inr ⟨ws,a,xs,_,(fun z y=>by rw[h1]at y;cases y),rfl,rfl,h4,.inl rfl,h5,h7⟩⟩
theorem x6y{K:PySem.W.Frag}{a:Addr}{u:HO}(s:Same G H)(h:H a=some u)(hg:G a=none):Same G (upd G a u)/\Same (upd G a u) H:=
 ⟨q24 hg _,fun c o z=>by
  by_cases hc:c=a
  ·subst hc;rw[q0h]at z;cases z;exact h
  ·rw[q0e hc]at z;exact s c o z⟩
theorem q7l(i:Nat)(hb:DE Z X EE b d)(hN:X.N[i]?=some x:=by rfl)(hv:Vis X.env.scope x:=by walk_at "1")(hd:(x==("__debug__":Str))=false:=by decide)
  (hcd:(x==("__classdict__":Str))=false:=by decide)(hs:PlainIx b:=by intro _ _;rfl):DE Z X EE (.Subscript (.Name x p) b pos) (dIxV i d):=by
 refine PE.mono (y1t x6h (pv i hN hv hd hcd) hb hs) ?_;rintro σ H Q ⟨G,e,rel,h⟩;unfold dIxV at h;split at h
 ·exact h.elim
 ·rename_i w0 hw0;obtain⟨v,hv,_⟩:=rel.look hw0;refine⟨v,hv,G,e,rel,(R.holds_bind.mp h).imp (fun k e1 h G1 u H1 r1 s1 p1=>?_) fun _ _ h=>h⟩
  split at h
  ·exact h.elim
  ·rename_i w hw;obtain⟨w',hf,h2⟩:=ofOpt_holds.mp h;obtain⟨v',hv',q⟩:=r1.look hw;rw[hv]at hv';cases hv';rcases q with q|⟨ws,a,xs,u,he,rfl,rfl,q1,qu,q2,q3⟩
   ·exact y1x G1 H1 v u w k w' Q r1.sub q p1 hf fun G' v H' g p=>h2 G' v H' (r1.grow g) (s1.trans g.gg) p
   ·-- an item of one's own list
    unfold ixW at hf;split at hf
    ·rename_i heq;cases heq
    ·rename_i heq;cases heq;cases p1;obtain⟨y,hy,ry⟩:=q3.atI hf;refine .inl ⟨a,xs,_,y,rfl,rfl,?_,hy,h2 G1 y H1 r1 s1 ry⟩;rcases qu with rfl|⟨o,rfl⟩
     ·exact SqL.of q1
     ·exact .inl (.inr ⟨o,q1⟩)
    ·rename_i heq;cases heq
    ·cases hf
theorem y6f{r:List V->Hp->VK->Prop}(i:Nat){id:String}{fn:Str}(hc:CallR X (.builtin id) r)(hf:OpN X.K r f)(hv:bootBuiltins fn=some (.builtin id))(hm:X.mg fn=none)
  (hN:X.N[i]?=some x:=by rfl)(hvis:Vis X.env.scope x:=by walk_at "1")(hd:(x==("__debug__":Str))=false:=by decide)(hcd:(x==("__classdict__":Str))=false:=by decide)
  (hg:Gl X fn:=by rfl)(hn:fn≠"__name__":=by decide)(hdb:(fn==("__debug__":Str))=false:=by decide)(hs:starEach [.Name x p] X.env=(false,eval (.Name x p) X.env)::starEach [] X.env:=by rfl)(hpl:(backTo pos (starEach [] X.env)).any (·.1)=false:=by rfl):
  DE Z X EE (.Call (.Name fn pn) [.Name x p] [] pos) (dFnV i f):=by
 refine PE.mono (q8j hc hg hm hv (q50 (pv i hN hvis hd hcd) q88 hs) hn hdb hs hpl) ?_;rintro σ H Q ⟨G,e,rel,h⟩;unfold dFnV at h;split at h
 ·exact h.elim
 ·rename_i w hw;split at h
  ·exact h.elim
  ·rename_i y hy;obtain⟨v,hv,q⟩:=rel.look hw;refine⟨v,hv,?_⟩;rcases q with q|⟨ws,a,xs,u,he,rfl,rfl,q1,qu,q2,q3⟩
   ·refine hf G H [v] [w] y Q rel.sub (.one q) hy fun G' v H' g p=>?_
    split at h
    ·exact h G' v H' (rel.grow g) g.gg p
    ·split at h
     ·exact h G' v H' (rel.grow g) g.gg p
     ·exact h.elim
   ·split at h
    ·rename_i hz;exact absurd hz (he _)
    split at h
    ·rename_i hsc;obtain⟨s1,s2⟩:=x6y (K:=X.K) rel.sub q1 q2
     have hsq:SqL X.K (upd G a u) a xs:=by
      rcases qu with rfl|⟨o,rfl⟩
      ·exact SqL.of q0h
      ·exact .inl (.inr ⟨o,q0h⟩)
     refine hf (upd G a u) H [.ref a] [.lst ws] y Q s2 (.one ⟨a,xs,rfl,hsq,Reps.mono s1 ws q3⟩) hy fun G' v H' g p=>?_
     have g':Grow G H G H':=⟨g.hh,.refl _,rel.sub.trans g.hh,fun _ _=>rfl⟩
     exact(show ∀G' v H',_->_->Rep X.K G' y v->Q v H' from h) G v H' (rel.grow g') (.refl _) (x9n hsc p)
    ·exact h.elim
noncomputable def dApp(i:Nat)(d:Den (List W)):List S->SR:=fun e=>match e[i]? with
 |some (.own _ _)=>(d e).stm fun ws e1=>match ws,e1[i]? with
  |[w],some (.own b xs)=>if xs.length<16777216 then .nx (e1.set i (.own b (xs++[w])))else .no
  |_,_=>.no
 |_=>.no
theorem q4r(i:Nat)(ha:DA Z X EE (e::es) dA)(hN:X.N[i]?=some x:=by rfl)(hv:Vis X.env.scope x:=by walk_at "1")(hd:(x==("__debug__":Str))=false:=by decide)(hcd:(x==("__classdict__":Str))=false:=by decide)
  (hbase:attributeBase (.Name x p) "append" X.env (eval (.Name x p) X.env)=eval (.Name x p) X.env:=by rfl)
  (hfew:((backTo cpos (starEach (e::es) X.env)).all (fun x=>!x.1)&&(backToKw cpos (keywordEach [] X.env)).all (fun x=>x.1.isSome)&&decide ((e::es).length+([]:List Keyword).length+(if([]:List Keyword).isEmpty then 0 else 1)<30))=true:=by rfl)
  (hline:(apos.endLine==cpos.line)=true:=by rfl)(hs:starEach (e::es) X.env=(false,eval e X.env)::starEach es X.env:=by rfl)(hplain:(backTo cpos (starEach es X.env)).any (·.1)=false:=by rfl)
  (hsw:swapsWith (.Call (.Attribute (.Name x p) "append" apos) (e::es) [] cpos) none pos.line X.env=pure false:=by rfl):
  DS Z X EE (.Expr (.Call (.Attribute (.Name x p) "append" apos) (e::es) [] cpos) pos) (dApp i dA):=by
 refine PS.mono (q6j (y57 (pv i hN hv hd hcd) ha hbase hfew hline hs hplain) hsw) ?_;rintro D σ H ⟨G,e,rel,h⟩;unfold dApp at h;split at h
 ·rename_i b0 ws0 he0;obtain⟨a,xs,h1,h2,h3,h4,h5⟩:=rel.own he0;refine⟨.ref a,h1,.inl ⟨rfl,xs,SqL.of h2⟩,G,e,rel,(q04 h).imp (fun ws e1 h G1 vs H1 r1 s1 p1=>?_) fun _ _ h=>h⟩
  split at h
  ·rename_i w b ys he1;obtain⟨a',zs,g1,g2,g3,g4,g5⟩:=r1.own he1;rw[h1]at g1;cases g1;obtain⟨y,r,rfl,py,pr⟩:=p1;cases(show r=[]from pr);split at h
   ·rename_i hl;refine⟨a,zs,y,rfl,rfl,g2,by rw[g5.length,sizeLine_eq];exact hl,?_⟩;exact h G1 σ _ (r1.mut he1 h1 (g5.append (.one py))) s1
   ·exact h.elim
  ·exact h.elim
 ·exact h.elim
noncomputable def dPop(i:Nat):Den W:=fun e=>match e[i]? with
 |some (.own b ws)=>match ws[ws.length-1]? with
  |some w=>.ok w (e.set i (.own b ws.dropLast))
  |none=>.no
 |_=>.no
theorem y6g(i:Nat)(hN:X.N[i]?=some x:=by rfl)(hv:Vis X.env.scope x:=by walk_at "1")(hd:(x==("__debug__":Str))=false:=by decide)(hcd:(x==("__classdict__":Str))=false:=by decide)
  (hbase:attributeBase (.Name x p) "pop" X.env (eval (.Name x p) X.env)=eval (.Name x p) X.env:=by rfl)(hline:(apos.endLine==cpos.line)=true:=by rfl):DE Z X EE (.Call (.Attribute (.Name x p) "pop" apos) [] [] cpos) (dPop i):=by
 refine PE.mono (x6j PySem.F.plainAttrs_list PySem.F.slot_list_pop PySem.F.type_list_pop y54 (pv i hN hv hd hcd) hbase hline) ?_;rintro σ H Q ⟨G,e,rel,h⟩;unfold dPop at h;split at h
 ·rename_i b ws he;obtain⟨a,xs,h1,h2,h3,h4,h5⟩:=rel.own he;split at h
  ·rename_i w hw;obtain⟨y,hy,ry⟩:=h5.get hw;refine⟨.ref a,h1,.inl ⟨rfl,xs,SqL.of h2⟩,a,xs,y,rfl,rfl,h2,by rw[h5.length];exact hy,?_⟩;exact h G y _ (rel.mut he h1 h5.dropLast) (.refl _) ry
  ·exact h.elim
 ·exact h.elim
end
noncomputable def compD(c:Den Bool)(d:Den W)(pe:List S):List W->Option (List W)
 |[]=>some []
 |w::ws=>match c (.fr w::pe)with
  |.ok true e1=>match d e1 with
   |.ok y _=>(compD c d pe ws).map (y::·)
   |_=>none
  |.ok false _=>compD c d pe ws
  |_=>none
noncomputable def frz1(e:List S)(j:Nat):List S:=match e[j]? with
 |some (.own none ws)=>e.set j (.fr (.lst ws))
 |_=>e
noncomputable def frzs(js:List Nat)(e:List S):List S:=js.foldl frz1 e
noncomputable def pj1(e:List S)(j:Nat):S:=match e[j]? with
 |some (.fr w)=>.fr w
 |_=>.no
noncomputable def pjS(js:List Nat)(e:List S):List S:=js.map (pj1 e)
noncomputable def compK(js:List Nat)(c:Den Bool)(d:Den W)(ws:List W)(e1:List S):R (List W):=
 if ws.length<=16777216 then(match compD c d (pjS js (frzs js e1)) ws with
  |some out=>.ok out (frzs js e1)
  |none=>.no)else .no
noncomputable def dComp(js:List Nat)(di:Den W)(c:Den Bool)(d:Den W):Den (List W):=fun e=>(di e).bind fun w e1=>match seqW w with
 |some ws=>compK js c d ws e1
 |none=>.no
noncomputable def dCompR(g:List W->Option (List W))(js:List Nat)(di:Den (List W))(c:Den Bool)(d:Den W):Den (List W):=fun e=>(di e).bind fun w e1=>match g w with
 |some ws=>compK js c d ws e1
 |none=>.no
noncomputable def dYes:Den Bool:=fun e=>.ok true e
section
variable{H1:Hp}{e1:List S}
theorem Rel.frzs(r:Rel K Z G σ H e):∀(js:List Nat),∃G',Same G G'/\Rel K Z G' σ H (frzs js e):=by
 intro js
 induction js generalizing G e with
 |nil=>exact⟨G,.refl _,r⟩
 |cons j js ih=>
  have one:∃G',Same G G'/\Rel K Z G' σ H (frz1 e j):=by
   unfold frz1;split
   ·rename_i ws hw;obtain⟨v,G',_,s,_,r'⟩:=r.freeze hw;exact⟨G',s,r'⟩
   ·exact⟨G,.refl _,r⟩
  obtain⟨G1,s1,r1⟩:=one;obtain⟨G2,s2,r2⟩:=ih r1;exact⟨G2,s1.trans s2,r2⟩
theorem Rel.block(r:Rel K Z G σ H e)(js:List Nat){x:V}(p:Rep K G w x):Rel K ⟨H,G,[]⟩ G (some x::pj js σ) H (.fr w::pjS js e):=by
 have hfr:∀(i:Nat)(s:S),(S.fr w::pjS js e)[i]?=some s->s=.no\/∃u,s=.fr u/\((i=0/\u=w)\/∃k j,i=k+1/\js[k]?=some j/\e[j]?=some (.fr u)):=fun i s h=>by
  cases i with
  |zero=>cases h;exact .inr ⟨w,rfl,.inl ⟨rfl,rfl⟩⟩
  |succ k=>
   rw[w0h]at h;unfold pjS at h;rw[w0r]at h;obtain⟨j,h1,h2⟩:=w0f.mp h;unfold pj1 at h2;split at h2
   ·rename_i u hu;subst h2;exact .inr ⟨u,rfl,.inr ⟨k,j,rfl,h1,hu⟩⟩
   ·subst h2;exact .inl rfl
 refine⟨r.sub,fun i s h=>?_,?_,fun i j b b' w1 w2 a h1 h2 _ _=>?_,fun a o h _=>h,(fun a h=>nomatch h),fun a _=>rfl⟩
 ·rcases hfr i s h with rfl|⟨u,rfl,⟨rfl,rfl⟩|⟨k,j,rfl,h1,h2⟩⟩
  ·trivial
  ·exact⟨x,rfl,p⟩
  ·obtain⟨v,h3,h4⟩:=r.fr h2;refine⟨v,?_,h4⟩;rw[w0h];unfold pj;rw[w0r,h1];simp[h3]
 ·simp[pjS,pj]
 ·rcases hfr i _ h1 with z|⟨u,z,_⟩<;>cases z
theorem Rel.mutFree(r:Rel K Z G σ H e){o:HO}(hg:G a=none)(hz:Z.H a=none)(hi:a∉Z.io)(hf:Free σ e a){ls:List V}(hls:H a=some (.lst ls)):Rel K Z G σ (upd H a o) e:=by
 refine⟨fun c u z=>?_,fun j s z=>?_,r.len,r.dis,fun c u z n=>?_,fun c z=>?_,r.gen⟩
 ·rw[q0e (q0q z hg)];exact r.sub c u z
 ·have y:=r.slot j s z;cases s with
  |no=>trivial
  |fr w=>exact y
  |own b2 w2=>
   obtain⟨c,ys,y1,y2,y3,y4,y5⟩:=y;refine⟨c,ys,y1,?_,y3,y4,y5⟩;rw[q0e];exact y2;rintro rfl;obtain⟨c',_,z1,_⟩:=r.own z;rw[z1]at y1;cases y1;exact hf j b2 w2 z z1
  |dic kvs=>
   obtain⟨c,y1,y2,y3,y4⟩:=y;refine⟨c,y1,?_,y3,y4⟩;rw[q0e (q03 y2 hls (q5e rfl))];exact y2
  |thr us w2 vs=>
   obtain⟨t,l,o,xs2,ys,zs,y1,y2,y3,y4,y5,y6⟩:=y;refine⟨t,l,o,xs2,ys,zs,y1,y2,?_,y4,y5,y6⟩;rw[q0e (q03 y3 hls (fun z=>nomatch z))];exact y3
  |nest wss=>exact NestOk.move y (.refl _) fun l o ys k1 k2 k3=>⟨by rw[q0e (q03 k1 hls (fun z=>nomatch z))];exact k1,k2,k3⟩
  |x k=>exact XOk.move y (.refl _) fun l o ys k1 k2 k3=>⟨by rw[q0e (q03 k1 hls (fun z=>nomatch z))];exact k1,k2,k3⟩
  |dw sh ks ws=>exact DwOk.move y (.refl _) fun l o ys k1 k2 k3=>⟨by rw[q0e (q03 k1 hls (fun z=>nomatch z))];exact k1,k2,k3⟩
 ·rw[q0e (q0q z hz)];exact r.ent c u z n
 ·by_cases hc:c=a
  ·subst hc;exact absurd z hi
  ·rw[q0e hc];exact r.ion c z
structure Walk(J:It)(xs:List V)(SQ:Hp->Prop):Prop where
 go:∀i H,SQ H->i<xs.length->J.go i H
 yld:∀i H x H',SQ H->J.yld i H x H'->i<xs.length->H'=H/\xs[i]?=some x
 stop:∀i H,SQ H->xs.length<=i->J.stop i H
theorem x2d:Walk (Itl K a) xs (fun H=>SqL K H a xs):=
 ⟨fun i H q h=>⟨xs,xs[i],q,by simp[h]⟩,fun i H x H' q ⟨e,y⟩ h=>⟨e,y xs q⟩,fun i H q h=>⟨xs,q,h⟩⟩
theorem x2e:Walk (Itt K a) xs (fun H=>SqT K H a xs):=
 ⟨fun i H q h=>⟨xs,xs[i],q,by simp[h]⟩,fun i H x H' q ⟨e,y⟩ h=>⟨e,y xs q⟩,fun i H q h=>⟨xs,q,h⟩⟩
theorem y6h:Walk (Itr lo n) ((List.range n).map fun k=>V.int (lo+(k:Nat))) (fun _=>True):=
 ⟨fun i H q h=>show i<n by simpa using h,fun i H x H' q ⟨e,y⟩ h=>⟨e,by simp at h;simp[h,y]⟩,fun i H q h=>show n<=i by simpa using h⟩
theorem q94{J:It}{SQ:Hp->Prop}{out:List W}{Q:VK}{G0:Hp}(W0:Walk J xs SQ)(r1:Rel K Z G1 σ H1 e1)(s1:Same G0 G1)(rp:Reps K G1 ws xs)(hSQ:∀G' H',Same G1 G'->Same G' H'->SQ H')(hl:ws.length<=16777216)
  (hz:∀p,H1 p=none->p∉Z.io)(hc:compD c d (pjS js e1) ws=some out)
  (h:∀G' a xs H',Rel K Z G' σ H' e1->Same G0 G'->H' a=some (.lst xs)->G' a=none->Z.H a=none->Free σ e1 a->Reps K G' out xs->Q (.ref a) H'):
  ∀D,H1 D=none->∃W:Nat->Nat->Hp->Prop,(∃m,W 0 m (upd H1 D (.lst [])))/\∀i m H2,W i m H2 ->
   (J.stop i H2/\Q (.ref D) H2)\/(J.go i H2/\∀x H3,J.yld i H2 x H3->gName 0 x (List.replicate 1 none++pj js σ) H3 fun σ4 H4=>Kp (List.replicate 1 none++pj js σ) σ4/\(fun σ H Q=>∃Z',liftT K Z' (fun _=>E0) c σ H Q) σ4 H4 fun b H5=>
    if b=true then(fun σ H Q=>∃Z',AtG K Z' σ H fun G e=>(d e).holds (fun w e'=>∀G' v H',Rel K Z' G' σ H' e'->Same G G'->Rep K G' w v->Q v H') (XH K Z' (fun _=>E0) σ G)) σ4 H5 fun y H6=>∃ys,H6 D=some (.lst ys)/\ys.length<sizeLine/\∃m',m'<m/\W (i+1) m' (upd H6 D (.lst (ys++[y])))else ∃m',m'<m/\W (i+1) m' H5):=by
 intro D hD;have hlen:=rp.length
 refine⟨fun i m H2=>m=ws.length-i/\i<=ws.length/\∃G2 ys done rest,Rel K Z G2 σ H2 e1/\Same G1 G2/\H2 D=some (.lst ys)/\G2 D=none/\Reps K G2 done ys/\done.length<=i/\compD c d (pjS js e1) (ws.drop i)=some rest/\done++rest=out,
  ⟨ws.length,by omega,w1f _,G1,[],[],out,r1.grow (Grow.hid r1.sub hD _),.refl _,q0h,r1.sub.free hD,rfl,w0e _,hc,rfl⟩,?_⟩
 rintro i m H2 ⟨rfl,hi,G2,ys,done,rest,r2,s2,hd2,hg2,rp2,hdl,hc2,ho⟩;have hfree:Free σ e1 D:=q55 r1 hD;have hzh:Z.H D=none:=q5m r1 hD
 by_cases hlt:i<ws.length
 ·refine .inr ⟨W0.go i H2 (hSQ G2 H2 s2 r2.sub) (by omega),fun x H3 hy=>?_⟩
  obtain⟨rfl,hx⟩:=W0.yld i H2 x H3 (hSQ G2 H2 s2 r2.sub) hy (by omega);obtain⟨w,hw,pw⟩:=rp.getV hx;rw[q7j hw]at hc2;refine⟨Kp.one,⟨H3,G2,[]⟩,G2,.fr w::pjS js e1,r2.block js (Rep.mono s2 w pw),?_⟩;unfold compD at hc2;cases qc:c (.fr w::pjS js e1)with
  |no=>rw[qc]at hc2;cases hc2
  |ex _ _=>rw[qc]at hc2;cases hc2
  |ok k e2=>
   rw[qc]at hc2;intro G3 H5 r3 s3;have g3:=r3.toGrow s3;cases k with
   |false=>
    exact⟨ws.length-(i+1),by omega,rfl,hlt,G3,ys,done,rest,r2.grow g3,s2.trans s3,g3.hh _ _ hd2,by rw[g3.new D (by rw[hd2];simp)];exact hg2,Reps.mono s3 _ rp2,by omega,hc2,ho⟩
   |true=>
    refine⟨⟨H3,G2,[]⟩,G3,e2,r3,?_⟩;dsimp only at hc2;cases qd:d e2 with
    |no=>rw[qd]at hc2;cases hc2
    |ex _ _=>rw[qd]at hc2;cases hc2
    |ok y e3=>
     rw[qd]at hc2;intro G4 v H6 r4 s4 p4;have g4:=r4.toGrow (s3.trans s4);obtain⟨rest',hr,rfl⟩:=w0f.mp hc2;have hd6:H6 D=some (.lst ys):=g4.hh _ _ hd2;have hg6:G4 D=none:=by rw[g4.new D (by rw[hd2];simp)];exact hg2
     refine⟨ys,hd6,?_,ws.length-(i+1),by omega,rfl,hlt,G4,ys++[v],done++[y],rest',(r2.grow g4).mutFree hg6 hzh (hz D hD) hfree hd6,s2.trans (s3.trans s4),q0h,hg6,(Reps.mono (s3.trans s4) _ rp2).append (.one p4),by simp;omega,hr,by rw[w1z];exact ho⟩;rw[rp2.length,sizeLine_eq];omega
 ·have:i=ws.length:=by omega
  subst this;rw[w2l]at hc2;cases hc2;rw[w0x]at ho;subst ho;exact .inl ⟨W0.stop _ H2 (hSQ G2 H2 s2 r2.sub) (by omega),h G2 D ys H2 r2 (s1.trans s2) hd2 hg2 hzh hfree rp2⟩
end
section
variable{elt iter a b:Expr}{ifs:List Expr}{scope sc:Scope}{pt:Pos}{Nf N:List Str}{di:Den W}
def DTs(Z:Zt)(X:Cx)(EE:St->XK)(ifs:List Expr)(c:Den Bool):Prop:=PTs X ifs (liftT X.K Z EE c)
theorem q3d:DTs Z X EE [] dYes:=fun pins s σ H Q I ⟨G,e,r,h⟩=>y2q pins s σ H Q I (h G H r (.refl _))
def cT(K:PySem.W.Frag)(c:Den Bool):TT:=fun σ H Q=>∃Z',liftT K Z' (fun _=>E0) c σ H Q
def cE(K:PySem.W.Frag)(d:Den W):TE:=fun σ H Q=>∃Z',AtG K Z' σ H fun G e=>(d e).holds (fun w e'=>∀G' v H',Rel K Z' G' σ H' e'->Same G G'->Rep K G' w v->Q v H') (XH K Z' (fun _=>E0) σ G)
theorem x45{Y:List Str}(ht:∀Z' cl C s₀ H₀ ex,DTs Z' (X.cp Y scope cl C s₀ H₀ ex) (fun _=>E0) ifs c):∀cl C s₀ H₀ ex,PTs (X.cp Y scope cl C s₀ H₀ ex) ifs (cT X.K c):=fun cl C s₀ H₀ ex pins s σ H Q I ⟨Z',h⟩=>ht Z' cl C s₀ H₀ ex pins s σ H Q I h
theorem x46{Y:List Str}(he:∀Z' cl C s₀ H₀ ex,DE Z' (X.cp Y scope cl C s₀ H₀ ex) (fun _=>E0) elt d):∀cl C s₀ H₀ ex,PE (X.cp Y scope cl C s₀ H₀ ex) elt (cE X.K d):=fun cl C s₀ H₀ ex pins s σ H Q I ⟨Z',h⟩=>he Z' cl C s₀ H₀ ex pins s σ H Q I h
theorem ionone(r:Rel K Z G σ H e):∀p,H p=none->p∉Z.io:=fun p hp hi=>r.ion p hi hp
theorem x6z:∀σ H Q,liftF K Z EE (dComp js di c d) σ H Q->tComp (iSeq K (liftE K Z EE di)) 1 js (gName 0) (cT K c) (cE K d) σ H Q:=by
 rintro σ H Q ⟨G,e,rel,h⟩;simp only[dComp,R.holds_bind]at h;refine⟨G,e,rel,h.imp (fun w e1 h G1 v1 H1 r1 s1 p1=>?_) fun _ _ h=>h⟩
 split at h
 ·rename_i ws hw;unfold compK at h;split at h
  ·rename_i hl;split at h
   ·rename_i out ho;obtain⟨G2,s2,r2⟩:=r1.frzs js;have p2:=Rep.mono s2 w p1;have io:=ionone r2;cases w with
    |tup us=>
     cases hw;obtain⟨a,xs,rfl,hq,rp⟩:=p2;exact⟨a,rfl,.inr ⟨⟨xs,r2.sub.tup hq⟩,q94 x2e r2 (s1.trans s2) rp (fun G' H' s s'=>Same.tup s' (Same.tup s hq)) hl io ho h⟩⟩
    |lst us=>
     cases hw;obtain⟨a,xs,rfl,hq,rp⟩:=p2;exact⟨a,rfl,.inl ⟨⟨xs,r2.sub.seq hq⟩,q94 x2d r2 (s1.trans s2) rp (fun G' H' s s'=>Same.seq s' (Same.seq s hq)) hl io ho h⟩⟩
    |_=>cases hw
   ·exact h.elim
  ·exact h.elim
 ·exact h.elim
theorem x37(hc:X.calm=true)(hi:DE Z X EE iter di)(ok:compOk sc scope N Nf js=true)
  (ht:∀Z' cl C s₀ H₀ ex,DTs Z' (X.cp ([x]++Nf) scope cl C s₀ H₀ ex) (fun _=>E0) ifs c)(he:∀Z' cl C s₀ H₀ ex,DE Z' (X.cp ([x]++Nf) scope cl C s₀ H₀ ex) (fun _=>E0) elt d)
  (hg:∀cl C s₀ H₀ ex,PG (X.cp ([x]++Nf) scope cl C s₀ H₀ ex) (.Name x pt) (gName 0))
  (hsc:X.env.scope=sc:=by rfl)(hN:X.N=N:=by rfl)(hs:∀x,foldedSetIterable iter X.env x=pure x:=by intro _;rfl):
  DF Z X EE (.ListComp elt [⟨.Name x pt,iter,ifs,0⟩] scope pos) (dComp js di c d):=by
 exact PE.mono (q8l (Nl:=[x]) (tc:=cT X.K c) (te:=cE X.K d) hc (q9d hi) ok hg (x45 ht) (x46 he) hsc hN hs) x6z
theorem x47:∀σ H Q,liftF K Z EE (dCompR rng1 js dA c d) σ H Q->tComp (iRng1 (liftA K Z EE dA)) 1 js (gName 0) (cT K c) (cE K d) σ H Q:=by
 rintro σ H Q ⟨G,e,rel,h⟩;simp only[dCompR,R.holds_bind]at h;refine⟨G,e,rel,h.imp (fun ws e1 h G1 vs H1 r1 s1 p1=>?_) fun _ _ h=>h⟩
 unfold rng1 at h;split at h
 ·rename_i us hh;split at hh
  ·rename_i j;split at hh
   ·rename_i hj;cases hh;obtain⟨y,r,rfl,e1,e2⟩:=p1;cases(show y=V.int j from e1);cases(show r=[]from e2);refine⟨j,rfl,(q5n hj).1,(q5n hj).2,?_⟩;unfold compK at h;split at h
    ·rename_i hl;split at h
     ·rename_i out ho;obtain⟨G2,s2,r2⟩:=r1.frzs js;have z:=q94 (J:=Itr 0 (j-0).toNat) y6h r2 (s1.trans s2) (q9e (lo:=0) (hi:=j)) (fun _ _ _ _=>trivial) hl (ionone r2) ho h
      rwa [w4m]at z
     ·exact h.elim
    ·exact h.elim
   ·cases hh
  ·cases hh
 ·exact h.elim
theorem q8m(hc:X.calm=true)(hm:X.mg "range"=none)(ha:DA Z X EE [a] dA)(ok:compOk sc scope N Nf js=true)
  (ht:∀Z' cl C s₀ H₀ ex,DTs Z' (X.cp ([x]++Nf) scope cl C s₀ H₀ ex) (fun _=>E0) ifs c)(he:∀Z' cl C s₀ H₀ ex,DE Z' (X.cp ([x]++Nf) scope cl C s₀ H₀ ex) (fun _=>E0) elt d)
  (hg:∀cl C s₀ H₀ ex,PG (X.cp ([x]++Nf) scope cl C s₀ H₀ ex) (.Name x pt) (gName 0))
  (hgr:Gl X "range":=by rfl)(hs1:starEach [a] X.env=[(false,eval a X.env)]:=by rfl)(hsc:X.env.scope=sc:=by rfl)(hN:X.N=N:=by rfl)(hs:∀x,foldedSetIterable (.Call (.Name "range" p1) [a] [] p2) X.env x=pure x:=by intro _;rfl):
  DF Z X EE (.ListComp elt [⟨.Name x pt,.Call (.Name "range" p1) [a] [] p2,ifs,0⟩] scope pos) (dCompR rng1 js dA c d):=by
 exact PE.mono (q8l (Nl:=[x]) (tc:=cT X.K c) (te:=cE X.K d) hc (x0o hgr hm ha hs1) ok hg (x45 ht) (x46 he) hsc hN hs) x47
end
mutual
noncomputable def depW:W->Nat
 |.tup ws=>depWs ws+1
 |.lst ws=>depWs ws+1
 |_=>0
noncomputable def depWs:List W->Nat
 |[]=>0
 |w::ws=>max (depW w) (depWs ws)
end
section
variable{pins:List (Addr×Obj)}
mutual
theorem q95(I:Inv X pins σ H s)(sg:Same G H):∀(w:W){w':W}{v:V}{k:Bool},Rep X.K G w v->Rep X.K G w' v->eqW w w'=some k->k=true
 |.non,w',v,k,h,h',e=>by
  cases(show v=.non from h);cases w'<;>first|(cases e;done)|(cases h';cases e;rfl)|(exfalso;obtain⟨_,_,z,_⟩:=h';first|done|cases z)|(exfalso;obtain⟨_,z,_⟩:=h';first|done|cases z)
 |.bl b,w',v,k,h,h',e=>by
  cases(show v=.bl b from h);cases w'<;>first|(cases e;done)|(cases h';cases e;exact beq_self_eq_true _)|(exfalso;obtain⟨_,_,z,_⟩:=h';first|done|cases z)|(exfalso;obtain⟨_,z,_⟩:=h';first|done|cases z)
 |.int b,w',v,k,h,h',e=>by
  cases(show v=.int b from h);cases w'<;>first|(cases e;done)|(cases h';cases e;exact beq_self_eq_true _)|(exfalso;obtain⟨_,_,z,_⟩:=h';first|done|cases z)|(exfalso;obtain⟨_,z,_⟩:=h';first|done|cases z)
 |.str b,w',v,k,h,h',e=>by
  cases(show v=.str b from h);cases w'<;>first|(cases e;done)|(cases h';cases e;exact beq_self_eq_true _)|(exfalso;obtain⟨_,_,z,_⟩:=h';first|done|cases z)|(exfalso;obtain⟨_,z,_⟩:=h';first|done|cases z)
 |.tup ws,w',v,k,h,h',e=>by
  obtain⟨a,xs,rfl,q,r⟩:=h;cases w' with
  |tup ws'=>
   obtain⟨a',xs',z,q',r'⟩:=h';cases z;have:=I.tuple_inj (sg.tup q) (sg.tup q');subst this;exact q8n I sg ws r r' (e)
  |lst ws'=>
   obtain⟨a',xs',z,q',r'⟩:=h';cases z;obtain⟨its,_,p1,_⟩:=I.tuple (sg.tup q);obtain⟨its2,_,p2,_⟩:=I.list (sg.seq q');exact absurd rfl (SeqAt.ne_of_list_tuple p2.isList (show s.heap.IsTuple a _ from p1))
  |non=>cases h'
  |bl _=>cases h'
  |int _=>cases h'
  |str _=>cases h'
  |exc _=>cases e
  |dic _=>cases e
  |dw _ _ _ _=>cases e
  |fn _ _ _=>cases e
 |.lst ws,w',v,k,h,h',e=>by
  obtain⟨a,xs,rfl,q,r⟩:=h;cases w' with
  |lst ws'=>
   obtain⟨a',xs',z,q',r'⟩:=h';cases z;have:=I.list_inj (sg.seq q) (sg.seq q');subst this;exact q8n I sg ws r r' (e)
  |tup ws'=>
   obtain⟨a',xs',z,q',r'⟩:=h';cases z;obtain⟨its,_,p1,_⟩:=I.tuple (sg.tup q');obtain⟨its2,_,p2,_⟩:=I.list (sg.seq q);exact absurd rfl (SeqAt.ne_of_list_tuple p2.isList (show s.heap.IsTuple a _ from p1))
  |non=>cases h'
  |bl _=>cases h'
  |int _=>cases h'
  |str _=>cases h'
  |exc _=>cases e
  |dic _=>cases e
  |dw _ _ _ _=>cases e
  |fn _ _ _=>cases e
 |.exc c,w',v,k,h,h',e=>by cases w'<;>cases e
 |.dic c,w',v,k,h,h',e=>by cases w'<;>cases e
 |.dw _ _ _ _,w',v,k,h,h',e=>by cases w'<;>cases e
 |.fn _ _ _,w',v,k,h,h',e=>by cases w'<;>cases e
theorem q8n(I:Inv X pins σ H s)(sg:Same G H):∀(ws:List W){ws':List W}{vs:List V}{k:Bool},Reps X.K G ws vs->Reps X.K G ws' vs->eqWs ws ws'=some k->k=true
 |[],ws',vs,k,h,h',e=>by
  cases h;cases ws' with
  |nil=>cases e;rfl
  |cons _ _=>obtain⟨_,_,z,_⟩:=h';cases z
 |w::ws,ws',vs,k,h,h',e=>by
  obtain⟨x,r,rfl,h1,h2⟩:=h;cases ws' with
  |nil=>cases h'
  |cons w' ws'=>
   obtain⟨x',r',z,h1',h2'⟩:=h';cases z;have e:(match eqW w w',eqWs ws ws' with|some a,some b=>some (a&&b)|_,_=>none)=some k:=e;cases q1:eqW w w' with
   |none=>rw[q1]at e;cases e
   |some b1=>
    cases q2:eqWs ws ws' with
    |none=>rw[q1,q2]at e;cases e
    |some b2=>
     rw[q1,q2]at e;rw[q95 I sg w h1 h1' q1,q8n I sg ws h2 h2' q2]at e;cases e;rfl
end
theorem q46:∀{xs ys:List W}{b:Bool},eqWs xs ys=some b->(∀(j:Nat) x y,xs[j]?=some x->ys[j]?=some y->∃k,eqW x y=some k)/\b=((List.range (min xs.length ys.length)).all (fun j=>((eqW (xs.getD j .non) (ys.getD j .non)).getD false))&&xs.length==ys.length):=by
 intro xs
 induction xs with
 |nil=>
  intro ys b h;refine⟨fun j x y hx=>by simp at hx,?_⟩
  cases ys<;>(cases h;simp)
 |cons x xs ih=>
  intro ys b h;cases ys with
  |nil=>refine⟨fun j x y hx hy=>by simp at hy,?_⟩;cases h;simp
  |cons y ys=>
   have h:(match eqW x y,eqWs xs ys with|some a,some b=>some (a&&b)|_,_=>none)=some b:=h;cases q1:eqW x y with
   |none=>rw[q1]at h;cases h
   |some b1=>
    cases q2:eqWs xs ys with
    |none=>rw[q1,q2]at h;cases h
    |some b2=>
     rw[q1,q2]at h;cases h;obtain⟨h1,h2⟩:=ih q2;refine⟨fun j x' y' hx hy=>?_,?_⟩
     ·cases j with
      |zero=>simp at hx hy;subst hx hy;exact⟨_,q1⟩
      |succ j=>exact h1 j x' y' (by simpa using hx) (by simpa using hy)
     ·rw[h2];simp only[w1l,Nat.succ_min_succ,w3q,List.all_cons,List.all_map]
      have e0:(eqW ((x::xs).getD 0 .non) ((y::ys).getD 0 .non)).getD false=b1:=by
       show(eqW x y).getD false=b1;rw[q1];rfl
      rw[e0,Bool.and_assoc];congr 1;congr 1;simp
theorem q7m:∀{xs:List W}{j:Nat}{x:W},xs[j]?=some x->depW x<=depWs xs
 |[],_,_,h=>by simp at h
 |y::ys,0,x,h=>by simp at h;subst h;simp only[depWs];omega
 |y::ys,j+1,x,h=>by
  have:=q7m (xs:=ys) (j:=j) (by simpa using h);simp only[depWs];omega
theorem q75{xs:List α}{x d:α}(h:xs[j]?=some x):xs.getD j d=x:=by
 simp[List.getD,h]
theorem x2f(I:Inv X pins σ H s)(sg:Same G H){b:Bool}(hu:A.units<cLine)(n1:∀ws,w=.tup ws->∀ws',w'≠.tup ws')(n2:∀ws,w=.lst ws->∀ws',w'≠.lst ws')(h:Rep X.K G w v)(h':Rep X.K G w' v')(r:RelV v u)(r':RelV v' u')(e:eqW w w'=some b):SeqAt.RcAt A s u u' b:=by
 have tl:∀{ws:List W}{v:V}{u:Value},Rep X.K G (.lst ws) v->RelV v u->∃l items,u=.ref l/\s.heap.IsList l items:=fun h r=>by
  obtain⟨a,xs,rfl,q,_⟩:=h;cases r;obtain⟨its,_,p,_⟩:=I.list (sg.seq q);exact⟨a,_,rfl,p.isList⟩
 have tt:∀{ws:List W}{v:V}{u:Value},Rep X.K G (.tup ws) v->RelV v u->∃l items,u=.ref l/\s.heap.IsTuple l items:=fun h r=>by
  obtain⟨a,xs,rfl,q,_⟩:=h;cases r;obtain⟨its,_,p,_⟩:=I.tuple (sg.tup q);exact⟨a,_,rfl,p⟩
 have tn:∀{v:V}{u:Value},Rep X.K G .non v->RelV v u->u=.none:=fun h r=>by cases h;exact r
 have tb:∀{k:Bool}{v:V}{u:Value},Rep X.K G (.bl k) v->RelV v u->u=.bool k:=fun h r=>by cases h;exact r
 have ti:∀{k:Int}{v:V}{u:Value},Rep X.K G (.int k) v->RelV v u->∃t,u=.int k t:=fun h r=>by cases h;exact r
 have ts:∀{k:Str}{v:V}{u:Value},Rep X.K G (.str k) v->RelV v u->∃t,u=.str k t:=fun h r=>by cases h;exact r
 cases w with
 |non=>
  obtain rfl:=tn h r;cases w' with
  |non=>obtain rfl:=tn h' r';cases e;exact .none_none
  |bl k=>obtain rfl:=tb h' r';cases e;exact .none_bool k
  |int k=>obtain⟨t,rfl⟩:=ti h' r';cases e;exact .none_int k t
  |str k=>obtain⟨t,rfl⟩:=ts h' r';cases e;exact .none_str k t
  |tup k=>obtain⟨l,it,rfl,p⟩:=tt h' r';cases e;exact .none_tuple p hu
  |lst k=>obtain⟨l,it,rfl,p⟩:=tl h' r';cases e;exact .none_list p hu
  |exc k=>cases e
  |dic k=>cases e
  |dw _ _ _ _=>cases e
  |fn _ _ _=>cases e
 |bl j=>
  obtain rfl:=tb h r;cases w' with
  |non=>obtain rfl:=tn h' r';cases e;exact .bool_none j
  |bl k=>obtain rfl:=tb h' r';cases e;exact .bool_bool j k
  |int k=>obtain⟨t,rfl⟩:=ti h' r';cases e;exact .bool_int j k t
  |str k=>obtain⟨t,rfl⟩:=ts h' r';cases e;exact .bool_str j k t
  |tup k=>obtain⟨l,it,rfl,p⟩:=tt h' r';cases e;exact .bool_tuple j p hu
  |lst k=>obtain⟨l,it,rfl,p⟩:=tl h' r';cases e;exact .bool_list j p hu
  |exc k=>cases e
  |dic k=>cases e
  |dw _ _ _ _=>cases e
  |fn _ _ _=>cases e
 |int j=>
  obtain⟨t1,rfl⟩:=ti h r;cases w' with
  |non=>obtain rfl:=tn h' r';cases e;exact .int_none j t1
  |bl k=>obtain rfl:=tb h' r';cases e;exact .int_bool j t1 k
  |int k=>obtain⟨t,rfl⟩:=ti h' r';cases e;exact .int_int j t1 k t
  |str k=>obtain⟨t,rfl⟩:=ts h' r';cases e;exact .int_str j t1 k t
  |tup k=>obtain⟨l,it,rfl,p⟩:=tt h' r';cases e;exact .int_tuple j t1 p hu
  |lst k=>obtain⟨l,it,rfl,p⟩:=tl h' r';cases e;exact .int_list j t1 p hu
  |exc k=>cases e
  |dic k=>cases e
  |dw _ _ _ _=>cases e
  |fn _ _ _=>cases e
 |str j=>
  obtain⟨t1,rfl⟩:=ts h r;cases w' with
  |non=>obtain rfl:=tn h' r';cases e;exact .str_none j t1
  |bl k=>obtain rfl:=tb h' r';cases e;exact .str_bool j t1 k
  |int k=>obtain⟨t,rfl⟩:=ti h' r';cases e;exact .str_int j t1 k t
  |str k=>obtain⟨t,rfl⟩:=ts h' r';cases e;exact .str_str j t1 k t
  |tup k=>obtain⟨l,it,rfl,p⟩:=tt h' r';cases e;exact .str_tuple j t1 p hu
  |lst k=>obtain⟨l,it,rfl,p⟩:=tl h' r';cases e;exact .str_list j t1 p hu
  |exc k=>cases e
  |dic k=>cases e
  |dw _ _ _ _=>cases e
  |fn _ _ _=>cases e
 |tup j=>
  obtain⟨l1,it1,rfl,p1⟩:=tt h r;cases w' with
  |non=>obtain rfl:=tn h' r';cases e;exact .tuple_none p1 hu
  |bl k=>obtain rfl:=tb h' r';cases e;exact .tuple_bool k p1 hu
  |int k=>obtain⟨t,rfl⟩:=ti h' r';cases e;exact .tuple_int k t p1 hu
  |str k=>obtain⟨t,rfl⟩:=ts h' r';cases e;exact .tuple_str k t p1 hu
  |tup k=>exact absurd rfl (n1 j rfl k)
  |lst k=>obtain⟨l,it,rfl,p⟩:=tl h' r';cases e;exact .tuple_list p1 p hu
  |exc k=>cases e
  |dic k=>cases e
  |dw _ _ _ _=>cases e
  |fn _ _ _=>cases e
 |lst j=>
  obtain⟨l1,it1,rfl,p1⟩:=tl h r;cases w' with
  |non=>obtain rfl:=tn h' r';cases e;exact .list_none p1 hu
  |bl k=>obtain rfl:=tb h' r';cases e;exact .list_bool k p1 hu
  |int k=>obtain⟨t,rfl⟩:=ti h' r';cases e;exact .list_int k t p1 hu
  |str k=>obtain⟨t,rfl⟩:=ts h' r';cases e;exact .list_str k t p1 hu
  |lst k=>exact absurd rfl (n2 j rfl k)
  |tup k=>obtain⟨l,it,rfl,p⟩:=tt h' r';cases e;exact .list_tuple p1 p hu
  |exc k=>cases e
  |dic k=>cases e
  |dw _ _ _ _=>cases e
  |fn _ _ _=>cases e
 |exc j=>cases w'<;>cases e
 |dic j=>cases w'<;>cases e
 |dw _ _ _ _=>cases w'<;>cases e
 |fn _ _ _=>cases w'<;>cases e
theorem x38(I:Inv X pins σ H s)(sg:Same G H){b:Bool}(hd:depW w<=0)(hu:A.units<cLine)(h:Rep X.K G w v)(h':Rep X.K G w' v')(r:RelV v u)(r':RelV v' u')(e:eqW w w'=some b):SeqAt.RcAt A s u u' b:=
 x2f I sg hu (fun ws z=>by subst z;simp[depW]at hd) (fun ws z=>by subst z;simp[depW]at hd) h h' r r' e
theorem x2g(h:Rep K G w v):∀x,v≠.flt x:=fun x z=>by
 subst z;cases w with
 |tup ws=>obtain⟨_,_,z,_⟩:=h;cases z
 |lst ws=>obtain⟨_,_,z,_⟩:=h;cases z
 |exc c=>obtain⟨_,z,_⟩:=h;cases z
 |dic c=>obtain⟨_,z,_⟩:=h;cases z
 |dw _ _ _ _=>obtain⟨_,_,_,z,_⟩:=h;cases z
 |fn _ _ _=>obtain⟨_,_,_,_,z,_⟩:=h;cases z
 |_=>cases h
theorem x2h{b:Bool}(rv:RelV v u)(hf:∀x,v≠.flt x)(h:SeqAt.RcAt A s u u' b)(hs:u=u'->b=true):SeqAt.EqAt A s u u' b:=fun prog w E Q hq=>by
 unfold eqBool;refine wpAny_holding ?_;refine wpAny_ite_split (fun hab=>?_) (fun _=>?_)
 ·have hb:=hs (eq_of_beq hab);subst hb;exact wpAny_bind (wpAny_rule (wpAny_pure hq))
 ·have z:=wpAny_bind (h prog w E (fun a s'=>wpAny (model prog w) A (truthOfDropped a) Q E s') (wpAny_truthy_bool hq))
  cases v with
  |flt x=>exact absurd rfl (hf x)
  |non=>cases rv;exact z
  |bl _=>cases rv;exact z
  |int _=>obtain⟨t,rfl⟩:=rv;exact z
  |str _=>obtain⟨t,rfl⟩:=rv;exact z
  |byt _=>obtain⟨t,rfl⟩:=rv;exact z
  |ref _=>cases rv;exact z
  |ty _=>cases rv;exact z
theorem y1y(I:Inv X pins σ H s)(sg:Same G H):∀(n:Nat){w w':W}{v v':V}{u u':Value}{b:Bool}{A:Around},depW w<=n->A.units+n<cLine->Rep X.K G w v->Rep X.K G w' v'->RelV v u->RelV v' u'->eqW w w'=some b->SeqAt.RcAt A s u u' b:=by
 intro n
 induction n with
 |zero=>
  intro w w' v v' u u' b A hd hu h h' r r' e;exact x38 I sg hd (by omega) h h' r r' e
 |succ n ih=>
  intro w w' v v' u u' b A hd hu h h' r r' e
  have items:∀{ws ws':List W}{xs xs':List V}{its its':List Value}{k:Bool},depWs ws<=n->Reps X.K G ws xs->Reps X.K G ws' xs'->Vals xs its->Vals xs' its'->eqWs ws ws'=some k ->
    ∀j (h1:j<its.toArray.size) (h2:j<its'.toArray.size),SeqAt.EqAt A.in1 s its.toArray[j] its'.toArray[j] ((eqW (ws.getD j .non) (ws'.getD j .non)).getD false):=by
   intro ws ws' xs xs' its its' k hd r1 r2 v1 v2 he j h1 h2;have l1:=r1.length;have l2:=r2.length;have m1:=v1.length;have m2:=v2.length;have i1:j<xs.length:=by rw[m1];simpa using h1
   have i2:j<xs'.length:=by rw[m2];simpa using h2
   obtain⟨u1,e1,ru1⟩:=v1.get (w0d i1);obtain⟨u2,e2,ru2⟩:=v2.get (w0d i2);obtain⟨w1,f1,p1⟩:=r1.getV (w0d i1);obtain⟨w2,f2,p2⟩:=r2.getV (w0d i2);obtain⟨b',hb'⟩:=(q46 he).1 j w1 w2 f1 f2;rw[q75 f1,q75 f2,hb']
   have g1:its.toArray[j]=u1:=by
    obtain⟨_,z⟩:=w0b.mp e1
    simpa using z
   have g2:its'.toArray[j]=u2:=by
    obtain⟨_,z⟩:=w0b.mp e2
    simpa using z
   rw[g1,g2];have hdw:depW w1<=n:=w0w (q7m f1) hd
   have hun:A.in1.units+n<cLine:=by
    have:A.in1.units=A.units+1:=rfl;omega
   refine x2h ru1 (x2g p1) (ih hdw hun p1 p2 ru1 ru2 hb') fun z=>?_
   subst z;have:=ru1.inj ru2;rw[this]at p1;exact q95 I sg w1 p1 p2 hb'
  cases w with
  |tup ws=>
   cases w' with
   |tup ws'=>
    obtain⟨a,xs,rfl,q1,r1⟩:=h;obtain⟨a',xs',rfl,q2,r2⟩:=h';cases r;cases r';obtain⟨its,v1,p1,_⟩:=I.tuple (sg.tup q1);obtain⟨its',v2,p2,_⟩:=I.tuple (sg.tup q2);have e:eqWs ws ws'=some b:=e;have z:=SeqAt.RcAt.tuples (show s.heap.IsTuple a _ from p1) (show s.heap.IsTuple a' _ from p2) (show A.units<cLine by omega) (items (by simp only[depW]at hd;omega) r1 r2 v1 v2 e);have l1:=r1.length;have l2:=r2.length;have m1:=v1.length;have m2:=v2.length;have eb:=(q46 e).2;have n1:its.length=ws.length:=by omega
    have n2:its'.length=ws'.length:=by omega
    rw[eb];simp only[w0c,n1,n2]at z;exact z
   |_=>exact x2f I sg (by omega) (by intro ws';simp) (by intro ws';simp) h h' r r' e
  |lst ws=>
   cases w' with
   |lst ws'=>
    obtain⟨a,xs,rfl,q1,r1⟩:=h;obtain⟨a',xs',rfl,q2,r2⟩:=h';cases r;cases r';obtain⟨its,v1,p1,_⟩:=I.list (sg.seq q1);obtain⟨its',v2,p2,_⟩:=I.list (sg.seq q2);have e:eqWs ws ws'=some b:=e;have l1:=r1.length;have l2:=r2.length;have m1:=v1.length;have m2:=v2.length;have eb:=(q46 e).2;have n1:its.length=ws.length:=by omega
    have n2:its'.length=ws'.length:=by omega
    by_cases hl:ws.length=ws'.length
    ·have z:=SeqAt.RcAt.lists p1.isList p2.isList (by simp only[w0c];omega) (show A.units<cLine by omega) (items (by simp only[depW]at hd;omega) r1 r2 v1 v2 e);rw[eb,hl];simp only[w0c,n1,hl,Nat.min_self,beq_self_eq_true,Bool.and_true]at z |-
     exact z
    ·have z:=SeqAt.RcAt.lists_lengths (A:=A) p1.isList p2.isList (by simp only[w0c,bne_iff_ne];omega) (show A.units<cLine by omega)
     have:b=false:=by
      rw[eb];have:(ws.length==ws'.length)=false:=by simp[hl]
      rw[this,w4a]
     rw[this];exact z
   |_=>exact x2f I sg (by omega) (by intro ws';simp) (by intro ws';simp) h h' r r' e
  |_=>exact x38 I sg (by simp[depW]) (by omega) h h' r r' e
theorem q8o(I:Inv X pins σ H s)(sg:Same G H){b:Bool}(hu:A.units<cLine)(n1:∀ws,w=.tup ws->∀ws',w'≠.tup ws')(n2:∀ws,w=.lst ws->∀ws',w'≠.lst ws')(h:Rep X.K G w v)(h':Rep X.K G w' v')(r:RelV v u)(r':RelV v' u')(e:eqW w w'=some b):SeqAt.RcNeAt A s u u' (!b):=by
 have tl:∀{ws:List W}{v:V}{u:Value},Rep X.K G (.lst ws) v->RelV v u->∃l items,u=.ref l/\s.heap.IsList l items:=fun h r=>by
  obtain⟨a,xs,rfl,q,_⟩:=h;cases r;obtain⟨its,_,p,_⟩:=I.list (sg.seq q);exact⟨a,_,rfl,p.isList⟩
 have tt:∀{ws:List W}{v:V}{u:Value},Rep X.K G (.tup ws) v->RelV v u->∃l items,u=.ref l/\s.heap.IsTuple l items:=fun h r=>by
  obtain⟨a,xs,rfl,q,_⟩:=h;cases r;obtain⟨its,_,p,_⟩:=I.tuple (sg.tup q);exact⟨a,_,rfl,p⟩
 have tn:∀{v:V}{u:Value},Rep X.K G .non v->RelV v u->u=.none:=fun h r=>by cases h;exact r
 have tb:∀{k:Bool}{v:V}{u:Value},Rep X.K G (.bl k) v->RelV v u->u=.bool k:=fun h r=>by cases h;exact r
 have ti:∀{k:Int}{v:V}{u:Value},Rep X.K G (.int k) v->RelV v u->∃t,u=.int k t:=fun h r=>by cases h;exact r
 have ts:∀{k:Str}{v:V}{u:Value},Rep X.K G (.str k) v->RelV v u->∃t,u=.str k t:=fun h r=>by cases h;exact r
 cases w with
 |non=>
  obtain rfl:=tn h r;cases w' with
  |non=>obtain rfl:=tn h' r';cases e;exact .none_none
  |bl k=>obtain rfl:=tb h' r';cases e;exact .none_bool k
  |int k=>obtain⟨t,rfl⟩:=ti h' r';cases e;exact .none_int k t
  |str k=>obtain⟨t,rfl⟩:=ts h' r';cases e;exact .none_str k t
  |tup k=>obtain⟨l,it,rfl,p⟩:=tt h' r';cases e;exact .none_tuple p hu
  |lst k=>obtain⟨l,it,rfl,p⟩:=tl h' r';cases e;exact .none_list p hu
  |exc k=>cases e
  |dic k=>cases e
  |dw _ _ _ _=>cases e
  |fn _ _ _=>cases e
 |bl j=>
  obtain rfl:=tb h r;cases w' with
  |non=>obtain rfl:=tn h' r';cases e;exact .bool_none j
  |bl k=>obtain rfl:=tb h' r';cases e;exact .bool_bool j k
  |int k=>obtain⟨t,rfl⟩:=ti h' r';cases e;exact .bool_int j k t
  |str k=>obtain⟨t,rfl⟩:=ts h' r';cases e;exact .bool_str j k t
  |tup k=>obtain⟨l,it,rfl,p⟩:=tt h' r';cases e;exact .bool_tuple j p hu
  |lst k=>obtain⟨l,it,rfl,p⟩:=tl h' r';cases e;exact .bool_list j p hu
  |exc k=>cases e
  |dic k=>cases e
  |dw _ _ _ _=>cases e
  |fn _ _ _=>cases e
 |int j=>
  obtain⟨t1,rfl⟩:=ti h r;cases w' with
  |non=>obtain rfl:=tn h' r';cases e;exact .int_none j t1
  |bl k=>obtain rfl:=tb h' r';cases e;exact .int_bool j t1 k
  |int k=>obtain⟨t,rfl⟩:=ti h' r';cases e;exact .int_int j t1 k t
  |str k=>obtain⟨t,rfl⟩:=ts h' r';cases e;exact .int_str j t1 k t
  |tup k=>obtain⟨l,it,rfl,p⟩:=tt h' r';cases e;exact .int_tuple j t1 p hu
  |lst k=>obtain⟨l,it,rfl,p⟩:=tl h' r';cases e;exact .int_list j t1 p hu
  |exc k=>cases e
  |dic k=>cases e
  |dw _ _ _ _=>cases e
  |fn _ _ _=>cases e
 |str j=>
  obtain⟨t1,rfl⟩:=ts h r;cases w' with
  |non=>obtain rfl:=tn h' r';cases e;exact .str_none j t1
  |bl k=>obtain rfl:=tb h' r';cases e;exact .str_bool j t1 k
  |int k=>obtain⟨t,rfl⟩:=ti h' r';cases e;exact .str_int j t1 k t
  |str k=>obtain⟨t,rfl⟩:=ts h' r';cases e;exact .str_str j t1 k t
  |tup k=>obtain⟨l,it,rfl,p⟩:=tt h' r';cases e;exact .str_tuple j t1 p hu
  |lst k=>obtain⟨l,it,rfl,p⟩:=tl h' r';cases e;exact .str_list j t1 p hu
  |exc k=>cases e
  |dic k=>cases e
  |dw _ _ _ _=>cases e
  |fn _ _ _=>cases e
 |tup j=>
  obtain⟨l1,it1,rfl,p1⟩:=tt h r;cases w' with
  |non=>obtain rfl:=tn h' r';cases e;exact .tuple_none p1 hu
  |bl k=>obtain rfl:=tb h' r';cases e;exact .tuple_bool k p1 hu
  |int k=>obtain⟨t,rfl⟩:=ti h' r';cases e;exact .tuple_int k t p1 hu
  |str k=>obtain⟨t,rfl⟩:=ts h' r';cases e;exact .tuple_str k t p1 hu
  |tup k=>exact absurd rfl (n1 j rfl k)
  |lst k=>obtain⟨l,it,rfl,p⟩:=tl h' r';cases e;exact .tuple_list p1 p hu
  |exc k=>cases e
  |dic k=>cases e
  |dw _ _ _ _=>cases e
  |fn _ _ _=>cases e
 |lst j=>
  obtain⟨l1,it1,rfl,p1⟩:=tl h r;cases w' with
  |non=>obtain rfl:=tn h' r';cases e;exact .list_none p1 hu
  |bl k=>obtain rfl:=tb h' r';cases e;exact .list_bool k p1 hu
  |int k=>obtain⟨t,rfl⟩:=ti h' r';cases e;exact .list_int k t p1 hu
  |str k=>obtain⟨t,rfl⟩:=ts h' r';cases e;exact .list_str k t p1 hu
  |lst k=>exact absurd rfl (n2 j rfl k)
  |tup k=>obtain⟨l,it,rfl,p⟩:=tt h' r';cases e;exact .list_tuple p1 p hu
  |exc k=>cases e
  |dic k=>cases e
  |dw _ _ _ _=>cases e
  |fn _ _ _=>cases e
 |exc j=>cases w'<;>cases e
 |dic j=>cases w'<;>cases e
 |dw _ _ _ _=>cases w'<;>cases e
 |fn _ _ _=>cases w'<;>cases e
theorem x60(I:Inv X pins σ H s)(sg:Same G H){b:Bool}(hd:depW w<=0)(hu:A.units<cLine)(h:Rep X.K G w v)(h':Rep X.K G w' v')(r:RelV v u)(r':RelV v' u')(e:eqW w w'=some b):SeqAt.RcNeAt A s u u' (!b):=
 q8o I sg hu (fun ws z=>by subst z;simp[depW]at hd) (fun ws z=>by subst z;simp[depW]at hd) h h' r r' e
theorem x2i(I:Inv X pins σ H s)(sg:Same G H)(hu:A.units+(n+1)<cLine){ws':List W}{xs':List V}{its its':List Value}{k:Bool}(hd:depWs ws<=n)(r1:Reps X.K G ws xs)(r2:Reps X.K G ws' xs')(v1:Vals xs its)(v2:Vals xs' its')(he:eqWs ws ws'=some k):
  ∀j (h1:j<its.toArray.size) (h2:j<its'.toArray.size),SeqAt.EqAt A.in1 s its.toArray[j] its'.toArray[j] ((eqW (ws.getD j .non) (ws'.getD j .non)).getD false):=by
 intro j h1 h2;have l1:=r1.length;have l2:=r2.length;have m1:=v1.length;have m2:=v2.length;have i1:j<xs.length:=by rw[m1];simpa using h1
 have i2:j<xs'.length:=by rw[m2];simpa using h2
 obtain⟨u1,e1,ru1⟩:=v1.get (w0d i1);obtain⟨u2,e2,ru2⟩:=v2.get (w0d i2);obtain⟨w1,f1,p1⟩:=r1.getV (w0d i1);obtain⟨w2,f2,p2⟩:=r2.getV (w0d i2);obtain⟨b',hb'⟩:=(q46 he).1 j w1 w2 f1 f2;rw[q75 f1,q75 f2,hb']
 have g1:its.toArray[j]=u1:=by
  obtain⟨_,z⟩:=w0b.mp e1
  simpa using z
 have g2:its'.toArray[j]=u2:=by
  obtain⟨_,z⟩:=w0b.mp e2
  simpa using z
 rw[g1,g2];have hdw:depW w1<=n:=w0w (q7m f1) hd
 have hun:A.in1.units+n<cLine:=by
  have:A.in1.units=A.units+1:=rfl;omega
 refine x2h ru1 (x2g p1) (y1y I sg n hdw hun p1 p2 ru1 ru2 hb') fun z=>?_
 subst z;have:=ru1.inj ru2;rw[this]at p1;exact q95 I sg w1 p1 p2 hb'
theorem y22(I:Inv X pins σ H s)(sg:Same G H)(n:Nat){b:Bool}(hd:depW w<=n+1)(hu:A.units+(n+1)<cLine)(h:Rep X.K G w v)(h':Rep X.K G w' v')(r:RelV v u)(r':RelV v' u')(e:eqW w w'=some b):SeqAt.RcNeAt A s u u' (!b):=by
 cases w with
 |tup ws=>
  cases w' with
  |tup ws'=>
   obtain⟨a,xs,rfl,q1,r1⟩:=h;obtain⟨a',xs',rfl,q2,r2⟩:=h';cases r;cases r';obtain⟨its,v1,p1,_⟩:=I.tuple (sg.tup q1);obtain⟨its',v2,p2,_⟩:=I.tuple (sg.tup q2);have e:eqWs ws ws'=some b:=e;have z:=SeqAt.RcNeAt.tuples (show s.heap.IsTuple a _ from p1) (show s.heap.IsTuple a' _ from p2) (show A.units<cLine by omega) (x2i I sg hu (by simp only[depW]at hd;omega) r1 r2 v1 v2 e);have l1:=r1.length;have l2:=r2.length;have m1:=v1.length;have m2:=v2.length;have eb:=(q46 e).2;have n1:its.length=ws.length:=by omega
   have n2:its'.length=ws'.length:=by omega
   rw[eb];simp only[w0c,n1,n2]at z;exact z
  |_=>exact q8o I sg (by omega) (by intro ws';simp) (by intro ws';simp) h h' r r' e
 |lst ws=>
  cases w' with
  |lst ws'=>
   obtain⟨a,xs,rfl,q1,r1⟩:=h;obtain⟨a',xs',rfl,q2,r2⟩:=h';cases r;cases r';obtain⟨its,v1,p1,_⟩:=I.list (sg.seq q1);obtain⟨its',v2,p2,_⟩:=I.list (sg.seq q2);have e:eqWs ws ws'=some b:=e;have l1:=r1.length;have l2:=r2.length;have m1:=v1.length;have m2:=v2.length;have eb:=(q46 e).2;have n1:its.length=ws.length:=by omega
   have n2:its'.length=ws'.length:=by omega
   by_cases hl:ws.length=ws'.length
   ·have z:=SeqAt.RcNeAt.lists p1.isList p2.isList (by simp only[w0c];omega) (show A.units<cLine by omega) (x2i I sg hu (by simp only[depW]at hd;omega) r1 r2 v1 v2 e);rw[eb,hl];simp only[w0c,n1,hl,Nat.min_self,beq_self_eq_true,Bool.and_true]at z |-
    exact z
   ·have z:=SeqAt.RcNeAt.lists_lengths (A:=A) p1.isList p2.isList (by simp only[w0c,bne_iff_ne];omega) (show A.units<cLine by omega)
    have:b=false:=by
     rw[eb];have:(ws.length==ws'.length)=false:=by simp[hl]
     rw[this,w4a]
    rw[this];exact z
  |_=>exact q8o I sg (by omega) (by intro ws';simp) (by intro ws';simp) h h' r r' e
 |_=>exact x60 I sg (by simp[depW]) (by omega) h h' r r' e
noncomputable def eq2(x y:W):Option W:=if depW x<=150 then(eqW x y).map .bl else none
def rEqD(K:PySem.W.Frag):R2:=fun x y H Q=>∃G wx wy b,Same G H/\depW wx<=150/\Rep K G wx x/\Rep K G wy y/\eqW wx wy=some b/\Q (.bl b) H
theorem x61(hu:X.A.units+150<cLine):OpR X (compareOp .Eq) (rEqD X.K):=by
 intro pins s σ H x y v u Q I rx ry h;obtain⟨G,wx,wy,b,sg,hd,hx,hy,e,q⟩:=h;exact y1y I sg 150 hd hu hx hy rx ry e _ _ _ _ ⟨.bl b,H,I,rfl,q⟩
theorem y1z:Op2 K (rEqD K) eq2:=by
 intro G H x y wx wy w Q s px py hf h;unfold eq2 at hf;split at hf
 ·rename_i hd;obtain⟨b,hb,rfl⟩:=w0f.mp hf;exact⟨G,wx,wy,b,s,hd,px,py,hb,h G _ H (.refl s) rfl⟩
 ·cases hf
noncomputable def ne2(x y:W):Option W:=if depW x<=150 then(eqW x y).map fun b=>.bl (!b)else none
def rNeD(K:PySem.W.Frag):R2:=fun x y H Q=>∃G wx wy b,Same G H/\depW wx<=150/\Rep K G wx x/\Rep K G wy y/\eqW wx wy=some b/\Q (.bl (!b)) H
theorem x62(hu:X.A.units+150<cLine):OpR X (compareOp .NotEq) (rNeD X.K):=by
 intro pins s σ H x y v u Q I rx ry h;obtain⟨G,wx,wy,b,sg,hd,hx,hy,e,q⟩:=h;exact y22 I sg 149 hd hu hx hy rx ry e _ _ _ _ ⟨.bl (!b),H,I,rfl,q⟩
theorem y11:Op2 K (rNeD K) ne2:=by
 intro G H x y wx wy w Q s px py hf h;unfold ne2 at hf;split at hf
 ·rename_i hd;obtain⟨b,hb,rfl⟩:=w0f.mp hf;exact⟨G,wx,wy,b,s,hd,px,py,hb,h G _ H (.refl s) rfl⟩
 ·cases hf
end
section
variable{a b c e:Expr}{p:Pos}
theorem q9f(ha:DE Z X EE a da)(hb:DE Z X EE b db):DE Z X EE (.BinOp a .Sub b pos) (dOp subW da db):=q72 y5u y6b ha hb
theorem q7n(ha:DE Z X EE a da)(hb:DE Z X EE b db):DE Z X EE (.BinOp a .Mult b pos) (dOp mulW da db):=q72 y5v y6c ha hb
theorem q1a(ha:DE Z X EE a da)(hb:DE Z X EE b db):DE Z X EE (.BinOp a .FloorDiv b pos) (dOp fdivW da db):=q72 y2i y21 ha hb
theorem q0v(ha:DE Z X EE a da)(hb:DE Z X EE b db):DE Z X EE (.BinOp a .Mod b pos) (dOp modW da db):=q72 y5w y6d ha hb
theorem y6i(ha:DE Z X EE a da)(hb:DE Z X EE b db):DE Z X EE (.BinOp a .Pow b pos) (dOp powW da db):=q72 y5x y6e ha hb
theorem y8w(ha:DE Z X EE a da)(hb:DE Z X EE b db):DE Z X EE (.Compare a [.Lt] [b] pos) (dOp ltW da db):=q7h y1p y1u ha hb (nomark _)
theorem y12(ha:DE Z X EE a da)(hb:DE Z X EE b db):DE Z X EE (.Compare a [.Gt] [b] pos) (dOp gtW da db):=q7h y1q y1v ha hb (nomark _)
theorem y8x(ha:DE Z X EE a da)(hb:DE Z X EE b db):DE Z X EE (.Compare a [.GtE] [b] pos) (dOp geW da db):=q7h y1r y1w ha hb (nomark _)
theorem q3j(hu:X.A.units+150<cLine)(ha:DE Z X EE a da)(hb:DE Z X EE b db):DE Z X EE (.Compare a [.Eq] [b] pos) (dOp eq2 da db):=q7h (x61 hu) y1z ha hb (nomark _)
theorem y8y(hu:X.A.units+150<cLine)(ha:DE Z X EE a da)(hb:DE Z X EE b db):DE Z X EE (.Compare a [.NotEq] [b] pos) (dOp ne2 da db):=q7h (x62 hu) y11 ha hb (nomark _)
theorem q6z(ha:DE Z X EE a da)(hb:DE Z X EE b db):DT Z X EE (.Compare a [.Lt] [b] pos) (dTest (dOp ltW da db)):=q7i y1p y1u ha hb (nomark _)
theorem q9g(ha:DE Z X EE a da)(hb:DE Z X EE b db):DT Z X EE (.Compare a [.Gt] [b] pos) (dTest (dOp gtW da db)):=q7i y1q y1v ha hb (nomark _)
theorem y8z(ha:DE Z X EE a da)(hb:DE Z X EE b db):DT Z X EE (.Compare a [.GtE] [b] pos) (dTest (dOp geW da db)):=q7i y1r y1w ha hb (nomark _)
theorem q1i(hu:X.A.units+150<cLine)(ha:DE Z X EE a da)(hb:DE Z X EE b db):DT Z X EE (.Compare a [.Eq] [b] pos) (dTest (dOp eq2 da db)):=q7i (x61 hu) y1z ha hb (nomark _)
theorem q9h(hu:X.A.units+150<cLine)(ha:DE Z X EE a da)(hb:DE Z X EE b db):DT Z X EE (.Compare a [.NotEq] [b] pos) (dTest (dOp ne2 da db)):=q7i (x62 hu) y11 ha hb (nomark _)
theorem q0n(h:Room k A):A.units+150<cLine:=by have:=h.un;omega
theorem q60(h:RoomH k A):A.units+150<cLine:=by have:=h.un;omega
noncomputable def cutW(xs:List W)(lo hi:Option Int):List W:=(xs.drop (HT.sIx xs.length 0 lo)).take (HT.sIx xs.length xs.length hi-HT.sIx xs.length 0 lo)
theorem Reps.cut(r:Reps K G ws xs)(lo hi:Option Int):Reps K G (cutW ws lo hi) (cutV xs lo hi):=by
 unfold cutW cutV;rw[r.length];exact(r.drop _).take _
def DO(Z:Zt)(X:Cx)(EE:St->XK)(e:Option Expr)(d:Den (Option Int)):Prop:=PO X e (fun σ H Q=>∃G e,Rel X.K Z G σ H e/\(d e).holds (fun o e'=>∀G' H',Rel X.K Z G' σ H' e'->Same G G'->Q o H') (XH X.K Z EE σ G))
noncomputable def dNoPart:Den (Option Int):=fun e=>.ok none e
noncomputable def dPart(d:Den W):Den (Option Int):=fun e=>(d e).bind fun w e1=>match w with
 |.int i=>.ok (some i) e1
 |_=>.no
theorem PO.mono{e:Option Expr}{t t':TO}(h:PO X e t)(i:∀σ H Q,t' σ H Q->t σ H Q):PO X e t':=fun pins s σ H Q I q=>h pins s σ H Q I (i σ H Q q)
theorem x39:DO Z X EE none dNoPart:=PO.mono y2l fun σ H Q ⟨G,e,r,h⟩=>h G H r (.refl _)
theorem x4a(h:DE Z X EE e da):DO Z X EE (some e) (dPart da):=by
 refine PO.mono (y2m h) ?_;rintro σ H Q ⟨G,e,rel,h⟩;simp only[dPart,R.holds_bind]at h;refine⟨G,e,rel,h.imp (fun x e1 h G1 v1 H1 r1 s1 p1=>?_) fun _ _ h=>h⟩
 cases x with
 |int i=>cases(show v1=V.int i from p1);exact⟨i,rfl,h G1 H1 r1 s1⟩
 |_=>exact h.elim
noncomputable def slW:W->Option Int->Option Int->Option W
 |.lst ws,lo,hi=>some (.lst (cutW ws lo hi))
 |.tup ws,lo,hi=>if ¬(HT.sIx ws.length 0 lo=0/\HT.sIx ws.length ws.length hi=ws.length)then some (.tup (cutW ws lo hi))else none
 |_,_,_=>none
noncomputable def dSl(d:Den W)(dl dh:Den (Option Int)):Den W:=fun e=>(d e).bind fun w e1=>(dl e1).bind fun lo e2=>(dh e2).bind fun hi e3=>ofOpt (slW w lo hi) e3
theorem x2j{lo hi:Option Expr}{dl dh:Den (Option Int)}(he:DE Z X EE e da)(hl:DO Z X EE lo dl)(hh:DO Z X EE hi dh):DE Z X EE (.Subscript e (.Slice lo hi none p2) pos) (dSl da dl dh):=by
 refine PE.mono (x88 (sl_list.or y52) he hl hh) ?_;rintro σ H Q ⟨G,e,rel,h⟩;simp only[dSl,R.holds_bind,ofOpt_holds]at h;refine⟨G,e,rel,h.imp (fun w e1 h G1 v1 H1 r1 s1 p1=>?_) fun _ _ h=>h⟩
 refine⟨G1,e1,r1,h.imp (fun lo e2 h G2 H2 r2 s2=>?_) fun _ _ h=>XH.trans s1 h⟩
 refine⟨G2,e2,r2,h.imp (fun hi e3 h G3 H3 r3 s3=>?_) fun _ _ h=>XH.trans (s1.trans s2) h⟩
 obtain⟨y,hf,h⟩:=h;have p3:=Rep.mono (s2.trans s3) w p1;have s03:=(s1.trans s2).trans s3;cases w with
 |lst ws=>
  cases hf;obtain⟨a,xs,rfl,q,r⟩:=p3;refine .inl ⟨a,xs,rfl,r3.sub.seq q,fun p hp=>?_⟩
  have g:=Grow.laid r3.sub hp (.lst (cutV xs lo hi));exact h _ _ _ (r3.grow g) (s03.trans g.gg) ⟨p,_,rfl,SqL.of q0h,Reps.mono g.gg _ (r.cut lo hi)⟩
 |tup ws=>
  simp only[slW]at hf;split at hf
  ·rename_i hw;cases hf;obtain⟨a,xs,rfl,q,r⟩:=p3;refine .inr ⟨a,xs,rfl,r3.sub.tup q,by rw[r.length];exact hw,fun p hp=>?_⟩
   have g:=Grow.laid r3.sub hp (.tup (cutV xs lo hi));exact h _ _ _ (r3.grow g) (s03.trans g.gg) ⟨p,_,rfl,SqT.of q0h,Reps.mono g.gg _ (r.cut lo hi)⟩
  ·cases hf
 |_=>cases hf
noncomputable def tyW:W->Value
 |.non=>.type "NoneType"
 |.bl _=>.type "bool"
 |.int _=>.type "int"
 |.str _=>.type "str"
 |.tup _=>.type "tuple"
 |.lst _=>.type "list"
 |.exc c=>c
 |.dic _=>.type "dict"
 |.dw _ _ _ _=>.type "dict"
 |.fn _ _ _=>.type "dict"
noncomputable def isiW(K:PySem.W.Frag)(cv:Value):W->Option W
 |.exc (.ref D)=>if excClsIn K D=true then(kitOne K (.ref D) cv).map .bl else none
 |.exc _=>none
 |.dic _=>none
 |.dw _ _ _ _=>none
 |.fn _ _ _=>none
 |w=>(kitOne K (tyW w) cv).map .bl
theorem y23{pins:List (Addr×Obj)}{b:Bool}{Q:VK}(I:Inv X pins σ H s)(sg:Same G H)(p:Rep X.K G w v)(r:RelV v u)(h:isiW X.K cv w=some (.bl b))(q:Q (.bl b) H):
  wpAny (model X.prog X.w) X.A (call (.builtin "isinstance") [u,cv]) (EP X pins σ Q) X.xe s:=by
 have fin:∀tk,EP X pins σ Q (.bool b) {s with toks:=tk}:=fun tk=>⟨.bl b,H,I.tok _,rfl,q⟩
 have kit:∀{t:Value},(kitOne X.K t cv).map W.bl=some (.bl b)->kitOne X.K t cv=some b:=fun z=>by
  obtain⟨y,h1,h2⟩:=w0f.mp z;cases h2;exact h1
 cases w with
 |non=>cases p;cases r;exact kia_one PySem.W.kitx_none I.kIn True.intro (kit h) (fun z=>nomatch z) fin
 |bl y=>cases p;cases r;exact kia_one PySem.W.kitx_bool I.kIn True.intro (kit h) (fun z=>nomatch z) fin
 |int y=>cases p;obtain⟨t,rfl⟩:=r;exact kia_one PySem.W.kitx_int I.kIn True.intro (kit h) (fun z=>nomatch z) fin
 |str y=>cases p;obtain⟨t,rfl⟩:=r;exact kia_one PySem.W.kitx_str I.kIn True.intro (kit h) (fun z=>nomatch z) fin
 |tup ws=>
  obtain⟨a,xs,rfl,hq,_⟩:=p;cases r;obtain⟨its,_,⟨o,h1,h2,_⟩,_⟩:=I.tuple (sg.tup hq);exact kia_one PySem.W.kitx_tuple I.kIn ⟨o,h1,h2⟩ (kit h) (fun z=>nomatch z) fin
 |lst ws=>
  obtain⟨a,xs,rfl,hq,_⟩:=p;cases r;obtain⟨its,_,⟨o,n,h1,h2,_⟩,_⟩:=I.list (sg.seq hq);exact kia_one PySem.W.kitx_list I.kIn ⟨o,h1,h2⟩ (kit h) (fun z=>nomatch z) fin
 |dic c=>simp[isiW]at h
 |dw _ _ _ _=>simp[isiW]at h
 |fn _ _ _=>simp[isiW]at h
 |exc c=>
  obtain⟨e,rfl,he⟩:=p;cases r;unfold isiW at h;split at h
  ·rename_i D heq;cases heq;split at h
   ·rename_i hC;obtain⟨⟨o,vs,h1,h2,h3⟩,_⟩:=(show ObjOk X.prog X.w H s.heap e (excO e (.ref D))from I.hok e _ (sg _ _ he));exact kia_one (x9f (ExcCls.of hC)) I.kIn ⟨o,vs,h1,h2,h3⟩ (kit h) (fun z=>nomatch z) fin
   ·cases h
  all_goals first|(cases h;done)|(rename_i h1 h2 h3 h4 h5;exact absurd rfl (h2 c))|(rename_i h1 h2 h3 h4;exact absurd rfl (h2 c))|(rename_i h1 h2 h3;exact absurd rfl (h2 c))|(rename_i h1 h2;exact absurd rfl (h2 c))
noncomputable def dIsi(K:PySem.W.Frag)(cv:Value)(d:Den W):Den W:=fun e=>(d e).bind fun w e1=>match isiW K cv w with
 |some (.bl b)=>.ok (.bl b) e1
 |_=>.no
theorem x63{c:V}(hc:ClsV c cv):CallR X (.builtin "isinstance") (fun xs H Q=>∃x G w b,xs=[x,c]/\Same G H/\Rep X.K G w x/\isiW X.K cv w=some (.bl b)/\Q (.bl b) H):=by
 intro pins s σ H xs us Q I r h;obtain⟨x,G,w,b,rfl,sg,p,hi,q⟩:=h;obtain⟨u,u2,rfl,rx,rc⟩:=vals2 r
 have ec:u2=cv:=by
  cases c with
  |ty n=>exact(show u2=Value.type n from rc).trans (show cv=Value.type n from hc).symm
  |ref a=>exact(show u2=Value.ref a from rc).trans (show cv=Value.ref a from hc).symm
  |_=>exact hc.elim
 subst ec;exact y23 I sg p rx hi q
theorem q1d{c0:V}(hc:ClsV c0 cv)(hcl:PE X c (tC c0))(hm:X.mg "isinstance"=none)(he:DE Z X EE e da)(hg:Gl X "isinstance":=by rfl)(hs:starEach [e,c] X.env=(false,eval e X.env)::starEach [c] X.env:=by rfl)(hs2:starEach [c] X.env=(false,eval c X.env)::starEach [] X.env:=by rfl)(hpl:(backTo pos (starEach [c] X.env)).any (·.1)=false:=by rfl):
  DE Z X EE (.Call (.Name "isinstance" p) [e,c] [] pos) (dIsi X.K cv da):=by
 refine PE.mono (q8j (x63 hc) hg hm PyProof.Rows.Boot.«isinstance» (q50 he (q50 hcl q88 hs2) hs) (by decide) (by decide) hs hpl) ?_;rintro σ H Q ⟨G,e,rel,h⟩;simp only[dIsi,R.holds_bind]at h;refine⟨G,e,rel,h.imp (fun w e1 h G1 v1 H1 r1 s1 p1=>?_) fun _ _ h=>h⟩
 split at h
 ·rename_i b hb;exact⟨v1,G1,w,b,rfl,r1.sub,p1,hb,h G1 _ H1 r1 s1 rfl⟩
 ·exact h.elim
theorem q1b{n:Str}{a:Addr}(hm:X.mg n=some (.ref a))(hg:Gl X n:=by rfl)(hd:(n==("__debug__":Str))=false:=by decide):PE X (.Name n pos) (tC (.ref a)):=y2b (v:=.ref a) hg hm rfl hd
theorem x4b{n:Str}{T:String}(hv:bootBuiltins n=some (.type T))(hm:X.mg n=none)(hg:Gl X n:=by rfl)(hn:n≠"__name__":=by decide)(hd:(n==("__debug__":Str))=false:=by decide):PE X (.Name n pos) (tC (.ty T)):=y2c (v:=.ty T) hg hm hv rfl hn hd
noncomputable def tup1:List W->Option W
 |[.lst ws]=>some (.tup ws)
 |[.tup ws]=>some (.tup ws)
 |_=>none
theorem y6j:OpN K (fun xs H Q=>∃p ys,xs=[.ref p]/\((SqL K H p ys/\∀l,H l=none->Q (.ref l) (upd H l (.tup ys)))\/(SqT K H p ys/\Q (.ref p) H))) tup1:=by
 intro G H xs ws w Q s pr hf h;unfold tup1 at hf;split at hf
 ·cases hf;obtain⟨x,r,rfl,px,pr⟩:=pr;cases(show r=[]from pr);obtain⟨a,ys,rfl,ha,ra⟩:=px;refine⟨a,ys,rfl,.inl ⟨s.seq ha,fun l hl=>?_⟩⟩
  have g:=Grow.laid s hl (.tup ys);exact h _ _ _ g ⟨l,ys,rfl,SqT.of q0h,Reps.mono g.gg _ ra⟩
 ·cases hf;obtain⟨x,r,rfl,px,pr⟩:=pr;cases(show r=[]from pr);obtain⟨a,ys,rfl,ha,ra⟩:=px;exact⟨a,ys,rfl,.inr ⟨s.tup ha,h G _ H (.refl s) ⟨a,ys,rfl,ha,ra⟩⟩⟩
 ·cases hf
theorem q3n(hm:X.mg "tuple"=none)(ha:DA Z X EE [e] dA)(hg:Gl X "tuple":=by rfl)(he:starEach [e] X.env=(false,eval e X.env)::starEach [] X.env:=by rfl)(hpl:(backTo pos (starEach [] X.env)).any (·.1)=false:=by rfl):DE Z X EE (.Call (.Name "tuple" p) [e] [] pos) (dFn tup1 dA):=
 x6s x1l y6j PyProof.Rows.Boot.«tuple» hm ha hg (by decide) (by decide) he hpl
theorem q38(hm:X.mg "len"=none)(ha:DA Z X EE [e] dA)(hg:Gl X "len":=by rfl)(he:starEach [e] X.env=(false,eval e X.env)::starEach [] X.env:=by rfl)(hpl:(backTo pos (starEach [] X.env)).any (·.1)=false:=by rfl):DE Z X EE (.Call (.Name "len" p) [e] [] pos) (dFn len1 dA):=
 x6r x16 x6x PySem.boot_len hm ha hg (by decide) (by decide) he hpl
theorem q3e(i:Nat)(hm:X.mg "len"=none)(hN:X.N[i]?=some x:=by rfl)(hvis:Vis X.env.scope x:=by walk_at "1")(hd:(x==("__debug__":Str))=false:=by decide)(hcd:(x==("__classdict__":Str))=false:=by decide)
  (hg:Gl X "len":=by rfl)(hs:starEach [.Name x p] X.env=(false,eval (.Name x p) X.env)::starEach [] X.env:=by rfl)(hpl:(backTo pos (starEach [] X.env)).any (·.1)=false:=by rfl):DE Z X EE (.Call (.Name "len" pn) [.Name x p] [] pos) (dFnV i len1):=
 y6f i x16 x6x PySem.boot_len hm hN hvis hd hcd hg (by decide) (by decide) hs hpl
noncomputable def lst1:List W->Option (List W)
 |[.lst ws]=>some ws
 |[.tup ws]=>some ws
 |_=>none
noncomputable def dList(dA:Den (List W)):Den (List W):=fun e=>(dA e).bind fun ws e1=>ofOpt (lst1 ws) e1
theorem q96(hm:X.mg "list"=none)(ha:DA Z X EE [e] dA)(hg:Gl X "list":=by rfl)(he:starEach [e] X.env=(false,eval e X.env)::starEach [] X.env:=by rfl)(hpl:(backTo pos (starEach [] X.env)).any (·.1)=false:=by rfl):DF Z X EE (.Call (.Name "list" p) [e] [] pos) (dList dA):=by
 refine PE.mono (x0u x19 hg hm PyProof.Rows.Boot.«list» ha (by decide) (by decide) he hpl) ?_;rintro σ H Q ⟨G,e,rel,h⟩;simp only[dList,R.holds_bind,ofOpt_holds]at h;refine⟨G,e,rel,h.imp (fun ws e1 h G1 vs H1 r1 s1 p1=>?_) fun _ _ h=>h⟩
 obtain⟨out,hf,h⟩:=h;unfold lst1 at hf;split at hf
 ·cases hf;obtain⟨y,r,rfl,py,pr⟩:=p1;cases(show r=[]from pr);obtain⟨a,ys,rfl,hq,rq⟩:=py;exact⟨a,ys,rfl,.inl (r1.sub.seq hq),q6w r1 s1 rq h⟩
 ·cases hf;obtain⟨y,r,rfl,py,pr⟩:=p1;cases(show r=[]from pr);obtain⟨a,ys,rfl,hq,rq⟩:=py;exact⟨a,ys,rfl,.inr (r1.sub.tup hq),q6w r1 s1 rq h⟩
 ·cases hf
end
section
variable{P:Program}{w:World}{mg:Str->Option Value}{base:Heap}
theorem q9i(hF:∀ws,F ws=.no){vs:List V}{Q:VK}{E:XK}(h:spF K F vs H Q E):False:=by
 obtain⟨G,ws,hn,_⟩:=q7k h;exact hn (hF ws)
theorem conF{N ps:List Str}{f:Addr}{fd:FuncData}(A:Fun K x x st f fd)(sc:FnScope N ps (defScope st))(len:∀ws,F ws≠.no->ws.length=ps.length)
  (hb:∀ws,F ws≠.no->∀(cdv:Value)(A:Around)(outer:List Env)(s:Shared)(H:Hp)(E:XK)(Z:Zt),Room k (A.deeper (PyProof.Rows.envOfC x (defScope st) s.heap.objs.size f cdv)) ->
   ∃d,DSs Z (cxOf (CX1 P w) P w K mg base N x (defScope st) f cdv A outer s H E) (fun _=>E) (defBody st) d/\(d (init N.length ws)).fn=F ws):FnOk P w K mg base (CX1 P w) (k+1) f fd ps (spF K F):=by
 refine A.okX sc (fun vs H Q E h=>?_) (fun cdv A outer s H vs Q E hr h=>?_)
 ·obtain⟨G,ws,hn,r⟩:=q7k h;rw[r.length];exact len ws hn
 ·obtain⟨G,ws,sg,rp,h⟩:=h;have hn:F ws≠.no:=fun z=>by rw[z]at h;exact h
  obtain⟨d,hd,he⟩:=hb ws hn cdv A outer s H E ⟨H,G,[]⟩ hr;exact⟨_,hd,G,init N.length ws,q56 sg rp,q74 he h⟩
noncomputable def spLaw(K:PySem.W.Frag):Sp:=fun vs H Q _=>∃(a:Addr)(ns:List Int),vs=[.ref a]/\SqL K H a (ns.map V.int)/\ns.length<=63/\∀H',Q (.bl true) H'
theorem q7o:∀(ns:List Int),Reps K G (ns.map W.int) (ns.map V.int)
 |[]=>rfl
 |n::ns=>⟨_,_,rfl,rfl,q7o ns⟩
theorem x9o(hF:∀ns:List Int,ns.length<=63->F [.lst (ns.map .int)]=.ok (.fr (.bl true))){vs:List V}{Q:VK}{E:XK}(h:spLaw K vs H Q E):spF K F vs H Q E:=by
 obtain⟨a,ns,rfl,hS,hl,q⟩:=h;refine⟨fun b=>if b=a then H a else none,[.lst (ns.map .int)],fun b o z=>?_,⟨.ref a,[],rfl,⟨a,ns.map V.int,rfl,?_,q7o ns⟩,rfl⟩,?_⟩
 ·by_cases hb:b=a
  ·subst hb;simpa using z
  ·simp[hb]at z
 ·rcases hS with(h|⟨o,h⟩)|h
  ·exact .inl (.inl (by simpa using h))
  ·exact .inl (.inr ⟨o,by simpa using h⟩)
  ·exact .inr h
 ·rw[hF ns hl];intro G' H' v g sl;obtain⟨u,h1,h2⟩:=sl;cases h1;cases(show v=V.bl true from h2);exact q H'
theorem y6k{P:Program}{w:World}{e:Value}{s':Shared}(z:CX1 P w [] H s (fun _ _ _=>False) e s'):False:=by
 obtain⟨_,_,_,_,_,_,_,_,_,_,h⟩:=z;exact h
theorem con0{ps:List Str}(A:At K mg x st ps)(hF:∀ws,F ws=.no:=by intro _;rfl):Cal P w K mg base 0 x ps (spF K F):=by
 obtain⟨f,fd,F0,m,b⟩:=A.ex;exact⟨f,fd,⟨fun vs H Q E h=>(q9i hF h).elim,fun A outer s H args us vs Q E _ _ _ _ h=>(q9i hF h).elim⟩,m,F0.kp,b⟩
theorem con0H{ps:List Str}(A:At K mg x st ps)(hF:∀ws,F ws=.no:=by intro _;rfl):CalH P w K mg base 0 x ps (spF K F):=by
 obtain⟨f,fd,F0,m,b⟩:=A.ex;exact⟨f,fd,⟨fun vs H Q E h=>(q9i hF h).elim,fun A outer s H args us vs Q _ _ _ _ h=>(q9i hF h).elim⟩,m,F0.kp,b⟩
end
section
variable{e:Expr}{d:Den Str}
def DFm(Z:Zt)(X:Cx)(EE:St->XK)(n:Nat)(es:List Expr)(d:Den Str):Prop:=PF X es (fun acc σ H Q=>acc.length+n*1000001<=16777216/\∃G e,Rel X.K Z G σ H e/\(d e).holds (fun y e'=>∀G' H',Rel X.K Z G' σ H' e'->Same G G'->Q (acc++y) H') (XH X.K Z EE σ G))
end
section
variable{β:Type}{c:Prop} [Decidable c]{a:α}{e':List S}{k:α->List S->R β}{ks:α->List S->SR}{x y:R α}{s t:SR}{v:Value}{st:S}
theorem y24:(R.ok a e).bind k=k a e:=rfl
theorem y25:(R.ex v e:R α).bind k=.ex v e:=rfl
theorem y26:(R.no:R α).bind k=.no:=rfl
theorem x9p:(if c then x else y).bind k=if c then x.bind k else y.bind k:=by split<;>rfl
theorem y6l:(R.ok a e).stm ks=ks a e:=rfl
theorem y6m:(R.ex v e:R α).stm ks=.ex v e:=rfl
theorem y6n:(R.no:R α).stm ks=.no:=rfl
theorem y27:(if c then x else y).stm ks=if c then x.stm ks else y.stm ks:=by split<;>rfl
noncomputable def SR.seq:SR->(List S->SR)->SR
 |.nx e,b=>b e
 |r,_=>r
theorem y6o{p:List S->SR}:dSeq p q e=(p e).seq q:=by
 unfold dSeq SR.seq;cases p e<;>rfl
theorem y6p:(SR.nx e).seq q=q e:=rfl
theorem y6q:(SR.rt st e).seq q=.rt st e:=rfl
theorem y6r:(SR.ex v e).seq q=.ex v e:=rfl
theorem y6s:(SR.bk e).seq q=.bk e:=rfl
theorem y6t:(SR.ct e).seq q=.ct e:=rfl
theorem y6u:(SR.no).seq q=.no:=rfl
theorem y28:(if c then s else t).seq q=if c then s.seq q else t.seq q:=by split<;>rfl
theorem y80:(SR.nx e).fn=.ok (.fr .non):=rfl
theorem y81:(SR.rt st e).fn=.ok st:=rfl
theorem y82:(SR.ex v e).fn=.ex v:=rfl
theorem y83:(SR.no).fn=.no:=rfl
theorem y6v:(if c then s else t).fn=if c then s.fn else t.fn:=by split<;>rfl
theorem x48:ofOpt (some a) e=.ok a e:=rfl
theorem x49:ofOpt (none:Option α) e=.no:=rfl
theorem x64{o p:Option α}:ofOpt (if c then o else p) e=if c then ofOpt o e else ofOpt p e:=by split<;>rfl
noncomputable def varS(i:Nat)(e:List S):Option S->R W
 |some (.fr w)=>.ok w e
 |some (.own none ws)=>.ok (.lst ws) (e.set i (.fr (.lst ws)))
 |some (.x k)=>match k.plain with
  |some w=>.ok w e
  |none=>.no
 |_=>.no
theorem y6w:dVar i e=varS i e e[i]?:=by
 unfold dVar varS;cases e[i]? with
 |none=>rfl
 |some s=>cases s with
  |own b ws=>cases b<;>rfl
  |_=>rfl
theorem y6x:varS i e (some (.fr w))=.ok w e:=rfl
theorem y29:varS i e (some (.own none ws))=.ok (.lst ws) (e.set i (.fr (.lst ws))):=rfl
theorem dC_s:dC w e=.ok w e:=rfl
theorem y84{f:W->W->Option W}:dOp f da db e=(da e).bind fun x e1=>(db e1).bind fun y e2=>ofOpt (f x y) e2:=rfl
theorem y85{f:W->Option W}:dUn f da e=(da e).bind fun x e1=>ofOpt (f x) e1:=rfl
noncomputable def testW(e:List S):W->R Bool
 |.bl k=>.ok k e
 |_=>.no
theorem y3a:dTest da e=(da e).bind fun x e1=>testW e1 x:=rfl
theorem y3b{b:Bool}:testW e (.bl b)=.ok b e:=rfl
theorem y6y:dTru da e=(da e).bind fun x e1=>ofOpt (truW x) e1:=rfl
theorem y6z{p q:Den Bool}:dAnd p q e=(p e).bind fun x e1=>if x=true then q e1 else .ok false e1:=rfl
theorem y86{p q:Den Bool}:dOr p q e=(p e).bind fun x e1=>if x=true then .ok true e1 else q e1:=rfl
noncomputable def andK(q:Den W)(e:List S):W->R W
 |.bl true=>q e
 |.bl false=>.ok (.bl false) e
 |_=>.no
theorem y3c{p q:Den W}:dAndV p q e=(p e).bind fun x e1=>andK q e1 x:=rfl
theorem y60{q:Den W}{b:Bool}:andK q e (.bl b)=if b=true then q e else .ok (.bl false) e:=by cases b<;>rfl
noncomputable def orK(q:Den W)(e:List S):W->R W
 |.bl true=>.ok (.bl true) e
 |.bl false=>q e
 |_=>.no
theorem y61{p q:Den W}:dOrV p q e=(p e).bind fun x e1=>orK q e1 x:=rfl
theorem y87{q:Den W}{b:Bool}:orK q e (.bl b)=if b=true then .ok (.bl true) e else q e:=by cases b<;>rfl
noncomputable def notK(e:List S):W->R W
 |.bl k=>.ok (.bl (!k)) e
 |_=>.no
theorem y3d{p:Den W}:dNotV p e=(p e).bind fun x e1=>notK e1 x:=rfl
theorem y62{b:Bool}:notK e (.bl b)=.ok (.bl (!b)) e:=rfl
theorem y63:dNil e=.ok [] e:=rfl
theorem y3e{p:Den W}{q:Den (List W)}:dCons p q e=(p e).bind fun x e1=>(q e1).bind fun xs e2=>.ok (x::xs) e2:=rfl
theorem y64:dTup p e=(p e).bind fun xs e1=>if xs.length<=16777216 then .ok (.tup xs) e1 else .no:=rfl
theorem y65:dLst p e=(p e).bind fun xs e1=>if xs.length<=16777216 then .ok xs e1 else .no:=rfl
theorem y88:dFz p e=(p e).bind fun xs e1=>.ok (.lst xs) e1:=rfl
theorem y89:dFn f p e=(p e).bind fun xs e1=>ofOpt (f xs) e1:=rfl
theorem y3f:dList p e=(p e).bind fun xs e1=>ofOpt (lst1 xs) e1:=rfl
theorem y9a:dNx e=.nx e:=rfl
theorem y3g:dDrop d e=(d e).stm fun _ e'=>.nx e':=rfl
theorem y66:dRet d e=(d e).stm fun w e'=>.rt (.fr w) e':=rfl
theorem y3h{d:Den (List W)}:dRetF d e=(d e).stm fun w e'=>.rt (.own none w) e':=rfl
noncomputable def retS(e:List S):Option S->SR
 |some (.own none ws)=>.rt (.own none ws) e
 |some (.fr w)=>.rt (.fr w) e
 |_=>.no
theorem y3i:dRetO i e=retS e e[i]?:=by
 unfold dRetO retS;cases e[i]? with
 |none=>rfl
 |some s=>cases s with
  |own b ws=>cases b<;>rfl
  |_=>rfl
theorem y3j:retS e (some (.own none ws))=.rt (.own none ws) e:=rfl
theorem y67:retS e (some (.fr w))=.rt (.fr w) e:=rfl
theorem y68{p:Den Bool}{q':List S->SR}:dIfS p q q' e=(p e).stm fun x e1=>if x=true then q e1 else q' e1:=rfl
theorem y69:dSet i d e=(d e).stm fun w e'=>.nx (e'.set i (.fr w)):=rfl
theorem y3k{d:Den (List W)}:dSetO i d e=(d e).stm fun w e'=>.nx (e'.set i (.own none w)):=rfl
noncomputable def callR(e:List S):FR->R W
 |.ok (.fr w)=>.ok w e
 |.ok (.own none ws)=>.ok (.lst ws) e
 |.ok (.dic kvs)=>.ok (.dic kvs) e
 |.ok (.thr us ws vs)=>.ok (.tup (us++.lst ws::vs)) e
 |.ok (.x (.new w))=>.ok w e
 |.ok (.x (.tn us wss))=>.ok (.tup (us++[.lst (wss.map .lst)])) e
 |.ex c=>.ex c e
 |_=>.no
theorem x9q{vs:List W}:callR e (.ok (.thr us ws vs))=.ok (.tup (us++.lst ws::vs)) e:=rfl
theorem x9r{kvs:Dd}:callR e (.ok (.dic kvs))=.ok (.dic kvs) e:=rfl
theorem y3l{d:Den (List W)}:dCall F d e=(d e).bind fun ws e1=>callR e1 (F ws):=by
 unfold dCall;congr 1
theorem y3m:callR e (.ok (.fr w))=.ok w e:=rfl
theorem x9s:callR e (.ok (.own none ws))=.ok (.lst ws) e:=rfl
theorem y3n:callR e (.ex v)=.ex v e:=rfl
theorem y3o:callR e .no=.no:=rfl
theorem x9t{f g:FR}:callR e (if c then f else g)=if c then callR e f else callR e g:=by split<;>rfl
noncomputable def callF(e:List S):FR->R (List W)
 |.ok (.own none ws)=>.ok ws e
 |.ex c=>.ex c e
 |_=>.no
theorem x65:callF e (.ok (.own none ws))=.ok ws e:=rfl
theorem x9u:callF e (.ex v)=.ex v e:=rfl
theorem x66{f g:FR}:callF e (if c then f else g)=if c then callF e f else callF e g:=by split<;>rfl
noncomputable def callH(e:List S):FR->R W
 |.ok (.fr w)=>.ok w e
 |.ok (.own none ws)=>.ok (.lst ws) e
 |_=>.no
theorem x9v{d:Den (List W)}:dCallH F d e=(d e).bind fun ws e1=>callH e1 (F ws):=by
 unfold dCallH;congr 1
theorem x9w:callH e (.ok (.fr w))=.ok w e:=rfl
theorem x67:callH e (.ok (.own none ws))=.ok (.lst ws) e:=rfl
noncomputable def forW(i:Nat)(b:List S->SR)(e:List S):Option (List W)->SR
 |some ws=>forD i b ws e
 |none=>.no
theorem y7a{b:List S->SR}:dFor i d b e=(d e).stm fun w e1=>forW i b e1 (seqW w):=by
 unfold dFor;congr 1
theorem y3p{g:List W->Option (List W)}{d:Den (List W)}{b:List S->SR}:dForR i g d b e=(d e).stm fun w e1=>forW i b e1 (g w):=by
 unfold dForR;congr 1
theorem x68{b:List S->SR}:forW i b e (some ws)=forD i b ws e:=rfl
noncomputable def SR.turn:SR->(List S->SR)->SR
 |.nx e,k=>k e
 |.ct e,k=>k e
 |.bk e,_=>.nx e
 |.rt s e,_=>.rt s e
 |.ex c e,_=>.ex c e
 |.no,_=>.no
theorem q57{b:List S->SR}:forD i b (w::ws) e=(b (e.set i (.fr w))).turn (forD i b ws):=by
 show(match b (e.set i (.fr w))with|.nx e'=>forD i b ws e'|.ct e'=>forD i b ws e'|.bk e'=>.nx e'|.rt s e'=>.rt s e'|.ex c e'=>.ex c e'|.no=>.no)=_;cases b (e.set i (.fr w))<;>rfl
theorem q97:(SR.nx e).turn q=q e:=rfl
theorem y3q:(SR.ct e).turn q=q e:=rfl
theorem y3r:(SR.bk e).turn q=.nx e:=rfl
theorem y3s:(SR.rt st e).turn q=.rt st e:=rfl
theorem y3t:(SR.ex v e).turn q=.ex v e:=rfl
theorem y3u:(SR.no).turn q=.no:=rfl
theorem x9x:(if c then s else t).turn q=if c then s.turn q else t.turn q:=by split<;>rfl
theorem q6m{p:Den Bool}{b:List S->SR}:whileD p b (n+1) e=(p e).stm fun x e1=>if x=true then(b e1).turn (whileD p b n)else .nx e1:=by
 show(p e).stm _=_;congr 1;funext x e1
 split
 ·cases b e1<;>rfl
 ·rfl
noncomputable def look1(k:W->R W):Option W->R W
 |none=>.no
 |some w=>k w
theorem y7b:dIxV i d e=look1 (fun _=>(d e).bind fun k e1=>look1 (fun w=>ofOpt (ixW w k) e1) (e1[i]?.bind S.look)) (e[i]?.bind S.look):=by
 unfold dIxV look1;cases e[i]?.bind S.look with
 |none=>rfl
 |some w=>
  dsimp only;try congr 1
theorem x69{k:W->R W}:look1 k (some w)=k w:=rfl
theorem y9b:S.look (.fr w)=some w:=rfl
theorem y7c:S.look (.own b ws)=some (.lst ws):=rfl
noncomputable def fnV2(e:List S)(y:Option W):Option S->R W
 |some (.fr _)=>ofOpt y e
 |_=>match y with
  |none=>.no
  |some v=>if scalW v=true then .ok v e else .no
theorem y7d:dFnV i f e=look1 (fun w=>fnV2 e (f [w]) e[i]?) (e[i]?.bind S.look):=by
 unfold dFnV look1;cases q:e[i]? with
 |none=>rfl
 |some s=>
  cases s with
  |no=>rfl
  |dic _=>rfl
  |thr _ _ _=>rfl
  |nest _=>rfl
  |x k=>
   show(match k.look with|none=>R.no|some w=>match f [w]with|none=>R.no|some v=>if scalW v=true then R.ok v e else R.no)=look1 (fun w=>fnV2 e (f [w]) (some (.x k))) k.look
   cases k.look with
   |none=>rfl
   |some w=>
    show(match f [w]with|none=>R.no|some v=>if scalW v=true then R.ok v e else R.no)=fnV2 e (f [w]) (some (.x k));generalize f [w]=y;cases y<;>rfl
  |dw _ _ _=>rfl
  |fr w=>
   show(match f [w]with|none=>R.no|some v=>R.ok v e)=fnV2 e (f [w]) (some (.fr w));generalize f [w]=y;cases y<;>rfl
  |own b ws=>
   show(match f [W.lst ws]with|none=>R.no|some v=>if scalW v=true then R.ok v e else R.no)=fnV2 e (f [W.lst ws]) (some (.own b ws));generalize f [W.lst ws]=y;cases y<;>rfl
theorem y7e{y:Option W}:fnV2 e y (some (.fr w))=ofOpt y e:=rfl
theorem y3v{v:W}:fnV2 e (some v) (some (.own b ws))=if scalW v=true then .ok v e else .no:=rfl
noncomputable def appK(i:Nat)(e:List S):List W->Option S->SR
 |[w],some (.own b xs)=>if xs.length<16777216 then .nx (e.set i (.own b (xs++[w])))else .no
 |_,_=>.no
noncomputable def ownQ(k:SR):Option S->SR
 |some (.own _ _)=>k
 |_=>.no
theorem y7f{d:Den (List W)}:dApp i d e=ownQ ((d e).stm fun ws e1=>appK i e1 ws e1[i]?) e[i]?:=by
 unfold dApp ownQ;cases e[i]? with
 |none=>rfl
 |some s=>cases s with
  |own b xs=>
   dsimp only;try congr 1
  |_=>rfl
theorem y9c{k:SR}:ownQ k (some (.own b ws))=k:=rfl
theorem y9d{xs:List W}:appK i e [w] (some (.own b xs))=if xs.length<16777216 then .nx (e.set i (.own b (xs++[w])))else .no:=rfl
noncomputable def popK(i:Nat)(e:List S)(b:Option Nat)(ws:List W):Option W->R W
 |some w=>.ok w (e.set i (.own b ws.dropLast))
 |none=>.no
noncomputable def popS(i:Nat)(e:List S):Option S->R W
 |some (.own b ws)=>popK i e b ws ws[ws.length-1]?
 |_=>.no
theorem y7g:dPop i e=popS i e e[i]?:=by
 unfold dPop popS;cases e[i]? with
 |none=>rfl
 |some s=>cases s with
  |own b ws=>
   show(match ws[ws.length-1]? with|some w=>_|none=>_)=popK i e b ws ws[ws.length-1]?;cases ws[ws.length-1]?<;>rfl
  |_=>rfl
theorem y3w:popS i e (some (.own b (ws++[w])))=.ok w (e.set i (.own b ws)):=by
 show popK i e b (ws++[w]) (ws++[w])[(ws++[w]).length-1]?=_;have:(ws++[w])[(ws++[w]).length-1]?=some w:=by simp
 rw[this];show R.ok w (e.set i (.own b (ws++[w]).dropLast))=_;rw[List.dropLast_concat]
theorem x9y{C:Addr}{d:Den (List W)}:dRaise C d e=(d e).stm fun ws e1=>if ws.length<=16777216 then .ex (.ref C) e1 else .no:=rfl
theorem y9e{dl dh:Den (Option Int)}:dSl d dl dh e=(d e).bind fun w e1=>(dl e1).bind fun lo e2=>(dh e2).bind fun hi e3=>ofOpt (slW w lo hi) e3:=rfl
theorem x7a:dNoPart e=.ok none e:=rfl
noncomputable def partK(e:List S):W->R (Option Int)
 |.int i=>.ok (some i) e
 |_=>.no
theorem y3x:dPart d e=(d e).bind fun w e1=>partK e1 w:=rfl
theorem x9z{i:Int}:partK e (.int i)=.ok (some i) e:=rfl
noncomputable def isiK(e:List S):Option W->R W
 |some (.bl b)=>.ok (.bl b) e
 |_=>.no
theorem y7h:dIsi K cv d e=(d e).bind fun w e1=>isiK e1 (isiW K cv w):=by
 unfold dIsi;congr 1
theorem y7i{b:Bool}:isiK e (some (.bl b))=.ok (.bl b) e:=rfl
theorem q07{D:Addr}{k:Bool}(hc:excClsIn K D=true)(h:kitOne K (.ref D) cv=some k):isiW K cv (.exc (.ref D))=some (.bl k):=by show(if excClsIn K D=true then _ else _)=_;rw[if_pos hc,h];rfl
noncomputable def tryH(n:Nat):SR->SR
 |.nx _=>.nx (List.replicate n .no)
 |.bk _=>.bk (List.replicate n .no)
 |.ct _=>.ct (List.replicate n .no)
 |.rt s e=>.rt s e
 |_=>.no
theorem y3y:tryH n (.rt st e)=.rt st e:=rfl
theorem y3z:tryH n (.nx e)=.nx (List.replicate n .no):=rfl
noncomputable def compR(e:List S):Option (List W)->R (List W)
 |some out=>.ok out e
 |none=>.no
theorem y30:compK js cc d ws e=if ws.length<=16777216 then compR (frzs js e) (compD cc d (pjS js (frzs js e)) ws)else .no:=by
 unfold compK compR;split
 ·cases compD cc d (pjS js (frzs js e)) ws<;>rfl
 ·rfl
noncomputable def compW(js:List Nat)(cc:Den Bool)(d:Den W)(e:List S):Option (List W)->R (List W)
 |some ws=>compK js cc d ws e
 |none=>.no
theorem y31{di:Den W}:dComp js di cc d e=(di e).bind fun w e1=>compW js cc d e1 (seqW w):=by
 unfold dComp;congr 1
theorem x90{g:List W->Option (List W)}{di:Den (List W)}:dCompR g js di cc d e=(di e).bind fun w e1=>compW js cc d e1 (g w):=by
 unfold dCompR;congr 1
theorem x5a:compW js cc d e (some ws)=compK js cc d ws e:=rfl
theorem x5b{out:List W}:compR e (some out)=.ok out e:=rfl
theorem y7j:dYes e=.ok true e:=rfl
theorem x91:frzs [] e=e:=rfl
theorem x7b:frzs (j::js) e=frzs js (frz1 e j):=rfl
theorem y32:pjS [] e=[]:=rfl
theorem x92:pjS (j::js) e=pj1 e j::pjS js e:=rfl
theorem q47{g:W->W}:∀(ws:List W),(∀w∈ws,∃e',d (.fr w::pe)=.ok (g w) e')->compD dYes d pe ws=some (ws.map g)
 |[],_=>rfl
 |w::ws,h=>by
  obtain⟨e',he⟩:=h w (by simp);show(match d (.fr w::pe)with|.ok y _=>(compD dYes d pe ws).map (y::·)|_=>none)=_;rw[he,q47 ws fun u hu=>h u (by simp[hu])]
  rfl
theorem x7c:compD cc d pe (w::ws)=(match cc (.fr w::pe)with
  |.ok true e1=>(match d e1 with|.ok y _=>(compD cc d pe ws).map (y::·)|_=>none)
  |.ok false _=>compD cc d pe ws
  |_=>none):=rfl
end
section
variable{i j:Int}{b c:Bool}
theorem y7k:addW (.int i) (.int j)=some (.int (i+j)):=rfl
theorem y7l:addW (.str x) (.str y)=if x.length+y.length<=16777216 then some (.str (x++y))else none:=rfl
theorem y7m:addW (.lst ws) (.lst us)=if ws.length+us.length<=16777216 then some (.lst (ws++us))else none:=rfl
theorem y7n:subW (.int i) (.int j)=some (.int (i-j)):=rfl
theorem y7o:mulW (.int i) (.int j)=if(-18446744073709551616<i/\i<18446744073709551616)\/(-18446744073709551616<j/\j<18446744073709551616)then some (.int (i*j))else none:=rfl
theorem y33:fdivW (.int i) (.int j)=if 0<j/\j<1073741824 then some (.int (i / j))else none:=rfl
theorem y7p:modW (.int i) (.int j)=if 0<j then some (.int (i%j))else none:=rfl
theorem y7q:powW (.int i) (.int j)=if 0<=j/\j<=1000000/\-18446744073709551616<i/\i<18446744073709551616 then some (.int (i^j.toNat))else none:=by
 show(if 0<=j/\j<=1000000/\i.natAbs<2^64 then _ else _)=_;have e:(2:Nat)^64=18446744073709551616:=by decide
 rw[e]
 by_cases h:0<=j/\j<=1000000/\i.natAbs<18446744073709551616
 ·rw[if_pos h,if_pos (by omega)]
 ·rw[if_neg h,if_neg (by omega)]
theorem y9f:ltW (.int i) (.int j)=some (.bl (decide (i<j))):=rfl
theorem y9g:gtW (.int i) (.int j)=some (.bl (decide (j<i))):=rfl
theorem y9h:geW (.int i) (.int j)=some (.bl (decide (j<=i))):=rfl
theorem y9i:eq2 (.int i) (.int j)=some (.bl (decide (i=j))):=by
 show some (W.bl (i==j))=_;congr 2
theorem y9j:eq2 (.str x) (.str y)=some (.bl (decide (x=y))):=by
 show some (W.bl (x==y))=_;congr 2
theorem y9k:eq2 (.bl b) (.bl c)=some (.bl (decide (b=c))):=by
 show some (W.bl (b==c))=_;congr 2
theorem y9l:ne2 (.int i) (.int j)=some (.bl (!decide (i=j))):=by
 show some (W.bl (!(i==j)))=_;congr 2
theorem y9m:ne2 (.str x) (.str y)=some (.bl (!decide (x=y))):=by
 show some (W.bl (!(x==y)))=_;congr 2
theorem y9n:ne2 (.bl b) (.bl c)=some (.bl (!decide (b=c))):=by
 show some (W.bl (!(b==c)))=_;congr 2
theorem ix_t:ixW (.tup ws) (.int i)=atI ws i:=rfl
theorem ix_l:ixW (.lst ws) (.int i)=atI ws i:=rfl
theorem y9o:len1 [.tup ws]=some (.int ws.length):=rfl
theorem y9p:len1 [.lst ws]=some (.int ws.length):=rfl
theorem y9q:tup1 [.lst ws]=some (.tup ws):=rfl
theorem y9r:tup1 [.tup ws]=some (.tup ws):=rfl
theorem y9s:lst1 [.lst ws]=some ws:=rfl
theorem y9t:lst1 [.tup ws]=some ws:=rfl
theorem y9u:truW (.bl b)=some b:=rfl
theorem y9v:truW (.int i)=some (i != 0):=rfl
theorem y9w:truW .non=some false:=rfl
theorem y9x:truW (.tup ws)=some (!ws.isEmpty):=rfl
theorem y9y:truW (.lst ws)=some (!ws.isEmpty):=rfl
theorem y9z:seqW (.tup ws)=some ws:=rfl
theorem y90:seqW (.lst ws)=some ws:=rfl
theorem sc_i:scalW (.int i)=true:=rfl
theorem sc_b:scalW (.bl b)=true:=rfl
theorem sc_s:scalW (.str x)=true:=rfl
theorem sc_n:scalW .non=true:=rfl
theorem sl_l{lo hi:Option Int}:slW (.lst ws) lo hi=some (.lst (cutW ws lo hi)):=rfl
theorem at0{xs:List α}:atI xs 0=xs[0]?:=by
 cases xs with
 |nil=>rfl
 |cons a l=>exact q3x (j:=0) rfl
theorem at1{xs:List α}:atI xs 1=xs[1]?:=by
 cases xs with
 |nil=>rfl
 |cons a l=>
  cases l with
  |nil=>rfl
  |cons b l=>exact q3x (j:=1) rfl
theorem at2{xs:List α}:atI xs 2=xs[2]?:=by
 cases xs with
 |nil=>rfl
 |cons a l=>
  cases l with
  |nil=>rfl
  |cons b l=>
   cases l with
   |nil=>rfl
   |cons c l=>exact q3x (j:=2) rfl
theorem y7r{xs:List α}{k:Int}(h0:0<=k):atI xs k=xs[k.toNat]?:=by
 unfold atI ixN;rw[if_pos h0]
 by_cases h:k<xs.length
 ·rw[if_pos h];rfl
 ·rw[if_neg h];exact(w1o (by omega)).symm
theorem q7p{a b:String}(h:Str.ofString a=Str.ofString b):a=b:=by
 rw[Str.ofString_eq_toList,Str.ofString_eq_toList]at h;have h1:(a.toList.map Char.toNat).toArray=(b.toList.map Char.toNat).toArray:=congrArg Str.cps h;have h2:a.toList.map Char.toNat=b.toList.map Char.toNat:=by simpa using congrArg Array.toList h1
 have h3:a.toList=b.toList:=by
  have inj:∀c d:Char,c.toNat=d.toNat->c=d:=fun c d e=>by
   apply Char.ext;exact UInt32.toNat_inj.mp e
  exact(w4f inj).mp h2
 exact String.toList_inj.mp h3
theorem y7s{a b:String}:(Str.ofString a=Str.ofString b)=(a=b):=propext ⟨q7p,fun h=>by rw[h]⟩
end
noncomputable def tuprevW:W->Option W
 |.lst ws=>some (.tup ws.reverse)
 |_=>none
noncomputable def boolsW:List W->Option (List Bool)
 |[]=>some []
 |.bl b::ws=>(boolsW ws).map (b::·)
 |_=>none
noncomputable def int1:List W->Option W
 |[.int i]=>some (.int i)
 |[.bl b]=>some (.int (if b then 1 else 0))
 |_=>none
theorem x7d:Op1 K (fun x H1 Q=>∃p ys,x=.ref p/\SqL K H1 p ys/\∀l,H1 l=none->Q (.ref l) (upd H1 l (.tup ys.reverse))) tuprevW:=by
 intro G H x wx w Q s px hf h;unfold tuprevW at hf;split at hf
 ·cases hf;obtain⟨a,xs,rfl,ha,ra⟩:=px;refine⟨a,xs,rfl,s.seq ha,fun l hl=>?_⟩
  have g:=Grow.laid s hl (.tup xs.reverse);exact h _ _ _ g ⟨l,_,rfl,SqT.of q0h,Reps.mono g.gg _ ra.reverse⟩
 ·cases hf
theorem q9j:∀{ws:List W}{bs:List Bool},boolsW ws=some bs->ws=bs.map .bl
 |[],bs,h=>by cases h;rfl
 |.bl b::ws,bs,h=>by
  obtain⟨cs,h1,rfl⟩:=w0f.mp (show(boolsW ws).map (b::·)=some bs from h);rw[q9j h1];rfl
 |.non::ws,bs,h=>by cases h
 |.int _::ws,bs,h=>by cases h
 |.str _::ws,bs,h=>by cases h
 |.tup _::ws,bs,h=>by cases h
 |.lst _::ws,bs,h=>by cases h
 |.exc _::ws,bs,h=>by cases h
theorem x0x:∀(bs:List Bool),boolsW (bs.map .bl)=some bs
 |[]=>rfl
 |b::bs=>by
  show(boolsW (bs.map W.bl)).map (b::·)=_;rw[x0x bs];rfl
theorem q9k:∀{bs:List Bool}{xs:List V},Reps K G (bs.map W.bl) xs->xs=bs.map V.bl
 |[],xs,h=>h
 |b::bs,xs,h=>by
  obtain⟨x,r,rfl,h1,h2⟩:=h;rw[q9k h2,show x=V.bl b from h1];rfl
theorem y7t:OpN K (fun xs H Q=>(∃i,xs=[.int i]/\Q (.int i) H)\/∃k,xs=[.bl k]/\Q (.int (if k then 1 else 0)) H) int1:=by
 intro G H xs ws w Q s pr hf h;unfold int1 at hf;split at hf
 ·cases hf;obtain⟨x,r,rfl,px,pr⟩:=pr;cases(show r=[]from pr);cases px;exact .inl ⟨_,rfl,h G _ H (.refl s) rfl⟩
 ·cases hf;obtain⟨x,r,rfl,px,pr⟩:=pr;cases(show r=[]from pr);cases px;exact .inr ⟨_,rfl,h G _ H (.refl s) rfl⟩
 ·cases hf
section
variable{a b c e:Expr}{p pos1 pos2:Pos}
theorem x7e(hc:X.calm=true)(hm1:X.mg "tuple"=none)(hm2:X.mg "reversed"=none)(he:DE Z X EE e da)(hg1:Gl X "tuple":=by rfl)(hg2:Gl X "reversed":=by rfl)
  (hs1:starEach [.Call (.Name "reversed" p2) [e] [] pos2] X.env=(false,eval (.Call (.Name "reversed" p2) [e] [] pos2) X.env)::starEach [] X.env:=by rfl)(hs2:starEach [e] X.env=(false,eval e X.env)::starEach [] X.env:=by rfl):
  DE Z X EE (.Call (.Name "tuple" p1) [.Call (.Name "reversed" p2) [e] [] pos2] [] pos1) (dUn tuprevW da):=PE.mono (x6n hc hm1 hm2 he hg1 hg2 hs1 hs2) (y2w x7d)
theorem x4c(hm:X.mg "int"=none)(ha:DA Z X EE [e] dA)(hg:Gl X "int":=by rfl)(he:starEach [e] X.env=(false,eval e X.env)::starEach [] X.env:=by rfl)(hpl:(backTo pos (starEach [] X.env)).any (·.1)=false:=by rfl):DE Z X EE (.Call (.Name "int" p) [e] [] pos) (dFn int1 dA):=
 x6s x6g y7t PyProof.Rows.Boot.«int» hm ha hg (by decide) (by decide) he hpl
end
theorem x93:tuprevW (.lst ws)=some (.tup ws.reverse):=rfl
theorem y91{i:Int}:int1 [.int i]=some (.int i):=rfl
theorem y92{b:Bool}:int1 [.bl b]=some (.int (if b then 1 else 0)):=rfl
theorem cast0:((0:Nat):Int)=0:=rfl
theorem cast1:((1:Nat):Int)=1:=rfl
theorem x7f{b:List S->SR}(I:Nat->List S->Prop):∀(ws:List W)(k:Nat)(e:List S),I k e->(∀(j:Nat)(w:W)(e:List S),ws[j]?=some w->I (k+j) e->∃e',b (e.set i (.fr w))=.nx e'/\I (k+j+1) e')->∃e',forD i b ws e=.nx e'/\I (k+ws.length) e'
 |[],k,e,h0,_=>⟨e,rfl,h0⟩
 |w::ws,k,e,h0,h=>by
  obtain⟨e1,h1,h2⟩:=h 0 w e rfl h0
  obtain⟨e2,h3,h4⟩:=x7f I ws (k+1) e1 h2 fun j u e hu hI=>by
   have z:=h (j+1) u e (by simpa using hu) (by rw[show k+(j+1)=k+1+j by omega];exact hI);rw[show k+(j+1)+1=k+1+j+1 by omega]at z;exact z
  refine⟨e2,?_,?_⟩
  ·rw[q57,h1,q97,h3]
  ·rw[w1l,show k+(ws.length+1)=k+1+ws.length by omega];exact h4
theorem mem_range(h:w∈rangeW lo hi):∃k:Nat,w=.int (lo+k)/\(k:Int)<hi-lo:=by
 unfold rangeW at h;obtain⟨k,h1,rfl⟩:=w0n.mp h;rw[w1m]at h1;exact⟨k,rfl,by omega⟩
theorem len_range:(rangeW lo hi).length=(hi-lo).toNat:=by simp[rangeW]
theorem x7g(h:(rangeW lo hi)[j]?=some w):w=.int (lo+j)/\j<(hi-lo).toNat:=by
 unfold rangeW at h;rw[w0r]at h;obtain⟨k,h1,rfl⟩:=w0f.mp h;obtain⟨h2,h3⟩:=w0b.mp h1;simp at h2 h3;subst h3;exact⟨rfl,by omega⟩
theorem q25{b:List S->SR}(n:Nat)(hn:(hi-lo).toNat=n)(I:Nat->List S->Prop)(e:List S)(h0:I 0 e)(h:∀(j:Nat)(e:List S),j<n->I j e->∃e',b (e.set i (.fr (.int (lo+j))))=.nx e'/\I (j+1) e'):∃e',forD i b (rangeW lo hi) e=.nx e'/\I n e':=by
 obtain⟨e',h1,h2⟩:=x7f (b:=b) (i:=i) I (rangeW lo hi) 0 e h0 fun j w e hw hI=>by
  obtain⟨rfl,hj⟩:=x7g hw;rw[w2p]at hI |-
  exact h j e (by omega) hI
 rw[len_range,hn,w2p]at h2;exact⟨e',h1,h2⟩
noncomputable def dLend(F:List W->FR)(i:Nat)(dA:Den (List W)):Den W:=fun e=>match e[i]? with
 |some (.own _ _)=>(dA e).bind fun us e1=>match e1[i]? with
  |some (.own _ ws)=>match F (.lst ws::us)with
   |.ok (.fr w)=>if scalW w=true then .ok w e1 else .no
   |_=>.no
  |_=>.no
 |_=>.no
theorem q9l(l : Addr)(items : Array Value)(n : Nat)(b : Addr)(items2 : Array Value)(n2 : Nat)(T : String)(hT : T = "list" \/ T = "tuple")(hs0 : ¬(!items.isEmpty && Builtin.List.listTooLong (items.size + items2.size)) = true)(hs1 : items.size <= sizeLine)(hs2 : items.size + items2.size <= sizeLine + 1) :
  Meets (Builtin.«list.extend» { pos := [Value.ref l, Value.ref b] }) fun _ R s =>
     s.heap.get? l = some { cls := Value.type "list", data := Data.seq items n } /\
      (∃ o, s.heap.get? b = some o /\ o.cls = .type T /\ o.data = Data.seq items2 n2) /\
       R (Except.ok (Flow.ret Value.none)) { s with heap := s.heap.update l (Obj.mapSeq fun x => x ++ items2) } := by
 refine Meets.of_wp fun prog w A R s h => ?_
 obtain ⟨hl, ⟨o, hb, hc, hd⟩, h⟩ := h;obtain ⟨cls, dict, data, slots⟩ := o;simp only at hc hd;subst hc hd;refine wpAny_bind (wpAny_bind (wpAny_ite_true rfl (wpAny_pure (wpAny_pure ?_))));refine wpAny_bind (wpAny_bind (AutoSeq1.wpAny_loadPart' hb (wpAny_pure (wpAny_ite_true ?_ ?_))))
 ·rcases hT with rfl | rfl <;> simp
 refine wpAny_bind (wpAny_bind (wpAny_bind (wpAny_load' hb (wpAny_pure (wpAny_pure ?_)))));refine wpAny_bind (wpAny_bind (wpAny_bind (wpAny_load' hl (wpAny_pure (wpAny_pure ?_)))));refine wpAny_ite_false (by simpa using hs0) ?_;exact wpAny_bind (wpAny_updateSeq hl rfl (wpAny_pure ⟨_, rfl, h⟩) hs1 (by rw [Array.size_append]; exact hs2))
def rExt(K:PySem.W.Frag):V->List V->Hp->VK->Prop:=fun x vs H Q=>∃l b xs zs,x=.ref l/\vs=[.ref b]/\H l=some (.lst xs)/\(SqL K H b zs\/SqT K H b zs)/\xs.length+zs.length<=sizeLine/\Q .non (upd H l (.lst (xs++zs)))
theorem y7u:MtM X "list.extend" (rExt X.K):=by
 intro pins s σ H x vs v us Q I rx rv h;obtain⟨l,b,xs,zs,rfl,rfl,hH,hB,hz,q⟩:=h;cases rx;obtain⟨u,rfl,ru⟩:=rv.one;cases ru;obtain⟨z,its,n,r,hl,e⟩:=I.lstM hH
 have fin:∀(T:String)(its2:List Value)(n2:Nat)(o:Obj),T="list"\/T="tuple"->Vals zs its2->s.heap.get? b=some o->o.cls=.type T->o.data=.seq its2.toArray n2->wpAny (model X.prog X.w) X.A (call (.builtin "list.extend") [.ref l,.ref b]) (EP X pins σ Q) X.xe s:=fun T its2 n2 o hT r2 e2 hc hd=>by
  have hl2:=r2.length;have hsz:its.toArray.size+its2.toArray.size<=sizeLine:=by rw[w0c,w0c];omega
  have hlong:¬(!its.toArray.isEmpty&&Builtin.List.listTooLong (its.toArray.size+its2.toArray.size))=true:=by
   rw[notLongL hsz,w4a];exact w4e
  refine call_meets F.slot_list_extend ⟨_,e,rfl⟩ F.entry_list_extend (F.args_list_extend_2 _ _)
   (q9l l its.toArray n b its2.toArray n2 T hT hlong (by rw[w0c];omega) (by omega)) ⟨e,⟨o,e2,hc,hd⟩,?_⟩
  refine⟨.non,_,I.lset (its':=its++its2) hH e (by simp) (r.append r2) ?_,rfl,q⟩;rw[w0q];omega
 rcases hB with hB|hB
 ·obtain⟨its2,r2,pl,_⟩:=I.list hB;obtain⟨o,e2,hc,n2,hd⟩:=pl.isList;exact fin "list" its2 n2 o (.inl rfl) r2 e2 hc hd
 ·obtain⟨its2,r2,⟨o,e2,hc,n2,hd⟩,_⟩:=I.tuple hB;exact fin "tuple" its2 n2 o (.inr rfl) r2 e2 hc hd
noncomputable def dExt(i:Nat)(d:Den (List W)):List S->SR:=fun e=>match e[i]? with
 |some (.own _ _)=>(d e).stm fun ws e1=>match ws,e1[i]? with
  |[w],some (.own b xs)=>match seqW w with
   |some ys=>if xs.length+ys.length<=16777216 then .nx (e1.set i (.own b (xs++ys)))else .no
   |none=>.no
  |_,_=>.no
 |_=>.no
section
variable{e:Expr}{p:Pos}
theorem y7v(i:Nat)(ha:DA Z X EE (e::es) dA)(hN:X.N[i]?=some x:=by rfl)(hv:Vis X.env.scope x:=by walk_at "1")(hd:(x==("__debug__":Str))=false:=by decide)(hcd:(x==("__classdict__":Str))=false:=by decide)
  (hbase:attributeBase (.Name x p) "extend" X.env (eval (.Name x p) X.env)=eval (.Name x p) X.env:=by rfl)
  (hfew:((backTo cpos (starEach (e::es) X.env)).all (fun x=>!x.1)&&(backToKw cpos (keywordEach [] X.env)).all (fun x=>x.1.isSome)&&decide ((e::es).length+([]:List Keyword).length+(if([]:List Keyword).isEmpty then 0 else 1)<30))=true:=by rfl)
  (hline:(apos.endLine==cpos.line)=true:=by rfl)(hs:starEach (e::es) X.env=(false,eval e X.env)::starEach es X.env:=by rfl)(hplain:(backTo cpos (starEach es X.env)).any (·.1)=false:=by rfl)
  (hsw:swapsWith (.Call (.Attribute (.Name x p) "extend" apos) (e::es) [] cpos) none pos.line X.env=pure false:=by rfl):
  DS Z X EE (.Expr (.Call (.Attribute (.Name x p) "extend" apos) (e::es) [] cpos) pos) (dExt i dA):=by
 refine PS.mono (q6j (x4w PySem.F.plainAttrs_list PySem.F.slot_list_extend PySem.F.type_list_extend y7u (pv i hN hv hd hcd) ha hbase hfew hline hs hplain) hsw) ?_;rintro D σ H ⟨G,e,rel,h⟩;unfold dExt at h;split at h
 ·rename_i b0 ws0 he0;obtain⟨a,xs,h1,h2,h3,h4,h5⟩:=rel.own he0;refine⟨.ref a,h1,.inl ⟨rfl,xs,SqL.of h2⟩,G,e,rel,(q04 h).imp (fun ws e1 h G1 vs H1 r1 s1 p1=>?_) fun _ _ h=>h⟩
  split at h
  ·rename_i w b ys he1;obtain⟨a',zs,g1,g2,g3,g4,g5⟩:=r1.own he1;rw[h1]at g1;cases g1;obtain⟨y,r,rfl,py,pr⟩:=p1;cases(show r=[]from pr);split at h
   ·rename_i us hu;split at h
    ·rename_i hl
     have step:∀c cs,y=.ref c->(SqL X.K G1 c cs\/SqT X.K G1 c cs)->Reps X.K G1 us cs->rExt X.K (.ref a) [y] H1 (fun v H'=>D.nx σ H'):=fun c cs hy hq hr=>by
      subst hy;refine⟨a,c,zs,cs,rfl,rfl,g2,?_,by rw[g5.length,hr.length,sizeLine_eq];exact hl,?_⟩
      ·rcases hq with q|q
       ·exact .inl (r1.sub.seq q)
       ·exact .inr (r1.sub.tup q)
      ·exact h G1 σ _ (r1.mut he1 h1 (g5.append hr)) s1
     unfold seqW at hu;split at hu
     ·cases hu;obtain⟨c,cs,hy,q,hr⟩:=py;exact step c cs hy (.inr q) hr
     ·cases hu;obtain⟨c,cs,hy,q,hr⟩:=py;exact step c cs hy (.inl q) hr
     ·cases hu
    ·exact h.elim
   ·exact h.elim
  ·exact h.elim
 ·exact h.elim
end
noncomputable def dPut(i:Nat)(dv dk:Den W):List S->SR:=fun e=>(dv e).stm fun w e1=>match e1[i]? with
 |some (.own _ _)=>(dk e1).stm fun k e2=>match k,e2[i]? with
  |.int k,some (.own b ws)=>match ixN ws.length k with
   |some j=>.nx (e2.set i (.own b (ws.set j w)))
   |none=>.no
  |_,_=>.no
 |_=>.no
section
variable{e k:Expr}{p tpos:Pos}
theorem q6n(i:Nat)(he:DE Z X EE e d)(hk:DE Z X EE k dk)(hN:X.N[i]?=some x:=by rfl)(hv:Vis X.env.scope x:=by walk_at "1")(hd:(x==("__debug__":Str))=false:=by decide)(hcd:(x==("__classdict__":Str))=false:=by decide)
  (ha:∀v,assign (.Subscript (.Name x p) k tpos) X.env v=(do
   let ov <- holding [v] (eval (.Name x p) X.env)
   let iv <- holding [v,ov] (eval k X.env)
   standAt tpos
   holding [v,ov,iv] (setItem ov iv v)
   release [v,ov,iv] []):=by intro _;rfl)
  (hs:swapsWithSole [.Subscript (.Name x p) k tpos] e pos.line X.env=pure false:=by rfl)(hw:swappedStores [.Subscript (.Name x p) k tpos] e X.env=pure none:=by rfl)
  (h1:(assignEach [.Subscript (.Name x p) k tpos] X.env).map (·.2)=[assign (.Subscript (.Name x p) k tpos) X.env]:=by rfl):
  DS Z X EE (.Assign [.Subscript (.Name x p) k tpos] e pos) (dPut i d dk):=by
 refine PS.mono (x6b he (y5s (pv i hN hv hd hcd) hk x89 ha) hs hw h1) ?_;rintro D σ H ⟨G,e,rel,h⟩;refine⟨G,e,rel,(q04 h).imp (fun w e1 h G1 v1 H1 r1 s1 p1=>?_) fun _ _ h=>h⟩
 split at h
 ·rename_i b0 ws0 he0;obtain⟨a,xs,q1,q2,q3,q4,q5⟩:=r1.own he0;refine⟨.ref a,q1,G1,e1,r1,(q04 (σ:=σ) h).imp (fun kw e2 h G2 v2 H2 r2 s2 p2=>?_) fun _ _ h G' H' r s=>h G' H' r (s1.trans s)⟩
  ·split at h
   ·rename_i kk b ws he2;obtain⟨a',zs,g1,g2,g3,g4,g5⟩:=r2.own he2;rw[q1]at g1;cases g1;cases p2;split at h
    ·rename_i j hj;refine⟨a,zs,_,j,rfl,rfl,g2,by rw[g5.length];exact hj,?_⟩;exact h G2 σ _ (r2.mut he2 q1 (g5.set j (Rep.mono s2 w p1))) (s1.trans s2)
    ·exact h.elim
   ·exact h.elim
 ·exact h.elim
end
noncomputable def SR.turnT(r:SR)(k:List S->SR):SR:=match r with
 |.nx e'=>k e'
 |.ct e'=>k e'
 |.bk e'=>.nx e'
 |.rt s e'=>.rt s e'
 |.ex c e'=>.ex c e'
 |.no=>.no
structure TabK(P:Program)(w:World)(K:PySem.W.Frag)(d:Addr)(tb:List (Str×Int)):Prop where
 tab:∀h,K.In h->PyProof.Rows.StrTab P w h d (PySem.W.kdpD tb)
 obj:∃o,K.lookup d=some o/\o.cls=.type "dict" /\ o.dict=none
noncomputable def putC(i:Nat)(e:List S)(b:Option Nat)(ws:List W)(w:W):Option Nat->SR
 |some j=>.nx (e.set i (.own b (ws.set j w)))
 |none=>.no
noncomputable def putB(i:Nat)(e:List S)(w:W):W->Option S->SR
 |.int k,some (.own b ws)=>putC i e b ws w (ixN ws.length k)
 |_,_=>.no
noncomputable def putA(i:Nat)(dk:Den W)(w:W)(e:List S):Option S->SR
 |some (.own _ _)=>(dk e).stm fun k e2=>putB i e2 w k e2[i]?
 |_=>.no
theorem y7w{dv:Den W}:dPut i dv dk e=(dv e).stm fun w e1=>putA i dk w e1 e1[i]?:=by
 unfold dPut;congr 1
theorem x94:putA i dk w e (some (.own b ws))=(dk e).stm fun k e2=>putB i e2 w k e2[i]?:=rfl
theorem x95{k:Int}:putB i e w (.int k) (some (.own b ws))=putC i e b ws w (ixN ws.length k):=rfl
theorem x7h:putC i e b ws w (some j)=.nx (e.set i (.own b (ws.set j w))):=rfl
noncomputable def lendC(e:List S):FR->R W
 |.ok (.fr w)=>if scalW w=true then .ok w e else .no
 |_=>.no
noncomputable def lendB(F:List W->FR)(us:List W)(e:List S):Option S->R W
 |some (.own _ ws)=>lendC e (F (.lst ws::us))
 |_=>.no
noncomputable def lendA(F:List W->FR)(i:Nat)(dA:Den (List W))(e:List S):Option S->R W
 |some (.own _ _)=>(dA e).bind fun us e1=>lendB F us e1 e1[i]?
 |_=>.no
theorem y34:dLend F i dA e=lendA F i dA e e[i]?:=by
 unfold dLend lendA;cases e[i]? with
 |none=>rfl
 |some s=>cases s with
  |own b ws=>
   dsimp only;congr 1
  |_=>rfl
theorem x7i:lendA F i dA e (some (.own b ws))=(dA e).bind fun us e1=>lendB F us e1 e1[i]?:=rfl
theorem x7j:lendB F us e (some (.own b ws))=lendC e (F (.lst ws::us)):=rfl
theorem x96:lendC e (.ok (.fr w))=if scalW w=true then .ok w e else .no:=rfl
noncomputable def extB(i:Nat)(e:List S)(b:Option Nat)(xs:List W):Option (List W)->SR
 |some ys=>if xs.length+ys.length<=16777216 then .nx (e.set i (.own b (xs++ys)))else .no
 |none=>.no
noncomputable def extA(i:Nat)(e:List S):List W->Option S->SR
 |[w],some (.own b xs)=>extB i e b xs (seqW w)
 |_,_=>.no
noncomputable def ext0(i:Nat)(d:Den (List W))(e:List S):Option S->SR
 |some (.own _ _)=>(d e).stm fun ws e1=>extA i e1 ws e1[i]?
 |_=>.no
theorem y7x{d:Den (List W)}:dExt i d e=ext0 i d e e[i]?:=by
 unfold dExt ext0;cases e[i]? with
 |none=>rfl
 |some s=>cases s with
  |own b ws=>
   dsimp only;congr 1
  |_=>rfl
theorem x97{d:Den (List W)}{xs:List W}:ext0 i d e (some (.own b xs))=(d e).stm fun ws e1=>extA i e1 ws e1[i]?:=rfl
theorem x98{xs:List W}:extA i e [w] (some (.own b xs))=extB i e b xs (seqW w):=rfl
theorem x7k{xs ys:List W}:extB i e b xs (some ys)=if xs.length+ys.length<=16777216 then .nx (e.set i (.own b (xs++ys)))else .no:=rfl
noncomputable def forP(i j:Nat)(b:List S->SR):List (W×W)->List S->SR
 |[],e=>.nx e
 |p::ps,e=>(b ((e.set i (.fr p.1)).set j (.fr p.2))).turnT (forP i j b ps)
noncomputable def dForP(i j:Nat)(d:Den (List (W×W)))(b:List S->SR):List S->SR:=fun e=>(d e).stm fun ps e1=>forP i j b ps e1
noncomputable def compP(c:Den Bool)(d:Den W)(pe:List S):List (W×W)->Option (List W)
 |[]=>some []
 |p::ps=>match c (.fr p.1::.fr p.2::pe)with
  |.ok true e1=>match d e1 with
   |.ok y _=>(compP c d pe ps).map (y::·)
   |_=>none
  |.ok false _=>compP c d pe ps
  |_=>none
noncomputable def compPK(js:List Nat)(c:Den Bool)(d:Den W)(ps:List (W×W))(e1:List S):R (List W):=
 if ps.length<=16777216 then(match compP c d (pjS js (frzs js e1)) ps with
  |some out=>.ok out (frzs js e1)
  |none=>.no)else .no
noncomputable def dCompP(js:List Nat)(di:Den (List (W×W)))(c:Den Bool)(d:Den W):Den (List W):=fun e=>(di e).bind fun ps e1=>compPK js c d ps e1
structure Walk2(K:PySem.W.Frag)(G1:Hp)(J:It)(ps:List (W×W)):Prop where
 go:∀(i:Nat)(G H:Hp),Same G1 G->Same G H->i<ps.length->J.go i H
 yld:∀(i:Nat)(G H:Hp)(x:V)(H':Hp),Same G1 G->Same G H->J.yld i H x H'->∀u v,ps[i]?=some (u,v) ->
  Grow G H G H'/\∀(m n:Nat)(σ:St)(Q:St->Hp->Prop),(∀y z,Rep K G u y->Rep K G v z->Q ((σ.set m (some y)).set n (some z)) H')->gTup K 2 (gCons (gName m) (gCons (gName n) gNil)) x σ H' Q
 stop:∀(i:Nat)(G H:Hp),Same G1 G->Same G H->ps.length<=i->J.stop i H
def liftI(K:PySem.W.Frag)(Z:Zt)(EE:St->XK)(d:Den (List (W×W))):TI:=fun σ H R=>AtG K Z σ H fun G e=>(d e).holds (fun ps e1=>∀G1 H1 J,Rel K Z G1 σ H1 e1->Same G G1->Walk2 K G1 J ps->R J H1) (XH K Z EE σ G)
def DI(Z:Zt)(X:Cx)(EE:St->XK)(tg iter:Expr)(d:Den (List (W×W))):Prop:=PI X tg iter (liftI X.K Z EE d)
theorem PI.mono{tg iter:Expr}{wi wi':TI}(h:PI X tg iter wi)(m:∀σ H R,wi' σ H R->wi σ H R):PI X tg iter wi':=fun pins s σ H R I q=>h pins s σ H R I (m σ H R q)
theorem x7l{D:Ends}{Pv:St->Hp->Prop}{p:W×W}{x y:V}(r:Rel K Z G' σ H e)(s:Same G1 G')(pu:Rep K G' p.1 x)(pv:Rep K G' p.2 y)
  (h:PostS K Z EE D G1 (forP i j s1 (p::ps) e))(hP:∀G'' σ'' H'' e'',Rel K Z G'' σ'' H'' e''->Same G1 G''->PostS K Z EE D G1 (forP i j s1 ps e'')->Pv σ'' H''):
  liftS K Z EE s1 {D with nx:=Pv,ct:=Pv,bk:=D.nx} ((σ.set i (some x)).set j (some y)) H:=by
 refine⟨G',_,(r.set pu).set pv,?_⟩;unfold forP at h;cases q:s1 ((e.set i (.fr p.1)).set j (.fr p.2))with
 |nx e'=>rw[q]at h;exact fun G'' σ'' H'' r'' s''=>hP G'' σ'' H'' e' r'' (s.trans s'') h
 |ct e'=>rw[q]at h;exact fun G'' σ'' H'' r'' s''=>hP G'' σ'' H'' e' r'' (s.trans s'') h
 |bk e'=>rw[q]at h;exact fun G'' σ'' H'' r'' s''=>h G'' σ'' H'' r'' (s.trans s'')
 |rt t e'=>rw[q]at h;exact fun G'' σ'' v H'' r'' s'' p=>h G'' σ'' v H'' r'' (s.trans s'') p
 |ex c e'=>rw[q]at h;exact fun G'' σ'' H'' r'' s''=>h G'' σ'' H'' r'' (s.trans s'')
 |no=>rw[q]at h;exact h
theorem q9m{p:W×W}(h:ps[k]?=some p):ps.drop k=p::ps.drop (k+1):=by
 obtain⟨h1,h2⟩:=w0b.mp h;rw[w3g h1,h2]
theorem Rel.block2(r:Rel K Z G σ H e)(js:List Nat){u:W}{y x:V}(q:Rep K G u y)(p:Rep K G w x):Rel K ⟨H,G,[]⟩ G (some y::some x::pj js σ) H (.fr u::.fr w::pjS js e):=by
 have b:=r.block js p
 have hfr:∀(i:Nat)(s:S),(S.fr w::pjS js e)[i]?=some s->s=.no\/∃u,s=.fr u:=fun i s h=>by
  cases i with
  |zero=>cases h;exact .inr ⟨w,rfl⟩
  |succ k=>
   rw[w0h]at h;unfold pjS at h;rw[w0r]at h;obtain⟨j,h1,h2⟩:=w0f.mp h;unfold pj1 at h2;split at h2
   ·subst h2;exact .inr ⟨_,rfl⟩
   ·subst h2;exact .inl rfl
 refine⟨b.sub,fun i s h=>?_,?_,fun i j b1 b2 w1 w2 a h1 h2 _ _=>?_,b.ent,b.ion,b.gen⟩
 ·cases i with
  |zero=>cases h;exact⟨y,rfl,q⟩
  |succ i=>
   rw[w0h]at h;have z:=b.slot i s h;rcases hfr i s h with rfl|⟨u',rfl⟩
   ·trivial
   ·obtain⟨v,z1,z2⟩:=b.fr h;exact⟨v,by rw[w0h,z1];rfl,z2⟩
 ·have:=b.len;simp only[w1l]at this |-
  omega
 ·cases i with
  |zero=>cases h1
  |succ i=>
   rw[w0h]at h1;rcases hfr i _ h1 with z|⟨u',z⟩<;>cases z
theorem x99{J:It}{out:List W}{Q:VK}{G0 H1:Hp}{e1:List S}(W0:Walk2 K G1 J ps)(r1:Rel K Z G1 σ H1 e1)(s1:Same G0 G1)(hl:ps.length<=16777216)
  (hz:∀p,H1 p=none->p∉Z.io)(hc:compP c d (pjS js e1) ps=some out)
  (h:∀G' a xs H',Rel K Z G' σ H' e1->Same G0 G'->H' a=some (.lst xs)->G' a=none->Z.H a=none->Free σ e1 a->Reps K G' out xs->Q (.ref a) H'):
  ∀D,H1 D=none->∃W:Nat->Nat->Hp->Prop,(∃m,W 0 m (upd H1 D (.lst [])))/\∀i m H2,W i m H2 ->
   (J.stop i H2/\Q (.ref D) H2)\/(J.go i H2/\∀x H3,J.yld i H2 x H3->gTup K 2 (gCons (gName 0) (gCons (gName 1) gNil)) x (List.replicate 2 none++pj js σ) H3 fun σ4 H4=>Kp (List.replicate 2 none++pj js σ) σ4/\cT K c σ4 H4 fun b H5=>
    if b=true then cE K d σ4 H5 fun y H6=>∃ys,H6 D=some (.lst ys)/\ys.length<sizeLine/\∃m',m'<m/\W (i+1) m' (upd H6 D (.lst (ys++[y])))else ∃m',m'<m/\W (i+1) m' H5):=by
 intro D hD
 refine⟨fun i m H2=>m=ps.length-i/\i<=ps.length/\∃G2 ys done rest,Rel K Z G2 σ H2 e1/\Same G1 G2/\H2 D=some (.lst ys)/\G2 D=none/\Reps K G2 done ys/\done.length<=i/\compP c d (pjS js e1) (ps.drop i)=some rest/\done++rest=out,
  ⟨ps.length,by omega,w1f _,G1,[],[],out,r1.grow (Grow.hid r1.sub hD _),.refl _,q0h,r1.sub.free hD,rfl,w0e _,hc,rfl⟩,?_⟩
 rintro i m H2 ⟨rfl,hi,G2,ys,done,rest,r2,s2,hd2,hg2,rp2,hdl,hc2,ho⟩;have hfree:Free σ e1 D:=q55 r1 hD;have hzh:Z.H D=none:=q5m r1 hD
 by_cases hlt:i<ps.length
 ·refine .inr ⟨W0.go i G2 H2 s2 r2.sub hlt,fun x H3 hy=>?_⟩
  have hp:ps[i]?=some ((ps[i]).1,(ps[i]).2):=by rw[w0d hlt]
  obtain⟨g3,hgo⟩:=W0.yld i G2 H2 x H3 s2 r2.sub hy _ _ hp;have r2':=r2.grow g3;have hd3:H3 D=some (.lst ys):=g3.hh _ _ hd2;rw[q9m hp]at hc2;refine hgo 0 1 _ _ fun yv zv py pz=>⟨Kp.two,⟨H3,G2,[]⟩,G2,.fr (ps[i]).1::.fr (ps[i]).2::pjS js e1,r2'.block2 js py pz,?_⟩
  unfold compP at hc2;cases qc:c (.fr (ps[i]).1::.fr (ps[i]).2::pjS js e1)with
  |no=>rw[qc]at hc2;cases hc2
  |ex _ _=>rw[qc]at hc2;cases hc2
  |ok k e2=>
   rw[qc]at hc2;intro G3 H5 r3 s3;have g3:=r3.toGrow s3;cases k with
   |false=>
    exact⟨ps.length-(i+1),by omega,rfl,hlt,G3,ys,done,rest,r2'.grow g3,s2.trans s3,g3.hh _ _ hd3,by rw[g3.new D (by rw[hd3];simp)];exact hg2,Reps.mono s3 _ rp2,by omega,hc2,ho⟩
   |true=>
    refine⟨⟨H3,G2,[]⟩,G3,e2,r3,?_⟩;dsimp only at hc2;cases qd:d e2 with
    |no=>rw[qd]at hc2;cases hc2
    |ex _ _=>rw[qd]at hc2;cases hc2
    |ok y e3=>
     rw[qd]at hc2;intro G4 v H6 r4 s4 p4;have g4:=r4.toGrow (s3.trans s4);obtain⟨rest',hr,rfl⟩:=w0f.mp hc2;have hd6:H6 D=some (.lst ys):=g4.hh _ _ hd3;have hg6:G4 D=none:=by rw[g4.new D (by rw[hd3];simp)];exact hg2
     refine⟨ys,hd6,?_,ps.length-(i+1),by omega,rfl,hlt,G4,ys++[v],done++[y],rest',(r2'.grow g4).mutFree hg6 hzh (hz D hD) hfree hd6,s2.trans (s3.trans s4),q0h,hg6,(Reps.mono (s3.trans s4) _ rp2).append (.one p4),by simp;omega,hr,by rw[w1z];exact ho⟩;rw[rp2.length,sizeLine_eq];omega
 ·have:i=ps.length:=by omega
  subst this;rw[w2l]at hc2;cases hc2;rw[w0x]at ho;subst ho;exact .inl ⟨W0.stop _ G2 H2 s2 r2.sub (by omega),h G2 D ys H2 r2 (s1.trans s2) hd2 hg2 hzh hfree rp2⟩
section
variable{elt iter e a:Expr}{body:List Stmt}{ifs:List Expr}{scope sc:Scope}{pt p3:Pos}{Nf N:List Str}{di:Den (List (W×W))}{d0:Den W}
theorem y35(i j:Nat)(hN:X.N.Nodup)(hp:PassesOwn (model X.prog X.w) X.A X.env X.xe)(hc:X.calm=true)(hl:DI Z X EE (.Tuple [.Name x p1,.Name y p2] kt p3) e di)(hb:DSs Z X EE body s1)
  (hi:X.N[i]?=some x:=by rfl)(hx:Loc X.env.scope x:=by walk_at "3")(hf:X.fn x=true\/X.env.scope.names.lookup x=some .local:=by walk_at "2")
  (hj:X.N[j]?=some y:=by rfl)(hy:Loc X.env.scope y:=by walk_at "3")(hf':X.fn y=true\/X.env.scope.names.lookup y=some .local:=by walk_at "2")
  (hn:(assignEach [.Name x p1,.Name y p2] X.env).length=2:=by rfl)(hst:(assignEach [.Name x p1,.Name y p2] X.env).findIdx? (·.1)=none:=by rfl)
  (g1:(assignEach [.Name x p1,.Name y p2] X.env).map (·.2)=assign (.Name x p1) X.env::(assignEach [.Name y p2] X.env).map (·.2):=by rfl)(g2:(assignEach [.Name y p2] X.env).map (·.2)=assign (.Name y p2) X.env::(assignEach [] X.env).map (·.2):=by rfl)
  (hs:∀x,foldedSetIterable e X.env x=pure x:=by intro _;rfl):
  DS Z X EE (.For (.Tuple [.Name x p1,.Name y p2] kt p3) e body [] pos) (dForP i j di s1):=by
 refine PS.mono (q86 hp hc hl (x14 hc (q44 (q2r i hN hi hx hf) (q44 (q2r j hN hj hy hf') q90 g2) g1) hn hst) hb hs) ?_;rintro D σ H ⟨G,e,rel,h⟩;refine⟨G,e,rel,(q04 h).imp (fun ps e1 h G1 H1 J r1 q1 W0=>?_) fun _ _ h=>h⟩
 have h:=PostS.trans q1 h;refine⟨fun k m σ' H'=>m=ps.length-k/\k<=ps.length/\∃G' e',Rel X.K Z G' σ' H' e'/\Same G1 G'/\PostS X.K Z EE D G1 (forP i j s1 (ps.drop k) e'),⟨ps.length,by omega,w1f _,G1,e1,r1,.refl _,h⟩,?_⟩
 rintro k m σ' H' ⟨rfl,hk,G',e',r',s',h'⟩
 by_cases hlt:k<ps.length
 ·refine .inr ⟨W0.go k G' H' s' r'.sub hlt,fun σ'' H''=>∃G' e',Rel X.K Z G' σ'' H'' e'/\Same G1 G'/\PostS X.K Z EE D G1 (forP i j s1 (ps.drop (k+1)) e'),?_,fun v H2 hy=>?_⟩
  ·rintro σ'' H'' ⟨G'',e'',r'',s'',h''⟩;exact⟨ps.length-(k+1),by omega,rfl,hlt,G'',e'',r'',s'',h''⟩
  ·have hp:ps[k]?=some ((ps[k]).1,(ps[k]).2):=by rw[w0d hlt]
   obtain⟨g3,hgo⟩:=W0.yld k G' H' v H2 s' r'.sub hy _ _ hp;rw[q9m hp]at h';exact hgo i j σ' _ fun y z py pz=>x7l (p:=((ps[k]).1,(ps[k]).2)) (r'.grow g3) s' py pz h' fun G'' σ'' H'' e'' r'' s'' h''=>⟨G'',e'',r'',s'',h''⟩
 ·have:k=ps.length:=by omega
  subst this;rw[w2l]at h';exact .inl ⟨W0.stop _ G' H' s' r'.sub (by omega),h' G' σ' H' r' s'⟩
theorem x5c:∀σ H Q,liftF K Z EE (dCompP js di c d) σ H Q->tComp (liftI K Z EE di) 2 js (gTup K 2 (gCons (gName 0) (gCons (gName 1) gNil))) (cT K c) (cE K d) σ H Q:=by
 rintro σ H Q ⟨G,e,rel,h⟩;simp only[dCompP,R.holds_bind]at h;refine⟨G,e,rel,h.imp (fun ps e1 h G1 H1 J r1 s1 W0=>?_) fun _ _ h=>h⟩
 unfold compPK at h;split at h
 ·rename_i hl;split at h
  ·rename_i out ho;obtain⟨G2,s2,r2⟩:=r1.frzs js;have W1:Walk2 K G2 J ps:=⟨fun i G H a=>W0.go i G H (s2.trans a),fun i G H x H' a=>W0.yld i G H x H' (s2.trans a),fun i G H a=>W0.stop i G H (s2.trans a)⟩
   exact x99 W1 r2 (s1.trans s2) hl (ionone r2) ho h
  ·exact h.elim
 ·exact h.elim
theorem x2k(hc:X.calm=true)(hi:DI Z X EE (.Tuple [.Name x p1,.Name y p2] kt p3) iter di)(ok:compOk sc scope N Nf js=true)
  (ht:∀Z' cl C s₀ H₀ ex,DTs Z' (X.cp ([x,y]++Nf) scope cl C s₀ H₀ ex) (fun _=>E0) ifs c)(he:∀Z' cl C s₀ H₀ ex,DE Z' (X.cp ([x,y]++Nf) scope cl C s₀ H₀ ex) (fun _=>E0) elt d)
  (hg:∀cl C s₀ H₀ ex,PG (X.cp ([x,y]++Nf) scope cl C s₀ H₀ ex) (.Tuple [.Name x p1,.Name y p2] kt p3) (gTup X.K 2 (gCons (gName 0) (gCons (gName 1) gNil))))
  (hsc:X.env.scope=sc:=by rfl)(hN:X.N=N:=by rfl)(hs:∀x,foldedSetIterable iter X.env x=pure x:=by intro _;rfl):
  DF Z X EE (.ListComp elt [⟨.Tuple [.Name x p1,.Name y p2] kt p3,iter,ifs,0⟩] scope pos) (dCompP js di c d):=by
 exact PE.mono (q8l (Nl:=[x,y]) (tc:=cT X.K c) (te:=cE X.K d) hc hi ok hg (x45 ht) (x46 he) hsc hN hs) x5c
noncomputable def pairsW:List W->Option (List (W×W))
 |[]=>some []
 |.tup [u,v]::ws=>(pairsW ws).map ((u,v)::·)
 |_=>none
noncomputable def srcP(d:Den W):Den (List (W×W)):=fun e=>(d e).bind fun w e1=>match seqW w with
 |some ws=>ofOpt (pairsW ws) e1
 |none=>.no
theorem x0y:∀{ws:List W}{ps:List (W×W)},pairsW ws=some ps->ws.length=ps.length/\∀(i:Nat) u v,ps[i]?=some (u,v)->ws[i]?=some (.tup [u,v])
 |[],ps,h=>by cases h;exact⟨rfl,fun i u v z=>by simp at z⟩
 |w::ws,ps,h=>by
  unfold pairsW at h;split at h
  ·rename_i z;cases z
  ·rename_i u v ws' z;cases z;obtain⟨q,hq,rfl⟩:=w0f.mp h;obtain⟨h1,h2⟩:=x0y hq;refine⟨by simp[h1],fun i u' v' z=>?_⟩
   cases i with
   |zero=>simp at z;simp[z.1,z.2]
   |succ i=>simp only[w0h]at z |-;exact h2 i _ _ z
  ·cases h
theorem x0z{J:It}{SQ:Hp->Prop}(W0:Walk J xs SQ)(rp:Reps K G1 ws xs)(hp:pairsW ws=some ps)(hSQ:∀G' H',Same G1 G'->Same G' H'->SQ H'):Walk2 K G1 J ps:=by
 obtain⟨hl,hg⟩:=x0y hp;have hx:=rp.length;refine⟨fun i G H a b h=>W0.go i H (hSQ G H a b) (by omega),fun i G H x H' a b hy u v h=>?_,fun i G H a b h=>W0.stop i H (hSQ G H a b) (by omega)⟩
 have hlt:i<ps.length:=(w0b.mp h).1;obtain⟨rfl,hx'⟩:=W0.yld i H x H' (hSQ G H a b) hy (by omega);refine⟨Grow.refl b,fun m n σ Q hQ=>?_⟩
 obtain⟨w,hw,pw⟩:=rp.getV hx';rw[hg i u v h]at hw;cases hw;have pw:=Rep.mono a _ pw;obtain⟨c,ys,rfl,hq,y1,q1,rfl,p1,y2,q2,rfl,p2,rfl⟩:=pw;exact⟨c,[y1,y2],rfl,b.tup hq,rfl,y1,[y2],rfl,y2,[],rfl,rfl,hQ y1 y2 p1 p2⟩
theorem q8p{tg l:Expr}(hl:DE Z X EE l d0):DI Z X EE tg l (srcP d0):=by
 refine PI.mono (q9d hl) ?_;rintro σ H RR ⟨G,e,rel,h⟩;simp only[srcP,R.holds_bind]at h;refine⟨G,e,rel,h.imp (fun w e1 h G1 v1 H1 r1 s1 p1=>?_) fun _ _ h=>h⟩
 split at h
 ·rename_i ws hw;obtain⟨ps,hp,h⟩:=ofOpt_holds.mp h;cases w with
  |tup us=>
   cases hw;obtain⟨a,xs,rfl,hq,rp⟩:=p1;exact⟨a,rfl,.inr ⟨⟨xs,r1.sub.tup hq⟩,h _ _ _ r1 s1 (x0z x2e rp hp fun G' H' s s'=>Same.tup s' (Same.tup s hq))⟩⟩
  |lst us=>
   cases hw;obtain⟨a,xs,rfl,hq,rp⟩:=p1;exact⟨a,rfl,.inl ⟨⟨xs,r1.sub.seq hq⟩,h _ _ _ r1 s1 (x0z x2d rp hp fun G' H' s s'=>Same.seq s' (Same.seq s hq))⟩⟩
  |_=>cases hw
 ·exact h.elim
end
theorem x7m{p3:Pos}(hN:X.N.Nodup)(hc:X.calm=true)
  (hi:X.N[0]?=some x:=by rfl)(hx:Loc X.env.scope x:=by walk_at "3")(hf:X.fn x=true\/X.env.scope.names.lookup x=some .local:=by walk_at "2")
  (hj:X.N[1]?=some y:=by rfl)(hy:Loc X.env.scope y:=by walk_at "3")(hf':X.fn y=true\/X.env.scope.names.lookup y=some .local:=by walk_at "2")
  (hn:(assignEach [.Name x p1,.Name y p2] X.env).length=2:=by rfl)(hst:(assignEach [.Name x p1,.Name y p2] X.env).findIdx? (·.1)=none:=by rfl)
  (g1:(assignEach [.Name x p1,.Name y p2] X.env).map (·.2)=assign (.Name x p1) X.env::(assignEach [.Name y p2] X.env).map (·.2):=by rfl)(g2:(assignEach [.Name y p2] X.env).map (·.2)=assign (.Name y p2) X.env::(assignEach [] X.env).map (·.2):=by rfl):
  PG X (.Tuple [.Name x p1,.Name y p2] kt p3) (gTup X.K 2 (gCons (gName 0) (gCons (gName 1) gNil))):=
 x14 hc (q44 (q2r 0 hN hi hx hf) (q44 (q2r 1 hN hj hy hf') q90 g2) g1) hn hst
section
variable{di:Den (List (W×W))}{b:List S->SR}{c:Prop} [Decidable c]{s t:SR}{k:List S->SR}{v:Value}{st:S}
theorem y36:dForP i j di b e=(di e).stm fun ps e1=>forP i j b ps e1:=rfl
theorem y0a:(SR.nx e).turnT k=k e:=rfl
theorem y0b:(SR.ct e).turnT k=k e:=rfl
theorem y0c:(SR.bk e).turnT k=.nx e:=rfl
theorem y0d:(SR.rt st e).turnT k=.rt st e:=rfl
theorem y0e:(SR.ex v e).turnT k=.ex v e:=rfl
theorem y0f:(SR.no).turnT k=.no:=rfl
theorem x7n:(if c then s else t).turnT k=if c then s.turnT k else t.turnT k:=by split<;>rfl
noncomputable def srcPW(e:List S):Option (List W)->R (List (W×W))
 |some ws=>ofOpt (pairsW ws) e
 |none=>.no
theorem y7y:srcP d e=(d e).bind fun w e1=>srcPW e1 (seqW w):=by
 unfold srcP;congr 1
theorem x5d:srcPW e (some ws)=ofOpt (pairsW ws) e:=rfl
theorem y0g:compPK js cc d ps e=if ps.length<=16777216 then compR (frzs js e) (compP cc d (pjS js (frzs js e)) ps)else .no:=by
 unfold compPK compR;split
 ·cases compP cc d (pjS js (frzs js e)) ps<;>rfl
 ·rfl
theorem y0h:dCompP js di cc d e=(di e).bind fun ps e1=>compPK js cc d ps e1:=rfl
theorem x5e{p:W×W}:compP cc d pe (p::ps)=(match cc (.fr p.1::.fr p.2::pe)with
  |.ok true e1=>(match d e1 with|.ok y _=>(compP cc d pe ps).map (y::·)|_=>none)
  |.ok false _=>compP cc d pe ps
  |_=>none):=rfl
theorem q5o{cc:Den Bool}{d:Den W}{pe:List S}{q:W×W->Bool}{g:W×W->W}:∀(ps:List (W×W)),(∀p∈ps,∃e1,cc (.fr p.1::.fr p.2::pe)=.ok (q p) e1/\(q p=true->∃e2,d e1=.ok (g p) e2))->compP cc d pe ps=some ((ps.filter q).map g)
 |[],_=>rfl
 |p::ps,h=>by
  obtain⟨e1,h1,h2⟩:=h p (by simp);have ih:=q5o (cc:=cc) (d:=d) (pe:=pe) (q:=q) (g:=g) ps fun u hu=>h u (by simp[hu])
  rw[x5e,h1,ih];cases hq:q p with
  |true=>
   obtain⟨e2,h3⟩:=h2 hq;simp only[hq,h3,List.filter_cons,if_true];rfl
  |false=>simp[hq,List.filter_cons]
end
noncomputable def intsW:List W->Option (List Int)
 |[]=>some []
 |.int x::r=>(intsW r).map (x::·)
 |_=>none
theorem x2l:∀{ws:List W}{ys:List Int}{xs:List V},intsW ws=some ys->Reps K G ws xs->xs=ys.map V.int
 |[],ys,xs,h,r=>by cases h;cases(show xs=[]from r);rfl
 |w::ws,ys,xs,h,r=>by
  unfold intsW at h;split at h
  ·rename_i z;cases z
  ·rename_i y r' z;cases z;obtain⟨ys',h1,rfl⟩:=w0f.mp h;obtain⟨v,vs,rfl,p1,p2⟩:=r;cases(show v=V.int y from p1);rw[x2l h1 p2];rfl
  ·cases h
section
variable{prog:Program}{w:World}{E:Value->Shared->Prop}
structure Apart(z I O i j a b:Addr):Prop where
 Iz:I≠z
 Oz:O≠z
 iz:i≠z
 jz:j≠z
 IO:I≠O
 Ii:I≠i
 Ij:I≠j
 Oi:O≠i
 Oj:O≠j
 ij:i≠j
 az:a≠z
 aO:a≠O
 ai:a≠i
 aj:a≠j
 bz:b≠z
 bO:b≠O
 bi:b≠i
 bj:b≠j
end
noncomputable def dMut0(i:Nat)(f:List W->List W):List S->SR:=fun e=>match e[i]? with
 |some (.own b ws)=>.nx (e.set i (.own b (f ws)))
 |_=>.no
theorem Reps.rev:∀{ws:List W}{xs:List V},Reps K G ws xs->Reps K G ws.reverse xs.reverse
 |[],xs,h=>by cases(show xs=[]from h);exact rfl
 |w::ws,xs,h=>by
  obtain⟨v,vs,rfl,p,r⟩:=h;rw[w1t,w1t];exact(Reps.rev r).append (.one p)
section
variable{p:Pos}
theorem y7z(i:Nat)(hN:X.N[i]?=some x:=by rfl)(hv:Vis X.env.scope x:=by walk_at "1")(hd:(x==("__debug__":Str))=false:=by decide)(hcd:(x==("__classdict__":Str))=false:=by decide)
  (hbase:attributeBase (.Name x p) "reverse" X.env (eval (.Name x p) X.env)=eval (.Name x p) X.env:=by rfl)(hline:(apos.endLine==cpos.line)=true:=by rfl)(hsw:swapsWith (.Call (.Attribute (.Name x p) "reverse" apos) [] [] cpos) none pos.line X.env=pure false:=by rfl):
  DS Z X EE (.Expr (.Call (.Attribute (.Name x p) "reverse" apos) [] [] cpos) pos) (dMut0 i List.reverse):=by
 refine PS.mono (q6j (x6j PySem.F.plainAttrs_list PySem.F.slot_list_reverse PySem.F.type_list_reverse x4y (pv i hN hv hd hcd) hbase hline) hsw) ?_;rintro D σ H ⟨G,e,rel,h⟩;unfold dMut0 at h;split at h
 ·rename_i b ws he;obtain⟨a,xs,h1,h2,h3,h4,h5⟩:=rel.own he;refine⟨.ref a,h1,.inl ⟨rfl,xs,SqL.of h2⟩,a,xs,rfl,rfl,h2,?_⟩;exact h G σ _ (rel.mut he h1 (Reps.rev h5)) (.refl _)
 ·exact h.elim
end
section
variable{o e a b c:Expr}{dc:Den W}{p3:Pos}
noncomputable def dSet2(i j:Nat)(d:Den W):List S->SR:=fun e=>(d e).stm fun w e1=>match w with
 |.tup [u,v]=>.nx ((e1.set i (.fr u)).set j (.fr v))
 |_=>.no
theorem y37(i j:Nat)(hN:X.N.Nodup)(hc:X.calm=true)(he:DE Z X EE e d)
  (hi:X.N[i]?=some x:=by rfl)(hx:Loc X.env.scope x:=by walk_at "3")(hf:X.fn x=true\/X.env.scope.names.lookup x=some .local:=by walk_at "2")
  (hj:X.N[j]?=some y:=by rfl)(hy:Loc X.env.scope y:=by walk_at "3")(hf':X.fn y=true\/X.env.scope.names.lookup y=some .local:=by walk_at "2")
  (hn:(assignEach [.Name x p1,.Name y p2] X.env).length=2:=by rfl)(hst:(assignEach [.Name x p1,.Name y p2] X.env).findIdx? (·.1)=none:=by rfl)
  (g1:(assignEach [.Name x p1,.Name y p2] X.env).map (·.2)=assign (.Name x p1) X.env::(assignEach [.Name y p2] X.env).map (·.2):=by rfl)(g2:(assignEach [.Name y p2] X.env).map (·.2)=assign (.Name y p2) X.env::(assignEach [] X.env).map (·.2):=by rfl)
  (hs:swapsWithSole [.Tuple [.Name x p1,.Name y p2] kt p3] e pos.line X.env=pure false:=by rfl)(hw:swappedStores [.Tuple [.Name x p1,.Name y p2] kt p3] e X.env=pure none:=by rfl)
  (h1:(assignEach [.Tuple [.Name x p1,.Name y p2] kt p3] X.env).map (·.2)=[assign (.Tuple [.Name x p1,.Name y p2] kt p3) X.env]:=by rfl):
  DS Z X EE (.Assign [.Tuple [.Name x p1,.Name y p2] kt p3] e pos) (dSet2 i j d):=by
 refine PS.mono (x6b he (x14 hc (q44 (q2r i hN hi hx hf) (q44 (q2r j hN hj hy hf') q90 g2) g1) hn hst) hs hw h1) ?_;rintro D σ H ⟨G,e,rel,h⟩;refine⟨G,e,rel,(q04 h).imp (fun w e1 h G1 v1 H1 r1 q1 p1=>?_) fun _ _ h=>h⟩
 split at h
 ·rename_i u v;obtain⟨c,ys,rfl,hq,y1,z1,rfl,p1,y2,z2,rfl,p2,rfl⟩:=p1;exact⟨c,[y1,y2],rfl,r1.sub.tup hq,rfl,y1,[y2],rfl,y2,[],rfl,rfl,h G1 _ H1 ((r1.set p1).set p2) q1⟩
 ·exact h.elim
end
noncomputable def mut0K(i:Nat)(f:List W->List W)(e:List S):Option S->SR
 |some (.own b ws)=>.nx (e.set i (.own b (f ws)))
 |_=>.no
theorem y38{f:List W->List W}:dMut0 i f e=mut0K i f e e[i]?:=by
 unfold dMut0 mut0K;cases e[i]? with
 |none=>rfl
 |some s=>cases s<;>rfl
theorem y0i{f:List W->List W}:mut0K i f e (some (.own b ws))=.nx (e.set i (.own b (f ws))):=rfl
noncomputable def set2K(i j:Nat)(e:List S):W->SR
 |.tup [u,v]=>.nx ((e.set i (.fr u)).set j (.fr v))
 |_=>.no
theorem y39:dSet2 i j d e=(d e).stm fun w e1=>set2K i j e1 w:=by
 unfold dSet2;congr 1
theorem y70{u v:W}:set2K i j e (.tup [u,v])=.nx ((e.set i (.fr u)).set j (.fr v)):=rfl
noncomputable def insI(x:Int):List Int->List Int
 |[]=>[x]
 |y::ys=>if x<=y then x::y::ys else y::insI x ys
noncomputable def sortI:List Int->List Int
 |[]=>[]
 |x::xs=>insI x (sortI xs)
theorem q7q(x:Int):∀l:List Int,(insI x l).Perm (x::l)
 |[]=>.refl _
 |y::ys=>by
  unfold insI;split
  ·exact .refl _
  ·exact((q7q x ys).cons y).trans (.swap x y ys)
theorem q26:∀l:List Int,(sortI l).Perm l
 |[]=>.refl _
 |x::xs=>(q7q x _).trans ((q26 xs).cons x)
theorem q8e{x:Int}:∀{l:List Int},l.Pairwise (·<=·)->(insI x l).Pairwise (·<=·)
 |[],_=>by simp[insI]
 |y::ys,h=>by
  unfold insI;rw[w2b]at h;split
  ·rename_i hxy;refine w2b.mpr ⟨fun z hz=>?_,w2b.mpr h⟩
   rcases w0p.mp hz with rfl|hz
   ·exact hxy
   ·exact Int.le_trans hxy (h.1 z hz)
  ·rename_i hxy;refine w2b.mpr ⟨fun z hz=>?_,q8e h.2⟩
   rcases w0p.mp ((q7q x ys).mem_iff.mp hz)with rfl|hz
   ·omega
   ·exact h.1 z hz
theorem q58:∀l:List Int,(sortI l).Pairwise (·<=·)
 |[]=>.nil
 |x::xs=>q8e (q58 xs)
theorem x1n{l l':List Int}(p:l.Perm l')(h:l.Pairwise (·<=·))(h':l'.Pairwise (·<=·)):l=l':=p.eq_of_pairwise (fun a b _ _ h1 h2=>Int.le_antisymm h1 h2) h h'
theorem x2m:∀{ys:List Int}{its:List Value},Vals (ys.map V.int) its->PyProof.Rows.IntsAre its ys
 |[],its,h=>by cases h;exact .nil
 |y::ys,its,h=>by
  cases h with
  |cons r t=>
   obtain⟨k,rfl⟩:=r;exact .cons y k (x2m t)
theorem x2n:∀{ys:List Int}{its:List Value},PyProof.Rows.IntsAre its ys->Vals (ys.map V.int) its
 |_,_,.nil=>.nil
 |_,_,.cons n t h=>.cons ⟨_,rfl⟩ (x2n h)
theorem x4d:∀ns:List Int,intsW (ns.map .int)=some ns
 |[]=>rfl
 |n::ns=>by rw[w0u];show(intsW (ns.map .int)).map (n::·)=_;rw[x4d ns];rfl
noncomputable def hide1:S->S
 |.own _ ws=>.fr (.lst ws)
 |.dic kvs=>.fr (.dic kvs)
 |.thr us ws vs=>.fr (.tup (us++.lst ws::vs))
 |.nest wss=>.fr (.lst (wss.map W.lst))
 |.x (.old w)=>.fr w
 |.x (.new w)=>.fr w
 |.x (.acc ws)=>.fr (.lst ws)
 |.x (.thro us ws vs)=>.fr (.tup (us++.lst ws::vs))
 |.x (.tn us wss)=>.fr (.tup (us++[.lst (wss.map W.lst)]))
 |.x (.pt _ _ _)=>.no
 |.dw sh ks ws=>.fr (.dw false sh ks ws)
 |s=>s
theorem NestIn.reps(sg:Same G G')(hf:∀l o ys,FzAt Z G H l o ys->G' l=some (.frz o (.lst ys))):∀{ls:List Addr}{wss:List (List W)},NestIn K Z G H ls wss->Reps K G' (wss.map W.lst) (ls.map V.ref)
 |[],[],_=>rfl
 |l::ls,ws::wss,⟨⟨o,ys,h1,h4⟩,h⟩=>⟨.ref l,ls.map V.ref,rfl,⟨l,ys,rfl,.inl (.inr ⟨o,hf l o ys h1⟩),Reps.mono sg ws h4⟩,h.reps sg hf⟩
 |[],_::_,h=>h.elim
 |_::_,[],h=>h.elim
noncomputable def hideS(e:List S):List S:=e.map hide1
noncomputable def borrowR(e:List S):R W->R W
 |.ok w _=>if scalW w=true then .ok w e else .no
 |.ex c _=>.ex c e
 |.no=>.no
noncomputable def dBorrow(d:Den W):Den W:=fun e=>borrowR e (d (hideS e))
noncomputable def borrowT(e:List S):R Bool->R Bool
 |.ok b _=>.ok b e
 |.ex c _=>.ex c e
 |.no=>.no
noncomputable def dBorrowT(d:Den Bool):Den Bool:=fun e=>borrowT e (d (hideS e))
theorem Rel.hide(r:Rel K Z G σ H e):Rel K ⟨H,H,[]⟩ H σ H (hideS e):=by
 have g:∀(i:Nat)(s:S),(hideS e)[i]?=some s->∃s0,e[i]?=some s0/\s=hide1 s0:=fun i s h=>by
  unfold hideS at h;rw[w0r]at h;obtain⟨s0,h1,h2⟩:=w0f.mp h;exact⟨s0,h1,h2.symm⟩
 refine⟨.refl _,fun i s h=>?_,by unfold hideS;rw[w0a];exact r.len,fun i j b b' ws ws' a h1 _ _ _=>?_,fun a o h _=>h,(fun a h=>nomatch h),fun a _=>rfl⟩
 ·obtain⟨s0,h0,rfl⟩:=g i s h;have q:=r.slot i s0 h0;cases s0 with
  |no=>trivial
  |fr w=>
   obtain⟨u,q1,q2⟩:=q;exact⟨u,q1,Rep.mono r.sub w q2⟩
  |own b ws=>
   obtain⟨a,xs,q1,q2,q3,q4,q5⟩:=q;exact⟨.ref a,q1,a,xs,rfl,SqL.of q2,Reps.mono r.sub ws q5⟩
  |dic kvs=>
   obtain⟨a,q1,q2,_⟩:=q;exact⟨.ref a,q1,a,rfl,q2⟩
  |thr us ws vs=>
   obtain⟨t,l,o,xs,ys,zs,q1,q2,q3,_,_,q6,q7,q8⟩:=q;exact⟨.ref t,q1,t,_,rfl,SqT.of (r.sub _ _ q2),(Reps.mono r.sub us q6).append ⟨.ref l,zs,rfl,⟨l,ys,rfl,.inl (.inr ⟨o,q3⟩),Reps.mono r.sub ws q7⟩,Reps.mono r.sub vs q8⟩⟩
  |nest wss=>
   obtain⟨a,ls,q1,q2,_,q4⟩:=q;exact⟨.ref a,q1,a,_,rfl,SqL.of (r.sub _ _ q2),q4.reps r.sub fun l o ys z=>z.1⟩
  |x k=>
   cases k with
   |old w=>obtain⟨u,q1,_,q2⟩:=q;exact⟨u,q1,Rep.mono r.sub w q2⟩
   |new w=>obtain⟨u,q1,q2⟩:=q;exact⟨u,q1,Rep.mono r.sub w (RepN.rep w q2)⟩
   |acc ws=>obtain⟨a,o,xs,q1,q2,q3⟩:=q;exact⟨.ref a,q1,a,xs,rfl,.inl (.inr ⟨o,q2.1⟩),Reps.mono r.sub ws (RepNs.reps ws q3)⟩
   |thro us ws vs=>
    obtain⟨t,l,o,xs,ys,zs,q1,_,q2,q3,_,q6,q7,q8⟩:=q;exact⟨.ref t,q1,t,_,rfl,SqT.of (r.sub _ _ q2),(Reps.mono r.sub us q6).append ⟨.ref l,zs,rfl,⟨l,ys,rfl,.inl (.inr ⟨o,q3.1⟩),Reps.mono r.sub ws q7⟩,Reps.mono r.sub vs q8⟩⟩
   |tn us wss=>
    obtain⟨t,l,o,ls,xs,q1,q2,q3,_,q5,q6⟩:=q;exact⟨.ref t,q1,t,_,rfl,SqT.of (r.sub _ _ q2),(Reps.mono r.sub us q5).append ⟨.ref l,[],rfl,⟨l,_,rfl,.inl (.inr ⟨o,q3.1⟩),q6.reps r.sub fun l o ys z=>z.1⟩,rfl⟩⟩
   |pt _ _ _=>trivial
  |dw sh ks ws=>
   obtain⟨a,kvs,kas,q1,q2,_,_,q5,q6,q7⟩:=q;exact⟨.ref a,q1,a,kvs,kas,rfl,q2,q5,q6.mono r.sub,Reps.mono r.sub ws q7⟩
 ·obtain⟨s0,_,h2⟩:=g i _ h1;cases s0 with
  |x k=>cases k<;>cases h2
  |_=>cases h2
theorem Rel.back{G2 H2:Hp}{e2:List S}(r:Rel K Z G σ H e)(r2:Rel K ⟨H,H,[]⟩ G2 σ H2 e2):Rel K Z G σ H2 e:=by
 have hh:Same H H2:=fun a o h=>r2.ent a o h (fun z=>nomatch z)
 exact r.grow ⟨hh,.refl _,fun a o h=>hh a o (r.sub a o h),fun _ _=>rfl⟩
theorem y0j(h:scalW w=true)(p:Rep K G w v):Rep K G' w v:=by
 cases w with
 |non=>exact p
 |bl b=>exact p
 |int b=>exact p
 |str b=>exact p
 |_=>cases h
section
variable{e:Expr}
theorem x00(he:∀Z',DE Z' X EE e d):DE Z X EE e (dBorrow d):=by
 intro pins s σ H Q I hq;obtain⟨G,e0,rel,h⟩:=hq;refine he ⟨H,H,[]⟩ pins s σ H Q I ⟨H,hideS e0,rel.hide,?_⟩;unfold dBorrow borrowR at h;cases q:d (hideS e0)with
 |ok w e2=>
  rw[q]at h;dsimp only at h;split at h
  ·rename_i hs;intro G2 v H2 r2 s2 p;exact h G v H2 (rel.back r2) (.refl _) (y0j hs p)
  ·exact h.elim
 |ex k e2=>
  rw[q]at h;intro G2 H2 r2 s2;exact h G H2 (rel.back r2) (.refl _)
 |no=>rw[q]at h;exact h.elim
theorem x01(he:∀Z',DT Z' X EE e c):DT Z X EE e (dBorrowT c):=by
 intro pins s σ H Q I hq;obtain⟨G,e0,rel,h⟩:=hq;refine he ⟨H,H,[]⟩ pins s σ H Q I ⟨H,hideS e0,rel.hide,?_⟩;unfold dBorrowT borrowT at h;cases q:c (hideS e0)with
 |ok w e2=>
  rw[q]at h;intro G2 H2 r2 s2;exact h G H2 (rel.back r2) (.refl _)
 |ex k e2=>
  rw[q]at h;intro G2 H2 r2 s2;exact h G H2 (rel.back r2) (.refl _)
 |no=>rw[q]at h;exact h.elim
end
section
variable{e':List S}{v:Value}{k:Bool}{s:S}{p:Prop} [Decidable p]
theorem x7o:dBorrow d e=borrowR e (d (hideS e)):=rfl
theorem x5f{d:Den Bool}:dBorrowT d e=borrowT e (d (hideS e)):=rfl
theorem x7p:borrowR e (.ok w e')=if scalW w=true then .ok w e else .no:=rfl
theorem x7q:borrowR e (.ex v e')=.ex v e:=rfl
theorem x5g:borrowT e (.ok k e')=.ok k e:=rfl
theorem x5h:borrowT e (.ex v e')=.ex v e:=rfl
theorem x5i{x y:R W}:borrowR e (if p then x else y)=if p then borrowR e x else borrowR e y:=by split<;>rfl
theorem x3k{x y:R Bool}:borrowT e (if p then x else y)=if p then borrowT e x else borrowT e y:=by split<;>rfl
theorem y0k:hideS []=[]:=rfl
theorem x7r:hideS (s::e)=hide1 s::hideS e:=rfl
theorem y0l:hide1 (.own b ws)=.fr (.lst ws):=rfl
theorem y4a:hide1 (.fr w)=.fr w:=rfl
theorem y4b:hide1 .no=.no:=rfl
end
end D
namespace L2
open PySem PySem.Spec PyProof.Rows
variable{A:Around}{X:Cx}{ifs:List Expr}{pos:Pos}{s:Shared}{EE:St->XK}
structure FlyA(outer:List Env)(H H':Hp)(h h':Heap)(e:Addr)(cls:Value)(B:Heap):Prop where
 stay:B.StaysIn h'
 bare:B.get? e=none
 ff:h'.FunFrames B outer
 tr:∃a0 fl,h'.TracedAtW B e cls a0 fl
 old:∀b o,h.get? b=some o->H b=none->b∉frs outer->B.get? b=some o
 trk:∀b u o,H' b=some u->h'.get? b=some o->B.get? b=some o
 all:∀b o,h.get? b=some o->b∈frs outer\/∃o',B.get? b=some o'
 new:h.get? e=none
noncomputable def CXA(P:Program)(w:World):CXT:=fun outer H s E ev s'=>∃(e:Addr)(cls:Value)(H':Hp)(B:Heap),
 ev=.ref e/\s'.os=s.os/\AllBare s'.gens/\Un (frs outer) [] H H' s.heap s'.heap/\HOk P w H' s'.heap/\FlyA outer H H' s.heap s'.heap e cls B/\E cls none H'
theorem x02{h h' B B':Heap}:∀{l:List Env},h.FunFrames B l->(∀b∈frs l,∀o,h.get? b=some o->(∀vs,o.data≠.fields vs)->∃o',h'.get? b=some o'/\o'.data=o.data)->(∀b,B.get? b=none->B'.get? b=none)->h'.FunFrames B' l
 |[],_,_,_=>trivial
 |env::r,⟨z1,⟨L,o,z2,z3,z4,z5⟩,z6⟩,k,n=>by
  obtain⟨o',y1,y2⟩:=k L (w1p.mpr ⟨env,.head _,z2⟩) o z4 z5;refine⟨z1,⟨L,o',z2,n L z3,y1,fun vs=>by rw[y2];exact z5 vs⟩,x02 z6 (fun b hb=>k b ?_) n⟩
  obtain⟨e2,m1,m2⟩:=w1p.mp hb;exact w1p.mpr ⟨e2,.tail _ m1,m2⟩
section
variable{M:Model}{E:Value->Shared->Prop}
theorem x03{B:Heap}{env:Env}{outer:List Env}{L e:Addr}{cls a0 fl:Value}{Q:Unit->Shared->Prop}(hfr:A.frames=some (env::outer))(hf:env.frame=some L)
  (k1:B.StaysIn s.heap)(k2:B.get? e=none)(k3:s.heap.FunFrames B (env::outer))(k4:s.heap.TracedAtW B e cls a0 fl)
  (hQ:∀g,Heap.HeldW B (env::outer) e cls a0 L g->s.heap.UpToSlots g->Q () {s with heap:=g}):wpAny M A (noteFrame (.ref e) env) Q E s:=by
 by_cases hq:fl=rawInt L
 ·subst hq;refine wpAny_noteFrame_againW hf k4 ?_;have z:=hQ s.heap ⟨k1,k2,k3,k4⟩ (Heap.UpToSlots.refl _);exact z
 ·obtain⟨oe,vs,T,oT,ts,y1,⟨y2,y3⟩,y4,y5,y6,y7,y8,y9,y10⟩:=k4;subst y2;unfold noteFrame;simp only[hf];refine wpAny_bind (wpAny_field y1 y4 y5 ?_);rw[if_pos (by simp:(Value.ref T != Value.none)=true)];refine wpAny_bind (wpAny_field y8 y9 y10 ?_);rw[if_neg (by simpa using hq:¬((fl==rawInt L)=true))];refine wpAny_bind (wpAny_setField y8 y9 (w1b.mp y10).1 ?_);have oth:∀b,b≠T->(s.heap.update T (Obj.mapFields (·.setIfInBounds 3 Value.none))).get? b=s.heap.get? b:=fun b hb=>Heap.get?_update_other _ _ (fun z=>hb z.symm)
  have neT:∀b o,s.heap.get? b=some o->(∀vs,o.data≠.fields vs)->b≠T:=fun b o hb hn z=>by
   rw[z,y8]at hb;cases hb;exact hn ts y9
  have z1:=k3.of_keeps (h':=s.heap.update T (Obj.mapFields (·.setIfInBounds 3 Value.none))) fun b o hb hn=>⟨o,(oth b (neT b o hb hn)).trans hb,rfl⟩
  have z2:B.StaysIn (s.heap.update T (Obj.mapFields (·.setIfInBounds 3 Value.none))):=fun b o hb=>(oth b fun z=>by rw[z,y6]at hb;cases hb).trans (k1 b o hb)
  refine wpAny_entryW (s:={s with heap:=s.heap.update T (Obj.mapFields (·.setIfInBounds 3 Value.none))}) hfr z1 hf ((oth e fun z=>y7 z.symm).trans y1) z2 k2 y4 (w1b.mp y5).1 y3 fun g hg=>?_
  obtain⟨x1,x2,x3,x4⟩:=hg;exact hQ g ⟨x1,k2,x2,x3⟩ fun b o hb hn=>x4 b o ((oth b (neT b o hb hn)).trans hb) hn
end
def PassA(X:Cx)(EE:St->XK):Prop:=PassX (CXA X.prog X.w) X EE
section
variable{P:Program}{w:World}{K:PySem.W.Frag}{mg:Str->Option Value}{base:Heap}{N:List Str}{qual:Str}{scope:Scope}{f:Addr}{cd:Value}{outer:List Env}{s₀:Shared}{H₀:Hp}{E:XK}
theorem passA1:PassA (cxOf (CX1 P w) P w K mg base N qual scope f cd A outer s₀ H₀ E) (fun _=>E):=by
 intro pins σ H s ev s' I hx;obtain⟨e,cls,H',B,rfl,hos,hg,un,hok,fly,hE⟩:=hx;have J:=I.call' (ch:=[]) hos un hok hg (fun b hb=>nomatch hb)
 obtain⟨a0,fl,tr⟩:=fly.tr;show wpAny _ _ (leaving _ (.ref e)) _ _ _;unfold leaving;refine wpAny_bind (x03 (B:=B) I.ok.frames rfl fly.stay fly.bare fly.ff tr fun g held up=>?_)
 refine wpAny_landsW held fun g2 fl2 up2=>?_
 obtain⟨k1,k2,⟨_,_,k3⟩,k4⟩:=fl2;have z:=q92 (a0:=a0) (h'':=g2) (s':=s') I J fly.old fly.trk fly.all fly.new ⟨k1,k2,k3,k4⟩ (up.trans up2) hE;exact z
end
noncomputable abbrev Cx.cpx(X:Cx)(Nc:List Str)(scope:Scope)(cl:List (Str×Addr))(C:Addr)(s₀:Shared)(H₀:Hp)(ex:List Addr)(xe:Value->Shared->Prop):Cx:=
 {X with N:=Nc,s₀:=s₀,H₀:=H₀,env:=compEnvC scope cl C X.env,outer:=X.stack,ex:=ex,fn:=fun _=>false,pn:=[],xe:=xe}
section
variable{pins:List (Addr×Obj)}{σ:St}{H:Hp}
theorem Cx.Ok.xx(ok:X.Ok)(xe:Value->Shared->Prop):Cx.Ok {X with xe:=xe}:=
 ⟨ok.mod,ok.kind,ok.glob,ok.blt,ok.above,ok.inj,ok.has,ok.cab,ok.hd,ok.frames,ok.stk,ok.exf,ok.bs,ok.bsz,ok.noex,ok.exfs,ok.funs,ok.frf,ok.tab⟩
theorem Inv.xx(I:Inv X pins σ H s)(xe:Value->Shared->Prop):Inv {X with xe:=xe} pins σ H s:=
 ⟨I.ok.xx xe,I.os,I.bare,I.base,I.loc,I.cell,I.free,I.freeC,I.pin,I.hok,I.len⟩
end
noncomputable abbrev accO:Obj:={cls:=.type "list", dict:=none,data:=.seq ([]:List Value).toArray}
theorem y4c{pins:List (Addr×Obj)}{σ:St}{H2:Hp}{s2:Shared}{Nc:List Str}{scope:Scope}{cl:List (Str×Addr)}{fp:List Addr}{use:Option (Value->Sem Unit)}{Q:Value->Shared->Prop}{acc:Value}
  (hp:PassA X EE)(I2:Inv X pins σ H2 s2)(f2:∀b∈fp,FpOk X pins H2 b)(hs:X.stack=X.env::X.outer)(hf:X.env.frame=some X.env.locals):
  PassX (CX1 X.prog X.w) (X.cpx Nc scope cl (s2.heap.objs.size+1) {s2 with heap:=s2.heap.push accO} (upd H2 s2.heap.objs.size (.lst [])) fp
   (notedBy (model X.prog X.w) X.A (compEnvC scope cl (s2.heap.objs.size+1) X.env) fun e s'=>compPost (model X.prog X.w) X.A X.xe use Q acc (s2.heap.objs.size+1) (.error e) s')) (fun _=>EE σ):=by
 intro pins' σ' H1 s1 ev s3 I1 hx;obtain⟨e,cls,H3,B,rfl,hos,hgn,un,hok,fly,hE⟩:=hx;have un:Un (frs X.stack) [] H1 H3 s1.heap s3.heap:=un;have fly:Fly X.stack H1 H3 s1.heap s3.heap e cls B:=fly;have J1:=I1.call' (ch:=[]) hos un hok hgn (fun b hb=>nomatch hb)
 obtain⟨a0,fl⟩:=fly.fl;have fr':X.A.frames=some (X.env::X.outer):=hs ▸ I2.ok.frames;have fl':Heap.FlyingW B (X.env::X.outer) e cls a0 s3.heap:=hs ▸ fl;obtain⟨mC,hnC,_⟩:=id J1.loc;have hC3:H3 (s2.heap.objs.size+1)=none:=J1.free
 have notFr:s2.heap.objs.size+1∉frs X.stack:=fun hb=>by
  obtain⟨_,o,q,_⟩:=I2.stack.mem hb;exact absurd (Heap.lt_size q) (w2u.mpr (w3d _))
 show wpAny _ X.A (noteFrame (.ref e) X.env) _ _ s3;refine wpAny_looks_onW (base:=B) fr' hf fl' fun h4 held up4=>?_
 have hC4:h4.Ns (s2.heap.objs.size+1) mC:=up4.ns hnC;have held:Heap.HeldW B X.stack e cls a0 X.env.locals h4:=hs ▸ held
 suffices hsuf:∃m,h4.Ns (s2.heap.objs.size+1) m/\∀h',Heap.SameBut (s2.heap.objs.size+1) h4 h'->∀cenv:Env,cenv.locals=s2.heap.objs.size+1->wpAny (model X.prog X.w) X.A (PySem.passOn "comprehension.variables-let-go" (.ref e) cenv:Sem Value) (fun _ _=>False) X.xe {s3 with heap:=h'} by
  cases use<;>exact hsuf
 refine⟨mC,hC4,fun h5 hsb cenv hcl=>?_⟩
 obtain⟨k1,k2,k3,oe,vs,T,oT,ts,y1,y2,y4,y5,y6,y7,y8,y9,y10⟩:=held;obtain⟨oC,esC,epC,qC,dC,rC⟩:=id hC4
 have neE:e≠s2.heap.objs.size+1:=fun z=>by
  rw[<- z,y1]at qC;cases qC;rw[y4]at dC;cases dC
 have neT:T≠s2.heap.objs.size+1:=fun z=>by
  rw[<- z,y8]at qC;cases qC;rw[y9]at dC;cases dC
 have e5:h5.get? e=some oe:=(hsb.2 e neE).trans y1;have T5:h5.get? T=some oT:=(hsb.2 T neT).trans y8;have hsz:3<ts.size:=(w1b.mp y10).1;unfold PySem.passOn;refine wpAny_bind (wpAny_field e5 y4 y5 ?_);rw[if_neg (by simp:¬((Value.ref T==Value.none)=true))];unfold setFlight;refine wpAny_bind (wpAny_bind (wpAny_field e5 y4 y5 ?_));rw[if_pos (by simp:(Value.ref T != Value.none)=true)];refine wpAny_setField T5 y9 hsz ?_;refine wpAny_throw ?_;generalize cenv.frame.elim Value.none (fun f=>rawInt f)=fv
 have oth:∀b,b≠T->(h5.update T (Obj.mapFields (·.setIfInBounds 3 fv))).get? b=h5.get? b:=fun b hb=>Heap.get?_update_other _ _ (fun z=>hb z.symm)
 have T6:(h5.update T (Obj.mapFields (·.setIfInBounds 3 fv))).get? T=some (Obj.mapFields (·.setIfInBounds 3 fv) oT):=Heap.get?_update_self _ T5 (Obj.isFreed_of_fields (Obj.data_mapFields y9 _));generalize hg6:h5.update T (Obj.mapFields (·.setIfInBounds 3 fv))=h6 at oth T6 |-
 have IB:Inv (X.cp Nc scope cl (s2.heap.objs.size+1) {s2 with heap:=s2.heap.push accO} (upd H2 s2.heap.objs.size (.lst [])) fp) [] σ' H1 s1:=
  (I1.xx (fun _ _=>False)).pins_of fun p hp=>nomatch hp
 have hsame:Heap.SameBut (s2.heap.objs.size+1) s1.heap (hideAll s1.heap [s2.heap.objs.size+1]):=⟨PySem.W.hideAll_size _ _,fun b hb=>Heap.hide_ne _ hb⟩
 have I0:Inv X pins σ H1 {s1 with heap:=hideAll s1.heap [s2.heap.objs.size+1]}:=x2b I2 f2 IB hsame
 have neC:∀b o,(hideAll s1.heap [s2.heap.objs.size+1]).get? b=some o->b≠s2.heap.objs.size+1:=fun b o q z=>by
  rw[hideAll_none _ (by rw[z];exact .head _)]at q;cases q
 have bk:∀b o,B.get? b=some o->b≠s2.heap.objs.size+1->h6.get? b=some o:=fun b o q n=>by
  rw[oth b fun z=>by rw[z,y6]at q;cases q]
  exact(hsb.2 b n).trans (k1 b o q)
 have frk:∀b∈frs X.stack,∀o,h4.get? b=some o->(∀vs,o.data≠.fields vs)->h6.get? b=some o:=fun b hb o q n=>by
  rw[oth b fun z=>by rw[z,y8]at q;cases q;exact n ts y9]
  exact(hsb.2 b fun z=>notFr (z ▸ hb)).trans q
 refine hp pins σ H1 {s1 with heap:=hideAll s1.heap [s2.heap.objs.size+1]} (.ref e) {s3 with heap:=h6} I0 ⟨e,cls,H3,hideAll B [s2.heap.objs.size+1],rfl,hos,hgn,
  ⟨fun b o q n hb _=>?_,fun b o q n hb _=>?_,fun b o q n hx=>un.free b o (of_hideAll _ q) n hx,fun b o q hx=>?_,un.tups,un.frzs,un.tbls⟩,fun a o q=>?_,⟨fun b o q=>?_,?_,?_,?_,fun b o q n hb=>?_,fun b u o q z=>?_,fun b o q=>?_,?_⟩,hE⟩
 ·exact bk b o (fly.old b o (of_hideAll _ q) n hb) (neC b o q)
 ·obtain⟨sl,z1⟩:=un.slot b o (of_hideAll _ q) n hb (fun z=>nomatch z)
  obtain⟨_,o2,z2,nd⟩:=fl.2.2.1.mem hb;rw[z1]at z2;cases z2;obtain⟨sl',z3⟩:=up4 b _ z1 nd;exact⟨sl',frk b hb _ z3 nd⟩
 ·rcases fly.all b o (of_hideAll _ q)with z|⟨o',z⟩
  ·obtain⟨_,o2,z2,nd⟩:=k3.mem z;exact⟨o2,frk b z o2 z2 nd⟩
  ·exact⟨o',bk b o' z (neC b o q)⟩
 ·have nn:∀b u,H3 b=some u->b≠s2.heap.objs.size+1:=fun b u z1 z2=>by rw[z2,hC3]at z1;cases z1
  refine(hok a o q).stay (fun b u hb z=>?_) (fun _ z=>z) fun _ _ _ z=>z
  rcases hb with rfl|hb
  ·exact bk _ _ (fly.trk b o u q z) (nn b o q)
  ·exact bk _ _ (fly.trk b _ u hb z) (nn b _ hb)
 ·exact bk b o (of_hideAll _ q) fun z=>by rw[hideAll_none _ (by rw[z];exact .head _)]at q;cases q
 ·cases q:(hideAll B [s2.heap.objs.size+1]).get? e with
  |none=>rfl
  |some o=>have:=of_hideAll _ q;rw[k2]at this;cases this
 ·refine x02 k3 (fun b hb o q n=>⟨o,frk b hb o q n,rfl⟩) fun b hb=>?_
  cases q:(hideAll B [s2.heap.objs.size+1]).get? b with
  |none=>rfl
  |some o=>have:=of_hideAll _ q;rw[hb]at this;cases this
 ·refine⟨a0,fv,oe,vs,T,_,_,(oth e fun z=>y7 z.symm).trans e5,y2,y4,y5,?_,y7,T6,Obj.data_mapFields y9 _,by simp[hsz]⟩
  cases q:(hideAll B [s2.heap.objs.size+1]).get? T with
  |none=>rfl
  |some o=>have:=of_hideAll _ q;rw[y6]at this;cases this
 ·exact hideAll_get _ (fly.old b o (of_hideAll _ q) n hb) fun z=>neC b o q (w0g.mp z)
 ·have hb:b≠s2.heap.objs.size+1:=fun z2=>by rw[z2,hC3]at q;cases q
  obtain⟨o1,z1⟩:=(hok b u q).get;have z2:=fly.trk b u o1 q z1;have z3:=bk b o1 z2 hb;have z:h6.get? b=some o:=z;rw[z3]at z;cases z;exact hideAll_get _ z2 fun z=>hb (w0g.mp z)
 ·rcases fly.all b o (of_hideAll _ q)with z|⟨o',z⟩
  ·exact .inl z
  ·exact .inr ⟨o',hideAll_get _ z fun z=>neC b o q (w0g.mp z)⟩
 ·show(hideAll s1.heap [s2.heap.objs.size+1]).get? e=none;cases q:(hideAll s1.heap [s2.heap.objs.size+1]).get? e with
  |none=>rfl
  |some o=>have:=of_hideAll _ q;rw[fly.new]at this;cases this
theorem x5j{prog:Program}{w:World}{R:Result->Shared->Prop}{elt target iter:Expr}{scope:Scope}{it acc:Value}{env:Env}(I:Nat->Shared->Prop)(EX:Value->Shared->Prop)(hEX:∀e s',EX e s'->notedBy (model prog w) A env (fun e s'=>R (.error e) s') e s')
  (turn:∀n s,I n s->wpAny (model prog w) A (pyNext it) (fun r s1=>match r with
   |none=>R (.ok .next) s1
   |some v=>wpAny (model prog w) A (letOwnedTupleGo target it v) (fun _ s2=>wpAny (model prog w) A (assign target env v) (fun _ s3=>
     wpAny (model prog w) A (forIn ifs true fun c r=>if r=true then do let ok <- isTrue c env (eval c env);pure (ForInStep.yield ok)else pure (ForInStep.yield r)) (fun ok s4=>
      if ok=true then wpAny (model prog w) A (eval elt env) (fun x s5=>wpAny (model prog w) A (call (.builtin "list.append") [acc,x]) (fun _ s6=>∃m,m<n/\I m s6) EX s5) EX s4
      else ∃m,m<n/\I m s4) EX s3) EX s2) EX s1) EX s)
  (n:Nat)(h:I n s):codeAny (model prog w) A (.compLoop (.ListComp elt [⟨target,iter,ifs,0⟩] scope pos) 0 it acc env) R s:=by
 refine codeAny_loop rfl I (fun n s hI=>?_) n h
 show wpAny _ A ((compTurn (.ListComp elt [⟨target,iter,ifs,0⟩] scope pos) 0 it acc env).onRaise (fun x=>do noteFrame x env;theTreesLotGoes x)) _ _ s
 refine wpAny_noted ?_;rw[compTurn_list];refine wpAny_bind (wpAny_standAt (wpAny_bind (wpAny_mono (turn n s hI) (fun r s1 h1=>?_) fun e' s' z=>hEX e' s' z)))
 cases r with
 |none=>exact wpAny_pure h1
 |some v=>
  refine wpAny_bind (wpAny_mono h1 (fun _ s2 h2=>?_) fun e' s' z=>hEX e' s' z)
  refine wpAny_bind (wpAny_mono h2 (fun _ s3 h3=>?_) fun e' s' z=>hEX e' s' z)
  refine wpAny_bind (wpAny_mono h3 (fun ok s4 h4=>?_) fun e' s' z=>hEX e' s' z)
  cases ok with
  |false=>exact wpAny_pure ⟨rfl,h4⟩
  |true=>exact wpAny_bind (wpAny_bind (wpAny_mono h4 (fun x s5 h5=>wpAny_bind (wpAny_mono h5 (fun _ s6 h6=>wpAny_pure (wpAny_pure ⟨rfl,h6⟩)) fun e' s' z=>hEX e' s' z)) fun e' s' z=>hEX e' s' z))
def tCompX(EE:St->XK)(wi:TI)(nl:Nat)(js:List Nat)(g:TG)(tc:(St->XK)->TT)(te:(St->XK)->TE):TE:=fun σ H Q=>tComp wi nl js g (tc fun _=>EE σ) (te fun _=>EE σ) σ H Q
section
variable{elt target iter:Expr}{scope:Scope}{wi:TI}{g:TG}{tc:(St->XK)->TT}{te:(St->XK)->TE}
theorem y0m{Nl Nf:List Str}{js:List Nat}(hp:PassA X EE)(hc:X.calm=true)(hi:PI X target iter wi)
  (hk:scope.kind=.function)(hcell:∀y∈scope.names,y.2≠.cell)(hnames:∀x∈scope.names,x.2=.local->scope.names.lookup x.1=some .local)
  (hfree:∀x∈scope.names,x.2=.free->X.env.kindOf x.1=some .cell\/X.env.kindOf x.1=some .free)
  (hj:∀(i j:Nat) y,Nf[i]?=some y->js[i]?=some j->X.N[j]?=some y)(hlen:js.length=Nf.length)
  (hNf:∀y∈Nf,(y,NameKind.free)∈scope.names/\Vis X.env.scope y/\X.env.kindOf y≠some .local)
  (hvis:∀y∈Nf,(relabel scope X.env).names.lookup y=some .cell\/(relabel scope X.env).names.lookup y=some .free)
  (hg:∀cl C s₀ H₀ ex xe,PG (X.cpx (Nl++Nf) scope cl C s₀ H₀ ex xe) target g)(ht:∀cl C s₀ H₀ ex xe E',PassX (CX1 X.prog X.w) (X.cpx (Nl++Nf) scope cl C s₀ H₀ ex xe) E'->PTs (X.cpx (Nl++Nf) scope cl C s₀ H₀ ex xe) ifs (tc E'))(he:∀cl C s₀ H₀ ex xe E',PassX (CX1 X.prog X.w) (X.cpx (Nl++Nf) scope cl C s₀ H₀ ex xe) E'->PE (X.cpx (Nl++Nf) scope cl C s₀ H₀ ex xe) elt (te E'))
  (hs:∀x,foldedSetIterable iter X.env x=pure x:=by intro _;rfl)(hst:X.stack=X.env::X.outer:=by rfl)(hfr:X.env.frame=some X.env.locals:=by rfl):
  PE X (.ListComp elt [⟨target,iter,ifs,0⟩] scope pos) (tCompX EE wi Nl.length js g tc te):=by
 intro pins s σ H Q I h;obtain⟨cl,hclos,hcl,hcf⟩:=q5w (scope:=scope) (env:=X.env) fun x hx hf=>I.ok.has x.1 (hfree x hx hf)
 rw[eval_ListComp];refine wpAny_comprehension_free (use:=none) rfl hs hclos hk hnames (thn (hi pins s σ H _ I h) fun v s1 h1=>thn h1 fun itv s2 h2=>?_)
 obtain⟨it,fp,tn,J,H2,e,I2,T,st2,f2,rd⟩:=h2;subst e;refine wpAny_newObj_type (wpAny_newFunctionEnv hcell (by intro y hy;simp at hy) (fun h₁ hns₁ hsb₁=>?_) hk)
 dsimp only at hns₁ hsb₁ |-
 have szp:(s2.heap.push {cls:=.type "list", dict:=none,data:=.seq ([]:List Value).toArray}).objs.size=s2.heap.objs.size+1:=Heap.size_push ..;rw[szp]at hns₁ hsb₁ |-
 have fD:H2 s2.heap.objs.size=none:=I2.hok.fresh (w0e _);obtain⟨W,⟨m0,w0⟩,turn⟩:=rd s2.heap.objs.size fD;have obj2:=T.obj 0 s2.heap st2;obtain⟨XE,hXE⟩:∃XE,XE=notedBy (model X.prog X.w) X.A (compEnvC scope cl (s2.heap.objs.size+1) X.env) fun e s'=>compPost (model X.prog X.w) X.A X.xe none (EP X pins σ Q) (.ref s2.heap.objs.size) (s2.heap.objs.size+1) (.error e) s':=⟨_,rfl⟩
 have pass:PassX (CX1 X.prog X.w) (X.cpx (Nl++Nf) scope cl (s2.heap.objs.size+1) {s2 with heap:=s2.heap.push accO} (upd H2 s2.heap.objs.size (.lst [])) fp XE) (fun _=>EE σ):=by
  rw[hXE];exact y4c hp I2 f2 hst hfr
 have IS:=Inv.xx (xe:=XE) <| x2a (Nl:=Nl) (Nf:=Nf) (js:=js) (cl:=cl) (tk:=s2.toks+([]:List (Str×Value)).length) I2 f2 obj2 hk hcell hcl hcf hj hlen hNf hvis hns₁ hsb₁
 have upS:∀b u,s2.heap.get? b=some u->h₁.get? b=some u:=fun b u q=>by
  have hlt:=Heap.lt_size q;exact(hsb₁.2 b (w0j (w1u hlt))).trans (Heap.get?_push_of_some _ (Heap.get?_push_of_some _ q))
 have stS:tn 0 h₁:=T.keep 0 s2.heap h₁ st2 fun b hb o q=>upS b o q
 have noD:∀b∈fp,upd H2 s2.heap.objs.size (.lst []) b=none:=fun b hb=>by
  obtain⟨o,q,_⟩:=obj2 b hb;rw[q0e (w0j (Heap.lt_size q))];exact(f2 b hb).1
 have stat:∀{H':Hp},(∀b∈fp,H' b=none)->∀b∈fp,FpOk (X.cpx (Nl++Nf) scope cl (s2.heap.objs.size+1) {s2 with heap:=s2.heap.push {cls:=.type "list", dict:=none,data:=.seq ([]:List Value).toArray}} (upd H2 s2.heap.objs.size (.lst [])) fp XE) [] H' b:=fun hn b hb=>by
  refine⟨hn b hb,(IS.ok.exf b hb).1,IS.ok.exfs b hb,.inl hb,(IS.ok.exf b hb).2,fun p hp=>(by cases hp)⟩
 have loop:∀s4:Shared,s4={s2 with heap:=h₁,toks:=s2.toks+([]:List (Str×Value)).length} ->
   codeAny (model X.prog X.w) X.A (.compLoop (.ListComp elt [⟨target,iter,ifs,0⟩] scope pos) 0 (.ref it) (.ref s2.heap.objs.size) (compEnvC scope cl (s2.heap.objs.size+1) X.env))
    (compPost (model X.prog X.w) X.A X.xe none (EP X pins σ Q) (.ref s2.heap.objs.size) (s2.heap.objs.size+1)) s4:=by
  rintro s4 rfl;refine x5j (EX:=XE) (hEX:=fun e' s' z=>by rw[hXE]at z;exact z) (fun n s'=>∃i H',Inv (X.cpx (Nl++Nf) scope cl (s2.heap.objs.size+1) {s2 with heap:=s2.heap.push {cls:=.type "list", dict:=none,data:=.seq ([]:List Value).toArray}} (upd H2 s2.heap.objs.size (.lst [])) fp XE) [] (List.replicate Nl.length none++pj js σ) H' s'/\tn i s'.heap/\(∀b∈fp,H' b=none)/\W i n H') ?_ m0 ⟨0,_,IS,stS,noD,w0⟩
  rintro n s3 ⟨i,H3,I3,st3,fr3,w3⟩;rcases turn i n H3 w3 with⟨stop,qn⟩|⟨go,step⟩
  ·refine thn (T.done (X.cpx (Nl++Nf) scope cl (s2.heap.objs.size+1) {s2 with heap:=s2.heap.push {cls:=.type "list", dict:=none,data:=.seq ([]:List Value).toArray}} (upd H2 s2.heap.objs.size (.lst [])) fp XE) rfl rfl rfl hc i [] s3 _ H3 _ I3 (stat fr3) st3 stop) fun r s5 ⟨hr,I5⟩=>?_
   subst hr;obtain⟨m5,hn5,_⟩:=I5.loc;refine⟨m5,hn5,fun h' hs'=>⟨.ref s2.heap.objs.size,H3,x2b I2 f2 (I5.xx (fun _ _=>False)) hs',rfl,qn⟩⟩
  ·refine thn (T.item (X.cpx (Nl++Nf) scope cl (s2.heap.objs.size+1) {s2 with heap:=s2.heap.push {cls:=.type "list", dict:=none,data:=.seq ([]:List Value).toArray}} (upd H2 s2.heap.objs.size (.lst [])) fp XE) rfl rfl rfl hc i [] s3 _ H3 _ I3 (stat fr3) st3 go) fun r s5 ⟨u,hr,h5⟩=>?_
   subst hr;refine thn h5 fun _ s6 ⟨x,H6,I6,r6,y6,st6,fr6⟩=>?_
   have I6':=I6.pinned (stat fr6) (T.obj _ _ st6);refine thn (hg _ _ _ _ _ _ _ s6 _ H6 x u _ I6' r6 (step x H6 y6)) fun _ s7 ⟨σ7,H7,I7,kp,q7⟩=>?_
   refine thn (ht _ _ _ _ _ _ _ pass _ s7 σ7 H7 _ I7 q7) fun ok s8 ⟨H8,I8,q8⟩=>?_
   have again:∀{σ9:St}{H9:Hp}{s9:Shared},Inv (X.cpx (Nl++Nf) scope cl (s2.heap.objs.size+1) {s2 with heap:=s2.heap.push {cls:=.type "list", dict:=none,data:=.seq ([]:List Value).toArray}} (upd H2 s2.heap.objs.size (.lst [])) fp XE) ([]++pinsAt fp s6.heap) σ9 H9 s9 ->
     Kp (List.replicate Nl.length none++pj js σ) σ9->(∃m',m'<n/\W (i+1) m' H9)->∃m,m<n/\∃i H',Inv (X.cpx (Nl++Nf) scope cl (s2.heap.objs.size+1) {s2 with heap:=s2.heap.push {cls:=.type "list", dict:=none,data:=.seq ([]:List Value).toArray}} (upd H2 s2.heap.objs.size (.lst [])) fp XE) [] (List.replicate Nl.length none++pj js σ) H' s9/\tn i s9.heap/\(∀b∈fp,H' b=none)/\W i m H':=fun {σ9 H9 s9} I9 hw ⟨m',hm,w9⟩=>by
    refine⟨m',hm,i+1,H9,I9.unpinned.weak (by rw[I9.len,<- IS.len]) hw,T.keep _ _ _ st6 fun b hb o q=>(I9.pin (b,o) (w0o _ (w0o _ (q3w hb q)))).1,fun b hb=>?_,w9⟩
    obtain⟨o,q,d⟩:=T.obj _ _ st6 b hb;exact(I9.pin (b,o) (w0o _ (w0o _ (q3w hb q)))).2.1
   cases ok with
   |false=>exact again I8 kp (by simpa using q8)
   |true=>
    have q8':=by simpa only[if_true]using q8
    refine thn (he _ _ _ _ _ _ _ pass _ s8 σ7 H8 _ I8 q8') fun y s9 ⟨yv,H9,I9,r9,ys,hD,hz,q9⟩=>?_
    refine thn (q7d _ s9 σ7 H9 (.ref s2.heap.objs.size) [yv] (.ref s2.heap.objs.size) [y] (fun v H'=>v=.non/\H'=upd H9 s2.heap.objs.size (.lst (ys++[yv]))) I9 rfl (.cons r9 .nil) ⟨_,ys,yv,rfl,rfl,hD,hz,rfl,rfl⟩) fun _ s10 ⟨_,H10,I10,_,_,e10⟩=>?_
    subst e10;exact again I10 kp q9
 exact codeAny_compStart_list (loop _ rfl) (T.self X.A 0 _ _ _ stS (loop _ rfl))
end
theorem x7s{elt target iter:Expr}{scope sc:Scope}{wi:TI}{g:TG}{tc:(St->XK)->TT}{te:(St->XK)->TE}{Nl Nf N:List Str}{js:List Nat}(hp:PassA X EE)(hc:X.calm=true)(hi:PI X target iter wi)
  (ok:compOk sc scope N Nf js=true)
  (hg:∀cl C s₀ H₀ ex xe,PG (X.cpx (Nl++Nf) scope cl C s₀ H₀ ex xe) target g)(ht:∀cl C s₀ H₀ ex xe E',PassX (CX1 X.prog X.w) (X.cpx (Nl++Nf) scope cl C s₀ H₀ ex xe) E'->PTs (X.cpx (Nl++Nf) scope cl C s₀ H₀ ex xe) ifs (tc E'))(he:∀cl C s₀ H₀ ex xe E',PassX (CX1 X.prog X.w) (X.cpx (Nl++Nf) scope cl C s₀ H₀ ex xe) E'->PE (X.cpx (Nl++Nf) scope cl C s₀ H₀ ex xe) elt (te E'))
  (hsc:X.env.scope=sc:=by rfl)(hN:X.N=N:=by rfl)(hs:∀x,foldedSetIterable iter X.env x=pure x:=by intro _;rfl)(hst:X.stack=X.env::X.outer:=by rfl)(hfr:X.env.frame=some X.env.locals:=by rfl):
  PE X (.ListComp elt [⟨target,iter,ifs,0⟩] scope pos) (tCompX EE wi Nl.length js g tc te):=by
 unfold compOk at ok;simp only[w1g,w1e,beq_iff_eq,bne_iff_ne,w2f,w1m]at ok;obtain⟨⟨⟨⟨⟨⟨k1,k2⟩,k3⟩,k4⟩,k5⟩,k6⟩,k7⟩:=ok;have kind:∀x,X.env.kindOf x=sc.names.lookup x:=fun x=>by rw[<- hsc];rfl
 refine y0m hp hc hi k1 k2 (fun x hx hl=>(k3 x hx).resolve_left fun z=>z hl) (fun x hx hf=>?_) (fun i j y e1 e2=>?_) k5 (fun y hy=>?_) (fun y hy=>?_) hg ht he hs hst hfr
 ·rw[kind];rcases k4 x hx with(z|z)|z
  ·exact absurd hf z
  ·exact .inl z
  ·exact .inr z
 ·have hlt:i<js.length:=(w0b.mp e2).1;have z:=k6 i hlt;rw[e1,e2]at z;rw[hN]
  simpa using z
 ·obtain⟨z1,z2⟩:=k7 y hy;refine⟨PySem.mem_of_lookup z1,?_,?_⟩
  ·rw[hsc];rcases z2 with z|z
   ·exact .inr (.inl z)
   ·exact .inr (.inr z)
  ·rw[kind];rcases z2 with z|z<;>(rw[z];decide)
 ·exact q54 (k7 y hy).1
end L2
namespace D
open PySem L2
variable{cc:Den Bool}{d:Den W}{js:List Nat}{e pe:List S}{ws:List W}
noncomputable def compX(c:Den Bool)(d:Den W)(pe:List S):List W->Option (Value ⊕ List W)
 |[]=>some (.inr [])
 |w::ws=>match c (.fr w::pe)with
  |.ok true e1=>match d e1 with
   |.ok y _=>(compX c d pe ws).map (Sum.map id (y::·))
   |.ex k _=>some (.inl k)
   |.no=>none
  |.ok false _=>compX c d pe ws
  |.ex k _=>some (.inl k)
  |.no=>none
noncomputable def compXR(e:List S):Option (Value ⊕ List W)->R (List W)
 |some (.inr out)=>.ok out e
 |some (.inl k)=>.ex k e
 |none=>.no
noncomputable def compKX(js:List Nat)(c:Den Bool)(d:Den W)(ws:List W)(e1:List S):R (List W):=
 if ws.length<=16777216 then compXR (frzs js e1) (compX c d (pjS js (frzs js e1)) ws)else .no
noncomputable def compWX(js:List Nat)(c:Den Bool)(d:Den W)(e:List S):Option (List W)->R (List W)
 |some ws=>compKX js c d ws e
 |none=>.no
noncomputable def dCompX(js:List Nat)(di:Den W)(c:Den Bool)(d:Den W):Den (List W):=fun e=>(di e).bind fun w e1=>compWX js c d e1 (seqW w)
theorem y0n:compKX js cc d ws e=if ws.length<=16777216 then compXR (frzs js e) (compX cc d (pjS js (frzs js e)) ws)else .no:=rfl
theorem x2o{di:Den W}:dCompX js di cc d e=(di e).bind fun w e1=>compWX js cc d e1 (seqW w):=rfl
theorem x3l:compWX js cc d e (some ws)=compKX js cc d ws e:=rfl
theorem x7t{out:List W}:compXR e (some (.inr out))=.ok out e:=rfl
theorem x7u{k:Value}:compXR e (some (.inl k))=.ex k e:=rfl
theorem x04{g:W->W}:∀(ws:List W),(∀w∈ws,∃e',d (.fr w::pe)=.ok (g w) e')->compX dYes d pe ws=some (.inr (ws.map g))
 |[],_=>rfl
 |w::ws,h=>by
  obtain⟨e',he⟩:=h w (by simp);show(match d (.fr w::pe)with|.ok y _=>(compX dYes d pe ws).map (Sum.map id (y::·))|.ex k _=>some (.inl k)|.no=>none)=_;rw[he,x04 ws fun u hu=>h u (by simp[hu])]
  rfl
theorem x2p{k:Value}{w:W}{e':List S}(h:d (.fr w::pe)=.ex k e'):compX dYes d pe (w::ws)=some (.inl k):=by
 show(match d (.fr w::pe)with|.ok y _=>(compX dYes d pe ws).map (Sum.map id (y::·))|.ex k _=>some (.inl k)|.no=>none)=_;rw[h]
theorem q8q{w y:W}{e':List S}(h:d (.fr w::pe)=.ok y e'):compX dYes d pe (w::ws)=(compX dYes d pe ws).map (Sum.map id (y::·)):=by
 show(match d (.fr w::pe)with|.ok y _=>(compX dYes d pe ws).map (Sum.map id (y::·))|.ex k _=>some (.inl k)|.no=>none)=_;rw[h]
section
variable{K:PySem.W.Frag}{Z:Zt}{G G1 H H1:Hp}{σ:St}{e1:List S}
theorem x2q{EE:St->XK}{J:It}{xs:List V}{SQ:Hp->Prop}{out:Value ⊕ List W}{c:Den Bool}{Q:VK}{G0:Hp}(W0:Walk J xs SQ)(r1:Rel K Z G1 σ H1 e1)(s1:Same G0 G1)(rp:Reps K G1 ws xs)(hSQ:∀G' H',Same G1 G'->Same G' H'->SQ H')(hl:ws.length<=16777216)
  (hz:∀p,H1 p=none->p∉Z.io)(hc:compX c d (pjS js e1) ws=some out)
  (h:Sum.elim (fun k=>∀G' H',Rel K Z G' σ H' e1->Same G0 G'->EE σ k none H') (fun o=>∀G' a xs H',Rel K Z G' σ H' e1->Same G0 G'->H' a=some (.lst xs)->G' a=none->Z.H a=none->Free σ e1 a->Reps K G' o xs->Q (.ref a) H') out):
  ∀D,H1 D=none->∃W:Nat->Nat->Hp->Prop,(∃m,W 0 m (upd H1 D (.lst [])))/\∀i m H2,W i m H2 ->
   (J.stop i H2/\Q (.ref D) H2)\/(J.go i H2/\∀x H3,J.yld i H2 x H3->gName 0 x (List.replicate 1 none++pj js σ) H3 fun σ4 H4=>Kp (List.replicate 1 none++pj js σ) σ4/\(fun τ H Q=>∃Z',liftT K Z' (fun _=>EE σ) c τ H Q) σ4 H4 fun b H5=>
    if b=true then(fun τ H Q=>∃Z',AtG K Z' τ H fun G e=>(d e).holds (fun w e'=>∀G' v H',Rel K Z' G' τ H' e'->Same G G'->Rep K G' w v->Q v H') (XH K Z' (fun _=>EE σ) τ G)) σ4 H5 fun y H6=>∃ys,H6 D=some (.lst ys)/\ys.length<sizeLine/\∃m',m'<m/\W (i+1) m' (upd H6 D (.lst (ys++[y])))else ∃m',m'<m/\W (i+1) m' H5):=by
 intro D hD;have hlen:=rp.length
 refine⟨fun i m H2=>m=ws.length-i/\i<=ws.length/\∃G2 ys done rest,Rel K Z G2 σ H2 e1/\Same G1 G2/\H2 D=some (.lst ys)/\G2 D=none/\Reps K G2 done ys/\done.length<=i/\compX c d (pjS js e1) (ws.drop i)=some rest/\Sum.map id (done++·) rest=out,
  ⟨ws.length,by omega,w1f _,G1,[],[],out,r1.grow (Grow.hid r1.sub hD _),.refl _,q0h,r1.sub.free hD,rfl,w0e _,hc,by cases out<;>rfl⟩,?_⟩
 rintro i m H2 ⟨rfl,hi,G2,ys,done,rest,r2,s2,hd2,hg2,rp2,hdl,hc2,ho⟩;have hfree:Free σ e1 D:=q55 r1 hD;have hzh:Z.H D=none:=q5m r1 hD
 by_cases hlt:i<ws.length
 ·refine .inr ⟨W0.go i H2 (hSQ G2 H2 s2 r2.sub) (by omega),fun x H3 hy=>?_⟩
  obtain⟨rfl,hx⟩:=W0.yld i H2 x H3 (hSQ G2 H2 s2 r2.sub) hy (by omega);obtain⟨w,hw,pw⟩:=rp.getV hx;rw[q7j hw]at hc2;refine⟨Kp.one,⟨H3,G2,[]⟩,G2,.fr w::pjS js e1,r2.block js (Rep.mono s2 w pw),?_⟩;unfold compX at hc2;cases qc:c (.fr w::pjS js e1)with
  |no=>rw[qc]at hc2;cases hc2
  |ex k0 e0=>
   rw[qc]at hc2;cases hc2;intro G3 H5 r3 s3;have ho':out=.inl k0:=ho.symm;subst ho';exact h G3 H5 (r2.grow (r3.toGrow s3)) (s1.trans (s2.trans s3))
  |ok k e2=>
   rw[qc]at hc2;intro G3 H5 r3 s3;have g3:=r3.toGrow s3;cases k with
   |false=>
    exact⟨ws.length-(i+1),by omega,rfl,hlt,G3,ys,done,rest,r2.grow g3,s2.trans s3,g3.hh _ _ hd2,by rw[g3.new D (by rw[hd2];simp)];exact hg2,Reps.mono s3 _ rp2,by omega,hc2,ho⟩
   |true=>
    refine⟨⟨H3,G2,[]⟩,G3,e2,r3,?_⟩;dsimp only at hc2;cases qd:d e2 with
    |no=>rw[qd]at hc2;cases hc2
    |ex k0 e0=>
     rw[qd]at hc2;cases hc2;intro G4 H6 r4 s4;have ho':out=.inl k0:=ho.symm;subst ho';exact h G4 H6 (r2.grow (r4.toGrow (s3.trans s4))) (s1.trans (s2.trans (s3.trans s4)))
    |ok y e3=>
     rw[qd]at hc2;intro G4 v H6 r4 s4 p4;have g4:=r4.toGrow (s3.trans s4);obtain⟨rest',hr,rfl⟩:=w0f.mp hc2;have hd6:H6 D=some (.lst ys):=g4.hh _ _ hd2;have hg6:G4 D=none:=by rw[g4.new D (by rw[hd2];simp)];exact hg2
     refine⟨ys,hd6,?_,ws.length-(i+1),by omega,rfl,hlt,G4,ys++[v],done++[y],rest',(r2.grow g4).mutFree hg6 hzh (hz D hD) hfree hd6,s2.trans (s3.trans s4),q0h,hg6,(Reps.mono (s3.trans s4) _ rp2).append (.one p4),by simp;omega,hr,by cases rest'<;>simpa [Sum.map]using ho⟩;rw[rp2.length,sizeLine_eq];omega
 ·have:i=ws.length:=by omega
  subst this;rw[w2l]at hc2;cases hc2;have ho':out=.inr done:=by rw[<- ho];simp[Sum.map]
  subst ho';exact .inl ⟨W0.stop _ H2 (hSQ G2 H2 s2 r2.sub) (by omega),h G2 D ys H2 r2 (s1.trans s2) hd2 hg2 hzh hfree rp2⟩
end
section
variable{X:Cx}{Z:Zt}{EE:St->XK}{elt iter a b:Expr}{ifs:List Expr}{scope sc:Scope}{pos pt:Pos}{x:Str}{Nf N:List Str}{di:Den W}{dA:Den (List W)}{c:Den Bool}
noncomputable def cTX(K:PySem.W.Frag)(c:Den Bool):(St->XK)->TT:=fun E' σ H Q=>∃Z',liftT K Z' E' c σ H Q
noncomputable def cEX(K:PySem.W.Frag)(d:Den W):(St->XK)->TE:=fun E' σ H Q=>∃Z',AtG K Z' σ H fun G e=>(d e).holds (fun w e'=>∀G' v H',Rel K Z' G' σ H' e'->Same G G'->Rep K G' w v->Q v H') (XH K Z' E' σ G)
theorem y71{Y:List Str}(ht:∀Z' cl C s₀ H₀ ex xe E',PassX (CX1 X.prog X.w) (X.cpx Y scope cl C s₀ H₀ ex xe) E'->DTs Z' (X.cpx Y scope cl C s₀ H₀ ex xe) E' ifs c):∀cl C s₀ H₀ ex xe E',PassX (CX1 X.prog X.w) (X.cpx Y scope cl C s₀ H₀ ex xe) E'->PTs (X.cpx Y scope cl C s₀ H₀ ex xe) ifs (cTX X.K c E'):=fun cl C s₀ H₀ ex xe E' p pins s σ H Q I ⟨Z',h⟩=>ht Z' cl C s₀ H₀ ex xe E' p pins s σ H Q I h
theorem y72{Y:List Str}(he:∀Z' cl C s₀ H₀ ex xe E',PassX (CX1 X.prog X.w) (X.cpx Y scope cl C s₀ H₀ ex xe) E'->DE Z' (X.cpx Y scope cl C s₀ H₀ ex xe) E' elt d):∀cl C s₀ H₀ ex xe E',PassX (CX1 X.prog X.w) (X.cpx Y scope cl C s₀ H₀ ex xe) E'->PE (X.cpx Y scope cl C s₀ H₀ ex xe) elt (cEX X.K d E'):=fun cl C s₀ H₀ ex xe E' p pins s σ H Q I ⟨Z',h⟩=>he Z' cl C s₀ H₀ ex xe E' p pins s σ H Q I h
theorem x2r{P:List W->List S->Prop}{Ex:Value->List S->Prop}{e1:List S}(h:(compKX js c d ws e1).holds P Ex):ws.length<=16777216/\∃out,compX c d (pjS js (frzs js e1)) ws=some out/\Sum.elim (fun k=>Ex k (frzs js e1)) (fun o=>P o (frzs js e1)) out:=by
 unfold compKX at h;split at h
 ·rename_i hl;cases ho:compX c d (pjS js (frzs js e1)) ws with
  |none=>rw[ho]at h;exact h.elim
  |some out=>rw[ho]at h;exact⟨hl,out,rfl,by cases out<;>exact h⟩
 ·exact h.elim
theorem x5k{K:PySem.W.Frag}:∀σ H Q,liftF K Z EE (dCompX js di c d) σ H Q->tCompX EE (iSeq K (liftE K Z EE di)) 1 js (gName 0) (cTX K c) (cEX K d) σ H Q:=by
 rintro σ H Q ⟨G,e,rel,h⟩;simp only[x2o,R.holds_bind]at h;refine⟨G,e,rel,h.imp (fun w e1 h G1 v1 H1 r1 s1 p1=>?_) fun _ _ h=>h⟩
 cases hw:seqW w with
 |none=>rw[hw]at h;exact h.elim
 |some ws=>
  rw[hw]at h;obtain⟨hl,out,ho,h⟩:=x2r h;have h:Sum.elim (fun k=>∀G' H',Rel K Z G' σ H' (frzs js e1)->Same G G'->EE σ k none H') (fun o=>∀G' a xs H',Rel K Z G' σ H' (frzs js e1)->Same G G'->H' a=some (.lst xs)->G' a=none->Z.H a=none->Free σ (frzs js e1) a->Reps K G' o xs->Q (.ref a) H') out:=by cases out<;>exact h
  obtain⟨G2,s2,r2⟩:=r1.frzs js;have p2:=Rep.mono s2 w p1;have io:=ionone r2;cases w with
  |tup us=>
   cases hw;obtain⟨a,xs,rfl,hq,rp⟩:=p2;exact⟨a,rfl,.inr ⟨⟨xs,r2.sub.tup hq⟩,x2q (EE:=EE) x2e r2 (s1.trans s2) rp (fun G' H' s s'=>Same.tup s' (Same.tup s hq)) hl io ho h⟩⟩
  |lst us=>
   cases hw;obtain⟨a,xs,rfl,hq,rp⟩:=p2;exact⟨a,rfl,.inl ⟨⟨xs,r2.sub.seq hq⟩,x2q (EE:=EE) x2d r2 (s1.trans s2) rp (fun G' H' s s'=>Same.seq s' (Same.seq s hq)) hl io ho h⟩⟩
  |_=>cases hw
theorem q8r(hp:PassA X EE)(hc:X.calm=true)(hi:DE Z X EE iter di)(ok:compOk sc scope N Nf js=true)
  (ht:∀Z' cl C s₀ H₀ ex xe E',PassX (CX1 X.prog X.w) (X.cpx ([x]++Nf) scope cl C s₀ H₀ ex xe) E'->DTs Z' (X.cpx ([x]++Nf) scope cl C s₀ H₀ ex xe) E' ifs c)(he:∀Z' cl C s₀ H₀ ex xe E',PassX (CX1 X.prog X.w) (X.cpx ([x]++Nf) scope cl C s₀ H₀ ex xe) E'->DE Z' (X.cpx ([x]++Nf) scope cl C s₀ H₀ ex xe) E' elt d)
  (hg:∀cl C s₀ H₀ ex xe,PG (X.cpx ([x]++Nf) scope cl C s₀ H₀ ex xe) (.Name x pt) (gName 0))
  (hst:X.stack=X.env::X.outer:=by rfl)(hfr:X.env.frame=some X.env.locals:=by rfl)(hsc:X.env.scope=sc:=by rfl)(hN:X.N=N:=by rfl)(hs:∀x,foldedSetIterable iter X.env x=pure x:=by intro _;rfl):
  DF Z X EE (.ListComp elt [⟨.Name x pt,iter,ifs,0⟩] scope pos) (dCompX js di c d):=by
 exact PE.mono (x7s (Nl:=[x]) (tc:=cTX X.K c) (te:=cEX X.K d) hp hc (q9d hi) ok hg (y71 ht) (y72 he) hsc hN hs hst hfr) x5k
end
end D
namespace L2
open PySem PySem.Spec PyProof.Rows
variable{a:Addr}{A:Around}{es:Array (Int×Value)}{h:Int}{j n:Nat}{prog:Program}{s:Shared}{α:Type}{E:Value->Shared->Prop}{w:World}
theorem q8s{xs:Array Nat}(hs:xs.toList.Pairwise (·<·)):∀(fuel lo hi:Nat),hi-lo<=fuel->lo<=hi->hi<=xs.size ->
  (∀i (_:i<lo) (h:i<xs.size),xs[i]<j)->(∀i (_:hi<=i) (h:i<xs.size),j<=xs[i]) ->
  (∀i (_:i<SetTable.below.go xs j fuel lo hi) (h:i<xs.size),xs[i]<j)/\(∀i (_:SetTable.below.go xs j fuel lo hi<=i) (h:i<xs.size),j<=xs[i])
 |0,lo,hi,hf,h1,h2,a1,a2=>by
  have:lo=hi:=by omega
  subst this;exact⟨a1,a2⟩
 |fuel+1,lo,hi,hf,h1,h2,a1,a2=>by
  have mono:∀i k (hi:i<xs.size) (hk:k<xs.size),i<=k->xs[i]<=xs[k]:=fun i k hi hk hik=>by
   rcases w4g hik with z|z
   ·have:=w2i.mp hs i k (by simpa using hi) (by simpa using hk) z;simp only[w2e]at this;omega
   ·subst z;exact w0e _
  unfold SetTable.below.go;split
  ·rename_i hlt;dsimp only;have hmid:(lo+hi) / 2<xs.size:=by omega
   have hg:xs.getD ((lo+hi) / 2) j=xs[(lo+hi) / 2]:=by simp[Array.getD,hmid]
   rw[hg];split
   ·rename_i hx;exact q8s hs fuel _ hi (by omega) (by omega) h2 (fun i h3 h4=>w4h (mono i _ h4 hmid (by omega)) hx) a2
   ·rename_i hx;exact q8s hs fuel lo _ (by omega) (by omega) (by omega) a1 (fun i h3 h4=>w0w (w2u.mp hx) (mono _ i hmid h4 h3))
  ·rename_i hge;have:lo=hi:=by omega
   subst this;exact⟨a1,a2⟩
theorem x2s{xs:Array Nat}{j:Nat}(hs:xs.toList.Pairwise (·<·)):(∀i (_:i<SetTable.below xs j) (h:i<xs.size),xs[i]<j)/\(∀i (_:SetTable.below xs j<=i) (h:i<xs.size),j<=xs[i]):=by
 unfold SetTable.below;exact q8s hs xs.size 0 xs.size (by omega) (by omega) (by omega) (fun i h=>by omega) (fun i h h2=>by omega)
def Rise(t:SetTable):Prop:=t.place.toList.Pairwise (·<·)/\t.dummies=#[]
theorem Rise.standIn{t:SetTable}(n:Nat):Rise (t.standIn n):=by
 refine⟨?_,rfl⟩;show(Array.range n).toList.Pairwise (·<·);rw[Array.toList_range];exact w2t
theorem Rise.orStandIn{t:SetTable}(h:Rise t)(n:Nat):Rise (t.orStandIn n):=by
 unfold SetTable.orStandIn;split
 ·exact h
 ·exact Rise.standIn n
theorem x2t:SetTable.has #[] j=false:=by
 unfold SetTable.has;simp
theorem Rise.put{t:SetTable}(h:Rise t)(hj:t.slot j=.empty):Rise (t.put j).1:=by
 obtain⟨h1,h2⟩:=h;obtain⟨b1,b2⟩:=x2s (j:=j) h1
 have hne:t.place[SetTable.below t.place j]?≠some j:=fun z=>by
  unfold SetTable.slot at hj;simp[z]at hj
 have b3:∀i (_:SetTable.below t.place j<=i) (hi:i<t.place.size),j<t.place[i]:=fun i hi hs=>by
  have q:=b2 i hi hs;rcases w4g q with z|z
  ·exact z
  ·exfalso
   by_cases e:i=SetTable.below t.place j
   ·subst e;exact hne (by rw[w1h hs,<- z])
   ·have hlt:SetTable.below t.place j<i:=by omega
    have q2:=b2 _ (w0e _) (w3w hlt hs);have q3:=w2i.mp h1 _ i (by simpa using w3w hlt hs) (by simpa using hs) hlt;simp only[w2e]at q3;omega
 refine⟨?_,?_⟩
 ·show(SetTable.insertAt t.place (SetTable.below t.place j) j).toList.Pairwise (·<·);rw[SetTable.toList_insertAt,w3z];refine⟨h1.sublist (List.take_sublist _ _),w2b.mpr ⟨fun x hx=>?_,h1.sublist (List.drop_sublist _ _)⟩,fun x hx y hy=>?_⟩
  ·obtain⟨i,hi,rfl⟩:=w2h.mp hx;rw[List.getElem_drop,w2e];exact b3 _ (by omega) _
  ·have hxj:x<j:=by
    obtain⟨i,hi,rfl⟩:=w2h.mp hx;rw[List.getElem_take,w2e];rw[w2j]at hi;exact b1 _ (by omega) _
   rcases w0p.mp hy with rfl|hy
   ·exact hxj
   ·obtain⟨i,hi,rfl⟩:=w2h.mp hy;rw[List.getElem_drop,w2e];exact w3w hxj (b3 _ (by omega) _)
 ·show(if SetTable.has t.dummies j=true then _ else t.dummies)=#[];rw[h2,x2t];rfl
theorem x2u{t:SetTable}{f:Nat->Int}(hd:t.dummies=#[]):∀(fuel:Nat)(p:SetTable.Probe)(m:SetTable.Met),p.dummy=none->SetTable.probe.go t f h fuel p=some m->∀j d,m=.empty j d->t.slot j=.empty/\d=none
 |0,p,m,hp,hm,j,d,e=>by cases hm
 |fuel+1,p,m,hp,hm,j,d,e=>by
  unfold SetTable.probe.go at hm
  have adv:∀q:SetTable.Probe,q.dummy=none->(t.advance q).dummy=none:=fun q hq=>by
   unfold SetTable.advance;split<;>exact hq
  split at hm
  ·rename_i hs;cases hm;cases e;exact⟨hs,hp⟩
  ·rename_i hs;exfalso;unfold SetTable.slot at hs;rw[hd,x2t]at hs
   by_cases z:t.place[SetTable.below t.place p.j]?=some p.j<;>simp[z]at hs
  ·split at hm
   ·cases hm;cases e
   ·exact x2u hd fuel _ m (adv p hp) hm j d e
theorem x7v{t:SetTable}{b:Bool}(hd:t.dummies=#[])(hf:t.freeSlot h=some (j,b)):t.slot j=.empty:=by
 unfold SetTable.freeSlot at hf;split at hf
 ·rename_i j0 d0 hq;obtain⟨z1,z2⟩:=x2u hd _ _ _ rfl hq j0 d0 rfl;subst z2;cases hf;exact z1
 ·cases hf
theorem Rise.layNew{t:SetTable}{x:Value}(hr:Rise t):Rise (layNew t es h x).2.1:=by
 unfold PySem.layNew;split
 ·rename_i slot wd hq;exact(hr.put (x7v hr.2 hq)).orStandIn _
 ·exact Rise.standIn _
theorem x1o{t:SetTable}:(t.orStandIn n).led=t.led:=by
 unfold SetTable.orStandIn;split<;>rfl
theorem layNew_led{t:SetTable}{x:Value}:(layNew t es h x).2.1.led=t.led:=by
 unfold PySem.layNew;split
 ·exact x1o
 ·rfl
theorem y4d{mask finger moves:Nat}{led plain:Bool}{hs:Array Int}{t:SetTable}{o:Array Nat}(h:SetTable.laid mask finger moves led plain hs=some (t,o)):Rise t/\t.led=led:=by
 unfold SetTable.laid at h;cases q:SetTable.layClean mask hs with
 |none=>rw[q]at h;cases h
 |some owner=>
  rw[q]at h;have h:some _=some _:=h;simp only[Option.some.injEq,Prod.mk.injEq]at h;obtain⟨rfl,_⟩:=h;refine⟨⟨?_,rfl⟩,rfl⟩;simp only[List.toList_toArray];refine List.Pairwise.map _ (R:=fun(p q:Nat×Nat)=>p.1<q.1) (fun _ _ h=>h) ?_
  refine List.Pairwise.filterMap _ (R:=(·<·)) (fun a b hab c hc d hd=>?_) w2t
  obtain⟨_,_,rfl⟩:=w0f.mp hc;obtain⟨_,_,rfl⟩:=w0f.mp hd;exact hab
theorem Rise.relayAll{t:SetTable}:Rise (relayAll t es n).2.1/\(relayAll t es n).2.1.led=t.led:=by
 unfold PySem.relayAll;split
 ·rename_i t' o hq;dsimp only;split
  ·exact y4d hq
  ·exact⟨Rise.standIn _,rfl⟩
 ·exact⟨Rise.standIn _,rfl⟩
noncomputable def valI:Value->Int
 |.int n _=>n
 |_=>0
structure SetData(prog:Program)(w:World)(es:Array (Int×Value))(t:SetTable)(S:List Int):Prop where
 el:ElemsOf (intKind prog w) es.toList
 sz:es.size<scanBound
 fit:t.fits es.size=true
 rise:Rise t
 led:t.led=!w.params.followText "set-order"
 whole:∀e∈es.toList,∃n k,e.2=Value.int n k
 perm:(es.toList.map fun e=>valI e.2).Perm S
def SetR(prog:Program)(w:World)(h:Heap)(a:Addr)(S:List Int):Prop:=
 ∃o es ep t,h.get? a=some o/\o.ExactSet/\o.data=.set es ep t/\SetData prog w es t S
noncomputable def stepD(S:List Int)(k:Int):List Int:=if k∈S then S else S++[k]
section
variable{S:List Int}{t:SetTable}{ep:Nat}{o:Obj}
theorem SetData.len(D:SetData prog w es t S):es.size=S.length:=by
 have:=D.perm.length_eq
 simpa using this
theorem SetData.relay(D:SetData prog w es t S)(n:Nat):SetData prog w (relayAll t es n).1 (relayAll t es n).2.1 S:=by
 have p:=relayAll_perm t es n;have hz:(relayAll t es n).1.size=es.size:=by have:=p.length_eq;simpa using this
 exact⟨D.el.perm p,by rw[hz];exact D.sz,relayAll_fits t es n,Rise.relayAll.1,Rise.relayAll.2.trans D.led,fun e he=>D.whole e (p.mem_iff.mp he),(p.map _).trans D.perm⟩
theorem SetData.lay(D:SetData prog w es t S){k:Int}{u:Tok}(hr:es.size+1<scanBound)(hk:k∉S):SetData prog w (layNew t es (hashInt k) (.int k u)).1 (layNew t es (hashInt k) (.int k u)).2.1 (S++[k]):=by
 have p:=layNew_perm t es (hashInt k) (.int k u);rw[Array.toList_push]at p;have hz:(layNew t es (hashInt k) (.int k u)).1.size=es.size+1:=by have:=p.length_eq;simpa using this
 refine⟨?_,by rw[hz];exact hr,layNew_fits ..,D.rise.layNew,layNew_led.trans D.led,fun e he=>?_,?_⟩
 ·exact ElemsOf.perm (ElemsOf.push D.el (k:=k) (intKind_is prog w k u) rfl) p
 ·rcases w1a.mp (p.mem_iff.mp he)with z|z
  ·exact D.whole e z
  ·rw[w0g.mp z];exact⟨k,u,rfl⟩
 ·refine(p.map _).trans ?_;rw[w0i];exact D.perm.append (.refl _)
theorem y0o(D:SetData prog w es t S)(k:Int):(es.toList.findIdx? (fun e=>(intKind prog w).is k e.2)).isSome=decide (k∈S):=by
 rw[List.findIdx?_isSome,Bool.eq_iff_iff,w2x,decide_eq_true_eq,<- D.perm.mem_iff];constructor
 ·rintro⟨e,he,q⟩;obtain⟨n,u,hn⟩:=D.whole e he;rw[hn]at q;have:n=k:=by simpa [intKind,Value.isInt]using q
  exact w0n.mpr ⟨e,he,by rw[hn];exact this⟩
 ·intro h;obtain⟨e,he,q⟩:=w0n.mp h;obtain⟨n,u,hn⟩:=D.whole e he;refine⟨e,he,?_⟩;rw[hn]at q |-
  have:n=k:=q;subst this;exact intKind_is prog w n u
theorem x05(ho:s.heap.get? a=some o)(hex:o.ExactSet)(hd:o.data=.set es ep t){es':Array (Int×Value)}{t':SetTable}{S':List Int}{Q:Unit->Shared->Prop}(D:SetData prog w es' t' S')
  (h:∀h',Heap.SameBut a s.heap h'->(∃o',h'.get? a=some o'/\o'.ExactSet/\o'.data=.set es' (ep+1) t')->Q () {s with heap:=h'}):wpAny (model prog w) A (storeSet a es' t') Q E s:=by
 refine wpAny_storeSet_of ho hd ?_ (fits_of_scanBound D.sz);have hg:=Heap.get?_update_self (Obj.putSet es' t') ho (by rw[putSet_of es' t' hd];rfl);rw[putSet_of es' t' hd]at hg;exact h _ (Heap.SameBut.update s.heap a (Obj.putSet es' t')) ⟨_,hg,hex,rfl⟩
theorem y4e{k:Int}{u:Tok}{Q:Bool->Shared->Prop}(hS:SetR prog w s.heap a S)(hr:S.length+1<scanBound)
  (h:∀h',Heap.SameBut a s.heap h'->SetR prog w h' a (stepD S k)->∀b,Q b {s with heap:=h'}):
  wpAny (model prog w) A (setAddHashed a (.int k u) (hashInt k)) Q E s:=by
 obtain⟨o,es,ep,t,ho,hex,hd,D⟩:=hS;have hlen:=D.len;unfold setAddHashed setAddHashedIn;refine wpAny_holding (wpAny_bind (wpAny_setState_of ho hd D.fit ?_));dsimp only;rw[byScan_of (knd:=intKind prog w) (show(Value.int k u).scannable=true from rfl) D.sz D.el];simp only[↓reduceIte];unfold setAddByScan;refine wpAny_bind (wpAny_bind (wpAny_rule (wpAny_bind ?_)));refine wpAny_setScan_of (knd:=intKind prog w) (k:=k) (intKind_is prog w k u) ho hd D.fit D.el ?_;have hf:=y0o D k;have e0:s={s with heap:=s.heap}:=by cases s;rfl
 cases hq:es.toList.findIdx? (fun e=>(intKind prog w).is k e.2)with
 |some j=>
  rw[hq]at hf;have hk:k∈S:=of_decide_eq_true hf.symm;refine wpAny_pure (wpAny_pure ?_);rw[e0];refine h s.heap (Heap.SameBut.refl a s.heap) ?_ false;unfold stepD;rw[if_pos hk];exact⟨o,es,ep,t,ho,hex,hd,D⟩
 |none=>
  rw[hq]at hf;have hk:k∉S:=fun z=>by rw[decide_eq_true z]at hf;cases hf
  have D1:=D.lay (k:=k) (u:=u) (by omega) hk;dsimp only
  have fin:∀h',Heap.SameBut a s.heap h'->SetR prog w h' a (S++[k])->Q true {s with heap:=h'}:=fun h' h1 h2=>by
   refine h h' h1 ?_ true;unfold stepD;rw[if_neg hk];exact h2
  generalize PySem.layNew t es (hashInt k) (.int k u)=L at D1 |-
  obtain⟨es1,t1,wd,gave⟩:=L;have D1:SetData prog w es1 t1 (S++[k]):=D1;dsimp only
  have gv:∀(b:Bool){s1:Shared}{Q':Unit->Shared->Prop},Q' () s1->wpAny (model prog w) A (match b with|true=>rule "set.scan.the-table-gave-way"|false=>pure ()) Q' E s1:=fun b s1 Q' hq=>by
   cases b
   ·exact wpAny_pure hq
   ·exact wpAny_rule hq
  refine wpAny_bind (gv gave ?_)
  have tail:wpAny (model prog w) A (storeSet a es1 t1 >>= fun _=>if(!wd&&t1.tooFull)=true then(match(relayAll t1 es1 (SetTable.grown es1.size)).2.2 with|true=>rule "set.scan.the-table-gave-way"|false=>pure ()) >>= fun _=>storeSet a (relayAll t1 es1 (SetTable.grown es1.size)).1 (relayAll t1 es1 (SetTable.grown es1.size)).2.1 >>= fun _=>pure (some true)else pure (some true))
    (fun r s'=>wpAny (model prog w) A (match r with|some added=>pure added|none=>setAddHashedIn a (.int k u) (hashInt k) 99999) Q E s') E s:=by
   refine wpAny_bind (x05 ho hex hd D1 fun h1 sb1 ⟨o1,q1,q2,q3⟩=>?_)
   split
   ·refine wpAny_bind (gv _ ?_);refine wpAny_bind (x05 (s:={s with heap:=h1}) q1 q2 q3 (D1.relay _) fun h2 sb2 ⟨o2,r1,r2,r3⟩=>?_)
    exact wpAny_pure (wpAny_pure (fin h2 (sb1.trans sb2) ⟨o2,_,_,_,r1,r2,r3,D1.relay _⟩))
   ·exact wpAny_pure (wpAny_pure (fin h1 sb1 ⟨o1,_,_,_,q1,q2,q3,D1⟩))
  split
  ·refine wpAny_bind ?_;rw[hashByValue_scannable 8 (show(Value.int k u).scannable=true from rfl)];exact wpAny_pure tail
  ·exact wpAny_bind (wpAny_pure tail)
end
noncomputable def dedup(ns:List Int):List Int:=ns.foldl stepD []
theorem q9n:∀(ns S:List Int),S.Nodup->(ns.foldl stepD S).Nodup
 |[],S,h=>h
 |n::ns,S,h=>by
  refine q9n ns _ ?_;unfold stepD;split
  ·exact h
  ·rename_i hn;rw[List.nodup_append];exact⟨h,by simp,fun a ha b hb=>by rw[w0g.mp hb];rintro rfl;exact hn ha⟩
theorem x2v:∀(ns S:List Int)(k:Int),k∈ns.foldl stepD S↔k∈S\/k∈ns
 |[],S,k=>by simp
 |n::ns,S,k=>by
  rw[List.foldl_cons,x2v ns]
  have:k∈stepD S n↔k∈S\/k=n:=by
   unfold stepD;split
   ·rename_i hn;exact⟨.inl,fun z=>z.elim id fun e=>e ▸ hn⟩
   ·simp
  rw[this,w0p,or_assoc]
theorem SetR.keep{h h':Heap}{S:List Int}(x:SetR prog w h a S)(k:∀o,h.get? a=some o->h'.get? a=some o):SetR prog w h' a S:=by
 obtain⟨o,es,ep,t,q,r⟩:=x;exact⟨o,es,ep,t,k o q,r⟩
theorem x2w{R:Result->Shared->Prop}{I c:Addr}{fp wr:List Addr}{G:Array GenState->Array GenState->Prop}{P:Nat->Value->Prop}{St:Nat->Shared->Prop}(W:WalksS prog w A.in1 I fp wr G n P St)(hc:c∉fp)(ns:List Int)(hn:ns.length=n)
  (hv:∀i v,P i v->∃x u,ns[i]?=some x/\v=Value.int x u)(hb:n+1<scanBound):∀(rest:List Int)(i:Nat)(s:Shared)(S:List Int),ns.drop i=rest->i<=n->St i s->S.length<=i->SetR prog w s.heap c S ->
   (∀s',Moved (c::wr) G s s'->SetR prog w s'.heap c (rest.foldl stepD S)->R (.ok (.ret .none)) s')->codeAny (model prog w) A (.builtin "set.update.loop" ⟨[.ref c,.ref I],[]⟩) R s
 |[],i,s,S,hd,hi,st,hl,hS,hR=>by
  have hin:i=n:=by
   have:=congrArg List.length hd;simp at this;omega
  subst hin;have hcw:c∉wr:=fun z=>hc (W.sub _ z)
  refine codeAny_builtin PyProof.Rows.F.entry_set_update_loop ?_;rw[Around.under_plainId PyProof.Rows.F.plain_set_update_loop _];show wpAny (model prog w) A.in1 (pyNext (.ref I) >>= _) _ _ s;refine wpAny_bind (W.done s _ _ st fun s1 mv=>?_)
  exact wpAny_pure (hR s1 (mv.mono fun b hb=>w0z _ hb) (hS.keep fun o q=>mv.heap c o hcw q))
 |x::rest,i,s,S,hd,hi,st,hl,hS,hR=>by
  have hlt:i<n:=by
   have:=congrArg List.length hd;simp at this;omega
  have hx:ns[i]?=some x:=by
   have:=congrArg (·[0]?) hd
   simpa using this
  have hd2:ns.drop (i+1)=rest:=by
   have:=congrArg List.tail hd
   simpa using this
  have hcw:c∉wr:=fun z=>hc (W.sub _ z)
  refine codeAny_builtin PyProof.Rows.F.entry_set_update_loop ?_;rw[Around.under_plainId PyProof.Rows.F.plain_set_update_loop _];show wpAny (model prog w) A.in1 (pyNext (.ref I) >>= _) _ _ s;refine wpAny_bind (W.item i s _ _ hlt st fun v s1 hP st1 mv=>?_)
  obtain⟨y,u,hy,rfl⟩:=hv i v hP;have e:y=x:=Option.some.inj (hy.symm.trans hx);subst e;show wpAny (model prog w) A.in1 (holding [Value.int y u] (setAdd c (.int y u)) >>= _) _ _ s1;refine wpAny_bind (wpAny_holding ?_);unfold setAdd;refine wpAny_holding (wpAny_bind ((intKind prog w).pyHash (k:=y) (intKind_is _ _ _ _) ?_));refine y4e (s:={s1 with toks:=s1.toks+1}) (S:=S) (k:=y) (u:=u) (hS.keep fun o q=>mv.heap c o hcw q) (by omega) fun h2 sb hS2 b=>?_
  have hl2:(stepD S y).length<=i+1:=by
   unfold stepD;split
   ·omega
   ·rw[w0q];exact Nat.succ_le_succ hl
  refine wpAny_pure ⟨plainId_quiet PyProof.Rows.F.plain_set_update_loop _,x2w W hc ns hn hv hb rest (i+1) _ (stepD S y) hd2 hlt (W.frame _ s1 _ _ st1 (w3d _) fun b hb o q=>?_) hl2 hS2 fun s3 mv3 hS3=>?_⟩
  ·exact(sb.2 b fun z=>hc (z ▸ hb)).trans q
  ·refine hR s3 (Moved.trans W.gtrans ((mv.mono fun b hb=>w0z _ hb).then_heap (w3d _) fun b o hb q=>?_) mv3) hS3
   exact(sb.2 b fun z=>hb (by rw[z];exact w1j)).trans q
noncomputable def newO(w:World):Obj:={cls:=.type "set", dict:=none,data:=.set #[] 0 (.fresh 0 0 (!w.params.followText "set-order"))}
theorem y4f{h:Heap}(e:h.get? a=some (newO w)):SetR prog w h a []:=
 ⟨_,#[],0,_,e,⟨rfl,rfl,rfl⟩,rfl,fun e he=>(by simp at he),(by decide),rfl,⟨(by simp[SetTable.fresh]),rfl⟩,rfl,fun e he=>(by simp at he),(by simp)⟩
theorem y4g(v:Value){Q1:Value->Shared->Prop}(h:Q1 (.ref s.heap.objs.size) {s with heap:=s.heap.push (newO w)}):
  codeAny (model prog w) A (.call (.builtin "set.__new__") ⟨[.type "set", v],[]⟩) (wants Q1 E) s:=by
 refine codeAny_of_tree ?_;show wpAny (model prog w) A.in1 (checkBuiltinCall "set.__new__" ⟨[.type "set", v],[]⟩ >>= fun _=>again (.builtin "set.__new__" ⟨[.type "set", v],[]⟩)) _ _ s
 refine wpAny_bind (wpAny_of_eq (PySem.F.newCall_set_1 v) (wpAny_pure ⟨plainId_quiet PySem.F.plain_set_new _,codeAny_builtin PySem.F.entry_set_new ?_⟩));rw[Around.under_plainId PySem.F.plain_set_new _];unfold Builtin.«set.__new__» Builtin.Frozenset.newClass;have hsub:=sub_set_self;obtain⟨hp,g,d,tk,os⟩:=s;dsimp only
 wp_walk
 refine wpAny_askSetting (wpAny_pure ?_);dsimp only;simp only[newObj];exact wpAny_bind (wpAny_alloc (wpAny_pure (wpAny_pure h)))
theorem x7w{l:Addr}{items:Array Value}{ns:List Int}{Q:Value->Shared->Prop}(hh:A.handled=none)(hl:s.heap.IsList l items)(hi:PyProof.Rows.IntsAre items.toList ns)(hb:items.size+1<scanBound)
  (h:∀(h':Heap)(tk:Nat),SetR prog w h' s.heap.objs.size (dedup ns)->(∀b o,b<s.heap.objs.size->s.heap.get? b=some o->h'.get? b=some o)->Q (.ref s.heap.objs.size) {s with heap:=h',toks:=tk}):
  wpAny (model prog w) A (call (.type "set") [.ref l]) Q E s:=by
 obtain⟨c,tl,hmro⟩:=PySem.F.called_set.mro;have hmade:=PySem.F.called_set.made;have hsub:=PySem.F.called_set.sub;refine wpAny_call (codeAny_of_tree ?_);show wpAny (model prog w) _ (callAny (.type "set") _) _ _ s;refine wpAny_pure ⟨Code.quiet_builtin _ (by decide +kernel),codeAny_builtin PySem.F.entry_type_call ?_⟩;rw[Around.under_plain (weight_type_call_type "set" [.ref l] []) rfl];have z1:=PySem.F.called_set.notType;have z2:=PySem.F.called_set.canCreate;have z3:=PySem.F.typeCall_set_1 (.ref l)
 repeat (any_goals (first|assumption|wp_step))
 refine codeAny_mono (y4g (.ref l) (E:=E) (Q1:=fun obj s1=>obj=.ref s.heap.objs.size/\s1={s with heap:=s.heap.push (newO w)}) ⟨rfl,rfl⟩) fun r s1 hr=>?_
 cases r with
 |error e=>exact hr
 |ok fl=>
  cases fl with
  |ret obj=>
   obtain⟨rfl,rfl⟩:=hr;have hS:(s.heap.push (newO w)).get? s.heap.objs.size=some (newO w):=Heap.get?_push_size _ rfl;have hT:Shared.TypeIs {s with heap:=s.heap.push (newO w)} (.ref s.heap.objs.size) "set":=⟨_,hS,rfl⟩;have z4:=PySem.F.called_set.init.lookup;have z5:=PySem.F.called_set.init.bind (.ref s.heap.objs.size)
   repeat (any_goals (first|assumption|wp_step))
   refine codeAny_mono (codeAny_call_builtin (R:=wants (fun r s2=>r=.none/\∃h' tk,s2={s with heap:=h',toks:=tk}/\SetR prog w h' s.heap.objs.size (dedup ns)/\(∀b o,b<s.heap.objs.size->s.heap.get? b=some o->h'.get? b=some o)) E) PySem.F.called_set.init.plain PySem.F.entry_set_init (check_set_init_1 hT ?_)) fun r2 s2 hr2=>?_
   ·obtain⟨ol,hol,hcl,nl,hdl⟩:=hl;obtain⟨ocls,odict,odata,oslots⟩:=ol;simp only at hcl hdl;subst hcl;subst hdl;have hol':(s.heap.push (newO w)).get? l=some {cls:=.type "list", dict:=odict,data:=.seq items nl,slots:=oslots}:=Heap.get?_push_of_some _ hol;have z6:=PySem.F.sub_list_set;have z7:=PySem.F.sub_list_frozenset;have z8:(Value.type "list"==Value.type "dict")=false:=by decide
    have hl1:(s.heap.push (newO w)).IsList l items:=⟨_,hol',rfl,nl,rfl⟩;unfold Builtin.«set.__init__» noKeywords Builtin.Frozenset.updateFrom;generalize hPI:pyIter=PI
    wp_walk
    subst hPI;refine wpAny_pyIter_list hl1 ?_;refine wpAny_bind (wpAny_runValue ?_);have hlS:l<s.heap.objs.size:=Heap.lt_size hol;have hh3:A.in1.in1.in1.handled=none:=hh;have neI:l≠(s.heap.push (newO w)).objs.size:=by rw[Heap.size_push];exact w0j (w1u hlS)
    have nf:s.heap.objs.size∉[(s.heap.push (newO w)).objs.size,l]:=by
     rw[Heap.size_push];simp only[w0p,w3p,or_false,not_or];exact⟨w0j (w2k _),w4k hlS⟩
    refine x2w ((Walks.list hh3 _ l neI items).toS) nf ns (by rw[<- PyProof.Rows.IntsAre.length hi];simp) (fun i v hv=>?_) hb ns 0 _ [] rfl (w1f _) ⟨⟨_,Heap.get?_push_size _ rfl,rfl,rfl⟩,(hl1.push _)⟩ (w0e _) (y4f (Heap.get?_push_of_some _ hS)) fun s' mv hS'=>?_
    ·obtain⟨u,e⟩:=PyProof.Rows.IntsAre.int_at hi i v (by rw[w1x];exact hv)
     have hlt:i<ns.length:=by
      rw[<- PyProof.Rows.IntsAre.length hi];have:=(w1b.mp hv).1
      simpa using this
     exact⟨ns.getD i 0,u,by simp[List.getD,hlt],e⟩
    ·obtain⟨h',g',d',tk',os'⟩:=s';have e1:g'=s.gens:=mv.gens;have e2:d'=s.drawn:=mv.drawn;have e3:os'=s.os:=mv.os;subst e1;subst e2;subst e3;show wpAny _ _ _ _ _ _;refine wpAny_pure ?_;show wpAny _ _ (ret Value.none) _ _ _;refine wpAny_pure ⟨rfl,h',tk',rfl,hS',fun b o hb q=>?_⟩
     have n2:b≠(s.heap.push (newO w)).objs.size:=by rw[Heap.size_push];exact w0j (w1u hb)
     exact mv.heap b o (by simp only[w0p,w3p,or_false,not_or];exact⟨w0j hb,n2⟩) (Heap.get?_push_of_some _ (Heap.get?_push_of_some _ q))
   ·cases r2 with
    |error e=>exact hr2
    |ok f2=>
     cases f2 with
     |ret r=>
      obtain⟨rfl,h',tk,rfl,y1,y2⟩:=hr2
      repeat (any_goals (first|assumption|wp_step))
      exact h _ _ y1 y2
     |_=>exact hr2.elim
  |_=>exact hr.elim
theorem q8t{xs:Array Nat}{j:Nat}:∀(fuel lo hi:Nat),lo<=hi->lo<=SetTable.below.go xs j fuel lo hi/\SetTable.below.go xs j fuel lo hi<=hi
 |0,lo,hi,h=>⟨w0e _,h⟩
 |fuel+1,lo,hi,h=>by
  unfold SetTable.below.go;split
  ·dsimp only;split
   ·have:=q8t (xs:=xs) (j:=j) fuel ((lo+hi) / 2+1) hi (by omega);exact⟨by omega,this.2⟩
   ·have:=q8t (xs:=xs) (j:=j) fuel lo ((lo+hi) / 2) (by omega);exact⟨this.1,by omega⟩
  ·exact⟨w0e _,h⟩
noncomputable def slotAt(t:SetTable)(i:Nat):Nat:=match i with
 |0=>0
 |i+1=>t.place.getD i 0+1
theorem x5l{t:SetTable}(hr:Rise t){i:Nat}(hi:i<=t.place.size):SetTable.below t.place (slotAt t i)=i:=by
 obtain⟨b1,b2⟩:=x2s (j:=slotAt t i) hr.1;have hle:SetTable.below t.place (slotAt t i)<=t.place.size:=(q8t _ _ _ (w1f _)).2;cases i with
 |zero=>
  rcases Nat.eq_zero_or_pos (SetTable.below t.place (slotAt t 0))with z|z
  ·exact z
  ·exact absurd (b1 0 z (by omega)) (Nat.not_lt_zero _)
 |succ i=>
  have hi':i<t.place.size:=hi;have e:slotAt t (i+1)=t.place[i]+1:=by simp[slotAt,Array.getD,hi']
  rw[e]at b1 b2 hle |-
  have mono:∀k l (hk:k<t.place.size) (hl:l<t.place.size),k<l->t.place[k]<t.place[l]:=fun k l hk hl hkl=>by
   have:=w2i.mp hr.1 k l (by simpa using hk) (by simpa using hl) hkl
   simpa using this
  rcases Nat.lt_trichotomy (SetTable.below t.place (t.place[i]+1)) (i+1)with z|z|z
  ·have:=b2 i (by omega) hi';omega
  ·exact z
  ·have h1:=b1 (i+1) z (by omega);have h2:=mono i (i+1) hi' (by omega) (w2k _);omega
theorem q61:∀(l:List α)(i:Nat)(h:i<l.length),(l[i]::l.eraseIdx i).Perm l
 |[],i,h=>absurd h (Nat.not_lt_zero _)
 |x::l,0,h=>.refl _
 |x::l,i+1,h=>by
  have hi:i<l.length:=by simpa using h
  have ih:=q61 l i hi;show(l[i]::x::l.eraseIdx i).Perm (x::l);exact(List.Perm.swap x _ _).trans (ih.cons x)
theorem x4e{next:Nat->Nat}:∀(fuel k:Nat)(left:List α)(out:Array α),fuel=left.length->(pickOrder.go next fuel k left out).toList.Perm (out.toList++left)
 |0,k,left,out,h=>by
  have:left=[]:=w2r.mp h.symm;subst this;simp[pickOrder.go]
 |fuel+1,k,left,out,h=>by
  have hlt:next k%left.length<left.length:=Nat.mod_lt _ (by omega);unfold pickOrder.go;rw[w0d hlt];dsimp only;refine(x4e fuel (k+1) _ _ (by rw[w3f hlt];omega)).trans ?_;rw[Array.toList_push,w1z];refine List.Perm.append_left _ ?_;exact q61 _ _ hlt
theorem q7r(next:Nat->Nat)(xs:Array α):(pickOrder next xs).toList.Perm xs.toList:=by
 unfold pickOrder;have:=x4e (next:=next) xs.size 0 xs.toList #[] (by simp)
 simpa using this
theorem x5m{src:Source}{Q:Nat->Shared->Prop}(hn:n≠0)(h:∀i d,i<n->Q i {s with drawn:=d}):wpAny (model prog w) A (choose src n) Q E s:=fun _ _ _=>
 ⟨hn,h _ _ (Nat.mod_lt _ (Nat.pos_of_ne_zero hn))⟩
theorem q9o:∀(n:Nat)(xs:List α)(s:Shared)(Q:List α->Shared->Prop),n=xs.length->(∀ys d,ys.Perm xs->Q ys {s with drawn:=d})->wpAny (model prog w) A (drawOrder n xs) Q E s
 |0,xs,s,Q,h,hq=>by
  have:xs=[]:=w2r.mp h.symm;subst this;unfold drawOrder;have:=hq [] s.drawn (.refl _);exact wpAny_pure this
 |n+1,[],s,Q,h,hq=>by cases h
 |n+1,x::xs,s,Q,h,hq=>by
  unfold drawOrder;refine wpAny_bind (x5m (by simp) fun i d hi=>?_)
  rw[w0d hi];dsimp only;refine wpAny_bind (q9o n _ _ _ (by rw[w3f hi];simp at h |-;omega) fun ys d' hp=>?_)
  exact wpAny_pure (hq _ _ ((hp.cons _).trans (q61 _ _ hi)))
def MdS(w:World)(a:Addr)(es:Array (Int×Value))(ep:Nat)(t:SetTable)(ord:List Value)(i sl:Nat):Prop:=
 (w.params.followText "set-order"=true/\ord=(pickOrder (w.params.setOrder a ep) es).toList.map (·.2)) \/
 (w.params.followText "set-order"=false/\(!t.plain&&decide (es.size>1))=false/\t.led=true/\Rise t/\sl=slotAt t i/\ord=es.toList.map (·.2))
section
variable{o:Obj}{ep:Nat}{t:SetTable}{ord:List Value}{i sl:Nat}
theorem q98{Q:Bool->Shared->Prop}(h:Q (w.params.followText "set-order") s):wpAny (model prog w) A setsByText Q E s:=by
 unfold setsByText;exact wpAny_bind (wpAny_askSetting (wpAny_pure h))
theorem y0p{Q:Option (Value×Nat)->Shared->Prop}(ho:s.heap.get? a=some o)(hd:o.data=.set es ep t)(hf:t.fits es.size=true)(md:MdS w a es ep t ord i sl)(hi:i<=es.size)
  (h:(ord[i]?=none->Q none s)/\∀x,ord[i]?=some x->∀nx,MdS w a es ep t ord (i+1) nx->Q (some (x,nx)) s):wpAny (model prog w) A (setNext a sl i ep) Q E s:=by
 unfold setNext;refine wpAny_bind (wpAny_setState_of ho hd hf ?_);dsimp only;refine wpAny_bind (q98 ?_);rcases md with⟨m1,m2⟩|⟨m1,m2,m3,m4,m5,m6⟩
 ·rw[m1,if_pos rfl,if_neg (by simp)];refine wpAny_bind ?_;unfold setWalk;refine wpAny_bind (wpAny_setState_of ho hd hf ?_);dsimp only;refine wpAny_bind (q98 ?_);rw[m1,if_pos rfl];refine wpAny_bind (wpAny_askSetting (wpAny_pure (wpAny_pure ?_)));subst m2;show Q (((pickOrder (w.params.setOrder a ep) es)[i]?).map fun e=>(e.2,sl)) s
  cases q:(pickOrder (w.params.setOrder a ep) es)[i]? with
  |none=>exact h.1 (by rw[w0r,w1x,q];rfl)
  |some e=>exact h.2 e.2 (by rw[w0r,w1x,q];rfl) sl (.inl ⟨m1,rfl⟩)
 ·rw[m1,if_neg (by decide)];refine wpAny_ite_split (fun z=>absurd z ?_) fun _=>?_
  ·have e:(!t.plain&&decide (es.size>1))≠true:=by rw[m2];decide
   exact e
  have hz:t.place.size=es.size:=by
   simp only[SetTable.fits,w1g,beq_iff_eq]at hf;exact hf.1
  refine wpAny_bind ?_;show wpAny (model prog w) A (if(!t.led&&!es.isEmpty)=true then unsupported "set:maker-not-led" else pure ()) _ E s;rw[m3,if_neg (by simp)];refine wpAny_pure ?_;subst m5;rw[x5l m4 (by omega)];refine wpAny_pure ?_;subst m6
  by_cases hlt:i<es.size
  ·have hp:i<t.place.size:=by omega
   rw[w1h hlt,w1h hp];refine h.2 es[i].2 (by rw[w0r,w1x,w1h hlt];rfl) _ (.inr ⟨m1,m2,m3,m4,?_,rfl⟩);simp[slotAt,Array.getD,hp]
  ·rw[Array.getElem?_eq_none (by omega)];exact h.1 (by simp;omega)
end
namespace SI
variable{es:Array (Int×Value)}{ord:List Value}{ep:Nat}{w:World}
theorem own:Manifest.owners.lookup (String.ofList ['r','o','t','a','r','e','t','i','_','t','e','s'].reverse)=some Manifest.sig_set_iterator:=by kernel_rfl
theorem next:Slot "set_iterator" "__next__" "set_iterator.__next__":=.of (owner:="set_iterator") (n:="__next__") (by rw[typeLookup_type,builtinLookup_eq_fast];kernel_rfl) (by decide +kernel) (by decide +kernel) (by decide +kernel) (by first|exact .inl (by decide +kernel)|exact .inr (by decide +kernel)) (by rw[isSubtype_type];kernel_rfl)
theorem nextE:entryFor table "set_iterator.__next__"=some Builtin.«set_iterator.__next__»:=entryFor_of_tree (by kernel_rfl)
theorem nextA(a:Value):argsOk "set_iterator.__next__" ⟨[a],[]⟩:=by
 unfold argsOk;rw[signature?_of (id:="set_iterator.__next__") (n:=['_','_','t','x','e','n','_','_']) (o:=['r','o','t','a','r','e','t','i','_','t','e','s']) (by kernel_rfl) own]
 kernel_rfl
theorem iter:Slot "set_iterator" "__iter__" "set_iterator.__iter__":=.of (owner:="set_iterator") (n:="__iter__") (by rw[typeLookup_type,builtinLookup_eq_fast];kernel_rfl) (by decide +kernel) (by decide +kernel) (by decide +kernel) (by first|exact .inl (by decide +kernel)|exact .inr (by decide +kernel)) (by rw[isSubtype_type];kernel_rfl)
theorem iterE:entryFor table "set_iterator.__iter__"=some Builtin.«dict_keyiterator.__iter__»:=entryFor_alias (id':="dict_keyiterator.__iter__") (by kernel_rfl) rfl (by decide +kernel) (by kernel_rfl)
theorem iterA(a:Value):argsOk "set_iterator.__iter__" ⟨[a],[]⟩:=by
 unfold argsOk;rw[signature?_of (id:="set_iterator.__iter__") (n:=['_','_','r','e','t','i','_','_']) (o:=['r','o','t','a','r','e','t','i','_','t','e','s']) (by kernel_rfl) own]
 kernel_rfl
theorem ofSet:entryFor table "set.__iter__"=some Builtin.«frozenset.__iter__»:=entryFor_alias (id':="frozenset.__iter__") (by kernel_rfl) rfl (by decide +kernel) (by kernel_rfl)
end SI
def FirstOk(w:World)(h:Heap)(a T:Addr)(es:Array (Int×Value))(ep:Nat)(t:SetTable)(ord:List Value)(i:Nat)(first:Value):Prop:=
 (∃sl:Nat,first=rawInt sl/\MdS w a es ep t ord i sl) \/
 (∃(ps:List Nat)(oT:Obj)(nT:Nat),first=.ref T/\h.get? T=some oT/\oT.data=.seq (ps.map fun(j:Nat)=>rawInt j).toArray nT/\ps.length=es.size/\ord.length=es.size/\∀(k j:Nat),ps[k]?=some j->∃e,es[j]?=some e/\ord[k]?=some e.2)
def SIt(w:World)(h:Heap)(I a T:Addr)(es:Array (Int×Value))(ep:Nat)(t:SetTable)(ord:List Value)(i:Nat):Prop:=
 (∃o,h.get? a=some o/\o.data=.set es ep t)/\∃oI first,h.get? I=some oI/\oI.cls=.type "set_iterator" /\ oI.data=.fields #[first,rawInt i,.ref a,rawInt es.size,rawInt ep]/\FirstOk w h a T es ep t ord i first
theorem SIt.keep{h h':Heap}{I a T:Addr}{t:SetTable}{i:Nat}(x:SIt w h I a T es ep t ord i)(k:∀b,b=I\/b=a\/b=T->∀o,h.get? b=some o->h'.get? b=some o):SIt w h' I a T es ep t ord i:=by
 obtain⟨⟨o,x1,x2⟩,oI,f,y1,y2,y3,y4⟩:=x;refine⟨⟨o,k a (.inr (.inl rfl)) o x1,x2⟩,oI,f,k I (.inl rfl) oI y1,y2,y3,?_⟩;rcases y4 with z|⟨ps,oT,nT,z1,z2,z3⟩
 ·exact .inl z
 ·exact .inr ⟨ps,oT,nT,z1,k T (.inr (.inr rfl)) oT z2,z3⟩
section
variable{prog:Program}{A:Around}{E:Value->Shared->Prop}{s:Shared}{I a T:Addr}{t:SetTable}{i:Nat}
theorem SIt.type(x:SIt w s.heap I a T es ep t ord i):s.TypeIs (.ref I) "set_iterator":=by
 obtain⟨_,oI,f,y1,y2,_⟩:=x;exact⟨oI,y1,y2⟩
theorem q9p{α:Type}{Q0:α->Shared->Prop}{E0:Value->Shared->Prop}(hh:A.handled=none)(h:∀h' e,(∀b o,s.heap.get? b=some o->h'.get? b=some o)->Shared.TypeIs {s with heap:=h'} (.ref e) "StopIteration"->E0 (.ref e) {s with heap:=h'}):
  wpAny (model prog w) A (newExc (.type "StopIteration") [] >>= fun e=>(raiseNew e:Sem α)) Q0 E0 s:=by
 refine wpAny_bind ?_;simp only[newExc,newTuple];refine wpAny_bind (wpAny_newObj_type ?_ (by size_fits));refine wpAny_bind (m:=firstArgMember _ _) (wpAny_of_eq (a:=Value.none) (by first|rfl|(simp only[firstArgMember];rfl)) ?_);refine wpAny_newObj_type ?_ (by size_fits);simp only[raiseNew];refine wpAny_bind (wpAny_handled ?_);rw[hh];refine wpAny_bind (wpAny_pure (wpAny_throw ?_));exact h _ _ (fun b o q=>Heap.get?_push_of_some _ (Heap.get?_push_of_some _ q)) ⟨_,Heap.get?_push_size _ rfl,rfl⟩
theorem x4f{Q:Option Value->Shared->Prop}(hh:A.handled=none)(x:SIt w s.heap I a T es ep t ord i)(hf:t.fits es.size=true)(nI:a≠I)(nT:T≠I)(hi:i<=es.size)
  (hs:∀v h',ord[i]?=some v->SIt w h' I a T es ep t ord (i+1)->Heap.SameBut I s.heap h'->Q (some v) {s with heap:=h'})
  (he:ord[i]?=none->∀h',Heap.ExtBut I s.heap h'->Q none {s with heap:=h'}):wpAny (model prog w) A (pyNext (.ref I)) Q E s:=by
 have hT:=x.type;obtain⟨⟨o,x1,x2⟩,oI,first,y1,y2,y3,y4⟩:=id x;unfold pyNext;refine wpAny_bind (wpAny_attempt (wpAny_callSpecial?_slot (name:=Str.ofString "__next__") hT SI.next (wpAny_call_entry SI.next hT SI.nextE ?_ (SI.nextA _))));unfold Builtin.«set_iterator.__next__»;refine wpAny_bind (wpAny_of_eq (a:=(Value.ref I,[])) rfl ?_);try dsimp only
 refine wpAny_bind (wpAny_fieldsOf y1 y3 ?_);show wpAny (model prog w) A.in1 (setEntries a >>= _) _ _ s;refine wpAny_bind (wpAny_setEntries_of x1 x2 hf ?_);rw[if_neg (by simp:¬(((es.size:Nat):Int) != ((es.size:Nat):Int))=true)]
 have fin:∀(first':Value)(h':Heap)(vs:Array Value),h'.get? I=some {oI with data:=.fields vs}->vs=#[first',rawInt ((i:Int)+1),.ref a,rawInt es.size,rawInt ep]->Heap.SameBut I s.heap h'->FirstOk w h' a T es ep t ord (i+1) first'->SIt w h' I a T es ep t ord (i+1):=fun first' h' vs q1 q2 q3 q4=>by
  refine⟨⟨o,(q3.2 a nI).trans x1,x2⟩,_,first',q1,y2,?_,q4⟩;rw[q2];rfl
 have upd:∀(h:Heap)(ob:Obj)(vs:Array Value)(k:Nat)(v:Value),h.get? I=some {ob with data:=.fields vs}->(h.update I (Obj.mapFields (·.setIfInBounds k v))).get? I=some {ob with data:=.fields (vs.setIfInBounds k v)}:=fun h ob vs k v q=>by
  have:=Heap.get?_update_self (Obj.mapFields (·.setIfInBounds k v)) q (Obj.isFreed_of_fields (Obj.data_mapFields rfl _));rw[this];rfl
 have y1':s.heap.get? I=some {oI with data:=.fields #[first,rawInt i,.ref a,rawInt es.size,rawInt ep]}:=by rw[y1,<- y3]
 have ss:∀(h h':Heap),Heap.SameBut I h h'->∀b o,b≠I->h.get? b=some o->h'.get? b=some o:=fun h h' q b o hb e=>(q.2 b hb).trans e
 rcases y4 with⟨sl,rfl,md⟩|⟨ps,oT,nTt,rfl,z2,z3,z4,z5,z6⟩
 ·show wpAny (model prog w) A.in1 (setNext a ((sl:Int)).toNat ((i:Int)).toNat ((ep:Int)).toNat >>= _) _ _ s;rw[w1c,w1c,w1c];refine wpAny_bind (y0p x1 x2 hf md hi ⟨fun hn=>?_,fun v hv nx md'=>?_⟩)
  ·refine wpAny_bind (wpAny_setField y1 y3 (by simp) ?_);refine q9p (A:=A.in1) hh fun h' e k1 k2=>?_
   refine wpAny_bind (wpAny_isInstance (T:="StopIteration") (b:=true) k2 isSubtype_stop ?_);exact wpAny_pure (he hn h' fun b o hb q=>k1 b o (ss _ _ (Heap.SameBut.update s.heap I _) b o hb q))
  ·dsimp only;refine wpAny_bind (wpAny_setField y1 y3 (by simp) ?_);have g1:=upd s.heap oI _ 0 (rawInt (nx:Int)) y1';refine wpAny_bind (wpAny_setField g1 rfl (by simp) ?_);have g2:=upd _ oI _ 1 (rawInt ((i:Int)+1)) g1;have sb:=(Heap.SameBut.update s.heap I (Obj.mapFields (·.setIfInBounds 0 (rawInt (nx:Int))))).trans (Heap.SameBut.update _ I (Obj.mapFields (·.setIfInBounds 1 (rawInt ((i:Int)+1)))));exact wpAny_pure ⟨v,rfl,wpAny_pure (hs v _ hv (fin (rawInt (nx:Int)) _ _ g2 (by simp) sb (.inl ⟨nx,rfl,md'⟩)) sb)⟩
 ·show wpAny (model prog w) A.in1 (seqItems? (.ref T) >>= _) _ _ s;refine wpAny_bind (wpAny_seqItems z2 z3 ?_);dsimp only;rw[w1c];cases hq:ps[i]? with
  |none=>
   have e0:(ps.map fun(j:Nat)=>rawInt j).toArray[i]?=none:=by simp[hq]
   rw[e0];dsimp only
   have hn:ord[i]?=none:=by
    rw[w3h]at hq |-
    omega
   refine wpAny_bind (wpAny_setField y1 y3 (by simp) ?_);have g1:=upd s.heap oI _ 0 (rawInt 0) y1';refine wpAny_bind (wpAny_setField g1 rfl (by simp) ?_);refine q9p (A:=A.in1) hh fun h' e k1 k2=>?_
   refine wpAny_bind (wpAny_isInstance (T:="StopIteration") (b:=true) k2 isSubtype_stop ?_);exact wpAny_pure (he hn h' fun b o hb q=>k1 b o (ss _ _ ((Heap.SameBut.update s.heap I _).trans (Heap.SameBut.update _ I _)) b o hb q))
  |some j=>
   have e0:(ps.map fun(j:Nat)=>rawInt j).toArray[i]?=some (rawInt (j:Int)):=by simp[hq]
   rw[e0];show wpAny (model prog w) A.in1 (setNextDrawn a ((j:Int)).toNat ((ep:Int)).toNat >>= _) _ _ s;rw[w1c,w1c];obtain⟨e1,c1,c2⟩:=z6 i j hq;unfold setNextDrawn;refine wpAny_bind (wpAny_bind (wpAny_setState_of x1 x2 hf ?_));dsimp only;rw[if_neg (by simp),c1];refine wpAny_pure ?_;refine wpAny_bind (wpAny_setField y1 y3 (by simp) ?_);have g1:=upd s.heap oI _ 1 (rawInt ((i:Int)+1)) y1';have sb:=Heap.SameBut.update s.heap I (Obj.mapFields (·.setIfInBounds 1 (rawInt ((i:Int)+1))));exact wpAny_pure ⟨e1.2,rfl,wpAny_pure (hs e1.2 _ c2 (fin (.ref T) _ _ g1 (by simp) sb (.inr ⟨ps,oT,nTt,rfl,(sb.2 T nT).trans z2,z3,z4,z5,z6⟩)) sb)⟩
end
open PySem PySem.Spec PyProof.Rows
section
variable{prog:Program}{A:Around}{E:Value->Shared->Prop}{s:Shared}{I a T:Addr}{t:SetTable}{S:List Int}
theorem x7x(hh:A.handled=none)(hf:t.fits es.size=true)(nI:a≠I)(nT:T≠I)(hl:ord.length=es.size):
  Walks prog w A I [I,a,T] [I] es.size (fun i v=>ord[i]?=some v) (fun i h=>i<=es.size/\SIt w h I a T es ep t ord i) where
 sub:=fun b hb=>by simp at hb;simp[hb]
 frame:=fun _ _ _ st k=>⟨st.1,st.2.keep fun b hb o q=>k b (by simpa using hb) o q⟩
 item:=fun i s Q E hi st hQ=>by
  refine x4f hh st.2 hf nI nT st.1 (fun v h' hv x sb=>hQ v h' s.toks hv ⟨hi,x⟩ fun b o hb q=>(sb.2 b fun z=>hb (by simp[z])).trans q) fun hn=>?_
  rw[w3h]at hn;omega
 done:=fun s Q E st hQ=>by
  refine x4f hh st.2 hf nI nT st.1 (fun v h' hv x sb=>?_) fun hn h' x=>hQ h' s.toks fun b o hb q=>x b o (fun z=>hb (by simp[z])) q
  have:=(w0b.mp hv).1;omega
 self:=fun i s Q E st hQ=>by
  have hT:=st.2.type;refine wpAny_pyIter_slot hT SI.iter (wpAny_call_entry SI.iter hT SI.iterE ?_ (SI.iterA _));show wpAny (model prog w) A.in1 (ret (.ref I)) _ _ s;exact wpAny_pure ⟨_,rfl, "set_iterator", _,hT,SI.next.lookup,hQ⟩
theorem y0q{o:Obj}{Q:Value->Shared->Prop}(ho:s.heap.get? a=some o)(hex:o.ExactSet)(hd:o.data=.set es ep t)(D:SetData prog w es t S)
  (hQ:∀h1 d I T ord,(∀b o,s.heap.get? b=some o->h1.get? b=some o)->s.heap.objs.size<=I->(T=a\/s.heap.objs.size<=T)->T≠I->(ord.map valI).Perm S->(∀v∈ord,∃n k,v=Value.int n k)->ord.length=es.size->SIt w h1 I a T es ep t ord 0->Q (.ref I) {s with heap:=h1,drawn:=d}):
  wpAny (model prog w) A (pyIter (.ref a)) Q E s:=by
 have hT:s.TypeIs (.ref a) "set":=⟨o,ho,hex.1⟩;have ha:a<s.heap.objs.size:=Heap.lt_size ho;have szl:es.size<=sizeLine:=fits_of_scanBound D.sz;refine wpAny_pyIter_slot hT PySem.F.slot_set_iter (wpAny_call_entry PySem.F.slot_set_iter hT SI.ofSet ?_ (PySem.F.args_set_iter_1 _));unfold Builtin.«frozenset.__iter__»;refine wpAny_bind (wpAny_of_eq (a:=a) rfl ?_);refine wpAny_bind (m:=Builtin.Frozenset.sizeOf a) ?_;unfold Builtin.Frozenset.sizeOf;refine wpAny_bind (wpAny_setEntries_of ho hd D.fit (wpAny_pure ?_));refine wpAny_bind (m:=setDrawn a) ?_;unfold setDrawn;refine wpAny_bind (wpAny_setState_of ho hd D.fit ?_);refine wpAny_bind (q98 (wpAny_pure ?_))
 have plain:∀(Q0:Value->Shared->Prop),Q0=Q->MdS w a es ep t (match w.params.followText "set-order" with|true=>(pickOrder (w.params.setOrder a ep) es).toList.map (·.2)|false=>es.toList.map (·.2)) 0 0 ->
   Q (.ref s.heap.objs.size) {s with heap:=s.heap.push {cls:=.type "set_iterator", data:=.fields #[rawInt 0,rawInt 0,.ref a,rawInt es.size,rawInt ep]}}:=fun _ _ md=>by
  have e0:({s with heap:=s.heap.push {cls:=.type "set_iterator", data:=.fields #[rawInt 0,rawInt 0,.ref a,rawInt es.size,rawInt ep]}}:Shared)={s with heap:=s.heap.push {cls:=.type "set_iterator", data:=.fields #[rawInt 0,rawInt 0,.ref a,rawInt es.size,rawInt ep]},drawn:=s.drawn}:=rfl;rw[e0];refine hQ _ s.drawn s.heap.objs.size a _ (fun b o q=>Heap.get?_push_of_some _ q) (w0e _) (.inl rfl) (w0j ha) ?_ (fun v hv=>?_) ?_ ⟨⟨o,Heap.get?_push_of_some _ ho,hd⟩,_,_,Heap.get?_push_size _ rfl,rfl,rfl,.inl ⟨0,rfl,md⟩⟩
  ·cases w.params.followText "set-order"
   ·rw[w0y];exact D.perm
   ·rw[w0y];exact((q7r _ es).map _).trans D.perm
  ·cases hq:w.params.followText "set-order"<;>rw[hq]at hv
   ·obtain⟨e,he,rfl⟩:=w0n.mp hv;exact D.whole e he
   ·obtain⟨e,he,rfl⟩:=w0n.mp hv;exact D.whole e ((q7r _ es).mem_iff.mp he)
  ·cases w.params.followText "set-order"
   ·simp
   ·simpa using (q7r (w.params.setOrder a ep) es).length_eq
 refine wpAny_ite_split (fun hdr=>?_) (fun hdr=>?_)
 ·-- the order is drawn
  have hdr:(!w.params.followText "set-order"&&(!t.plain&&decide (es.size>1)))=true:=hdr;refine wpAny_bind (m:=drawOrder es.size (List.range es.size)) (q9o _ _ _ _ (by simp) fun ps d hp=>?_)
  have lp:ps.length=es.size:=by simpa using hp.length_eq
  refine wpAny_bind (wpAny_newTuple ?_ (by simpa [lp]using szl));refine wpAny_bind (m:=setEpoch a) (wpAny_setEpoch_of (o:=o) (Heap.get?_push_of_some _ ho) hd D.fit ?_);refine wpAny_bind ?_;unfold newFields;refine wpAny_newObj_type (wpAny_pure ⟨_,rfl, "set_iterator", _,⟨_,Heap.get?_push_size _ rfl,rfl⟩,SI.next.lookup,?_⟩);have inb:∀j∈ps,j<es.size:=fun j hj=>by simpa using hp.mem_iff.mp hj
  refine hQ _ d _ s.heap.objs.size (ps.map fun j=>(es.getD j (0,.none)).2) (fun b o q=>Heap.get?_push_of_some _ (Heap.get?_push_of_some _ q)) (by rw[Heap.size_push];exact w3d _) (.inr (w0e _)) (by rw[Heap.size_push];exact w0j (w2k _)) ?_ (fun v hv=>?_) (by simpa using lp) ⟨⟨o,Heap.get?_push_of_some _ (Heap.get?_push_of_some _ ho),hd⟩,_,_,Heap.get?_push_size _ rfl,rfl,rfl,.inr ⟨ps,_,_,rfl,Heap.get?_push_of_some _ (Heap.get?_push_size _ rfl),rfl,lp,by simpa using lp,fun k j hk=>?_⟩⟩
  ·rw[w0y];refine((hp.map _).trans ?_).trans D.perm
   have e:(List.range es.size).map (valI ∘ fun j=>(es.getD j (0,.none)).2)=es.toList.map fun e=>valI e.2:=by
    apply List.ext_getElem
    ·simp
    ·intro i h1 h2;have hi:i<es.size:=by simpa using h1
     simp[Array.getD,hi]
   rw[e]
  ·obtain⟨j,hj,rfl⟩:=w0n.mp hv;have hi:=inb j hj;refine D.whole (es.getD j (0,.none)) ?_;simp[Array.getD,hi]
  ·have hj:=inb j (w0v hk);exact⟨es[j],w1h hj,by rw[w0r,hk];simp[Array.getD,hj]⟩
 ·have hdr:¬(!w.params.followText "set-order"&&(!t.plain&&decide (es.size>1)))=true:=hdr;refine wpAny_bind (wpAny_pure ?_);refine wpAny_bind (m:=setEpoch a) (wpAny_setEpoch_of ho hd D.fit ?_);refine wpAny_bind ?_;unfold newFields;refine wpAny_newObj_type (wpAny_pure ⟨_,rfl, "set_iterator", _,⟨_,Heap.get?_push_size _ rfl,rfl⟩,SI.next.lookup,?_⟩);refine plain Q rfl ?_;cases hq:w.params.followText "set-order"
  ·refine .inr ⟨hq,?_,by rw[D.led,hq];rfl,D.rise,rfl,rfl⟩;rw[hq]at hdr
   simpa using hdr
  ·exact .inl ⟨hq,rfl⟩
theorem y0r{Q:Bool->Shared->Prop}(hT:s.TypeIs (.ref a) "set")(h:Q false s):wpAny (model prog w) A (Builtin.List.listLengthHint (.ref a)) Q E s:=by
 unfold Builtin.List.listLengthHint;refine wpAny_bind (wpAny_specialOf hT PySem.F.slot_set_len.lookup ?_);generalize hid:("set.__len__":String)=id0
 wp_delta
 rw[show splitId id0=some ("set", "__len__")from by subst hid;decide +kernel];subst hid;refine wpAny_bind (wpAny_isInstance (T:="set") (b:=true) hT (by rw[isSubtype_type];kernel_rfl) ?_);refine wpAny_ite_split (fun z=>absurd z (by decide)) fun _=>?_
 refine wpAny_ite_split (fun _=>?_) fun z=>absurd (by decide +kernel) z
 exact wpAny_bind (wpAny_typeOf hT (wpAny_pure h))
theorem x5n{R:Result->Shared->Prop}{o:Obj}{L:Addr}{res:Value}{c0:Nat}(hh:A.handled=none)(ho:s.heap.get? a=some o)(hex:o.ExactSet)(hd:o.data=.set es ep t)(D:SetData prog w es t S)(hLa:L≠a)
  (hL:s.heap.get? L=some {cls:=.type "list", data:=.seq #[] c0})
  (hR:∀s' (acc:Array Value) c',s'.os=s.os->s'.gens=s.gens->(∀b o,b≠L->s.heap.get? b=some o->s'.heap.get? b=some o)->s'.heap.get? L=some {cls:=.type "list", dict:=none,data:=.seq acc c',slots:=#[]}->(acc.toList.map valI).Perm S->(∀v∈acc.toList,∃n k,v=Value.int n k)->R (.ok (.ret res)) s'):
  wpAny (model prog w) A.in1 (Builtin.List.listExtendWith (.ref L) (.ref a) res) (fun fin s'=>match fin with|.done f=>R (.ok f) s'|.again c'=>c'.quiet=true/\codeAny (model prog w) A c' R s') (fun e s'=>R (.error e) s') s:=by
 have hT:s.TypeIs (.ref a) "set":=⟨o,ho,hex.1⟩;have hLlt:L<s.heap.objs.size:=Heap.lt_size hL;have halt:a<s.heap.objs.size:=Heap.lt_size ho;unfold Builtin.List.listExtendWith;refine wpAny_bind (wpAny_typeOf (T:="set") hT ?_);have e1:Builtin.List.listSameRef (.ref L) (.ref a)=false:=by simp[Builtin.List.listSameRef,hLa]
 have e2:(Value.type "set"==Value.type "list")=false:=by decide
 have e3:(Value.type "set"==Value.type "tuple")=false:=by decide
 simp only[e1,e2,e3,Bool.or_false,w2a,if_false];refine wpAny_bind (y0q ho hex hd D fun h1 d I T ord k1 hI hTT nT hp hv hl x=>?_)
 have nLI:L≠I:=w0j (w0k hLlt hI);have naI:a≠I:=w0j (w0k halt hI)
 have nLT:L≠T:=by
  rcases hTT with z|z
  ·rw[z];exact hLa
  ·exact w0j (w0k hLlt z)
 have nf:L∉[I,a,T]:=by simp[nLI,hLa,nLT]
 have W:=x7x (prog:=prog) (w:=w) (A:=A.in1) (ep:=ep) (ord:=ord) hh D.fit naI nT hl
 have key:∀(h:Heap)(c1 tk:Nat),SIt w h I a T es ep t ord 0->(∀b o,b≠L->s.heap.get? b=some o->h.get? b=some o)->h.get? L=some {cls:=.type "list", data:=.seq #[] c1} ->
   codeAny (model prog w) A (.builtin "list.extend.loop" ⟨[.ref L,.ref I,res],[]⟩) R {s with heap:=h,toks:=tk,drawn:=d}:=fun h c1 tk hx hk hL1=>by
  refine codeAny_extend_loopS W.toS (fits_of_scanBound D.sz) L nf res es.size 0 {s with heap:=h,toks:=tk,drawn:=d} #[] c1 rfl (w1f _) ⟨w1f _,hx⟩ hL1 (ItemsOf.nil _) fun s' acc' c' mv hL' hacc=>?_
  have ea:acc'.toList=ord:=by
   apply w3i;intro i
   by_cases hi:i<es.size
   ·have hi':i<acc'.size:=by rw[hacc.1];exact hi
    have q:=hacc.2 i acc'[i] (w1h hi');rw[q,w1x,w1h hi']
   ·rw[w1o (by rw[w2m,hacc.1];omega),w1o (by omega)]
  refine hR s' acc' c' mv.os mv.gens (fun b o hb q=>mv.heap b o (fun z=>?_) (hk b o hb q)) hL' (by rw[ea];exact hp) (by rw[ea];exact hv)
  rcases w0p.mp z with z|z
  ·exact hb z
  ·exact absurd (Heap.lt_size q) (by rw[w0g.mp z];exact w2u.mpr hI)
 have hL1:=k1 _ _ hL;refine wpAny_bind (wpAny_holding (y0r (s:={s with heap:=h1,drawn:=d}) ⟨o,k1 _ _ ho,hex.1⟩ ?_));refine wpAny_ite_split (fun _=>?_) (fun _=>wpAny_pure ⟨plainId_quiet PySem.F.plain_extend_loop _,key h1 c0 s.toks x (fun b o _ q=>k1 b o q) hL1⟩)
 refine wpAny_bind (wpAny_rule (wpAny_bind ?_));show wpAny (model prog w) A.in1 (updateSeq L (·.push .none) >>= fun _=>updateSeq L (·.pop)) _ _ _
 refine wpAny_bind (wpAny_updateSeq hL1 rfl ?_);have hL2:=Heap.get?_update_self (Obj.mapSeq (·.push Value.none)) hL1 rfl;refine wpAny_updateSeq (hz:=by seq_fits) hL2 rfl ?_;have hL3:=Heap.get?_update_self (Obj.mapSeq (·.pop)) hL2 rfl;have oth:∀b,b≠L->((h1.update L (Obj.mapSeq (·.push Value.none))).update L (Obj.mapSeq (·.pop))).get? b=h1.get? b:=fun b hb=>(Heap.get?_update_other _ _ (Ne.symm hb)).trans (Heap.get?_update_other _ _ (Ne.symm hb))
 refine wpAny_pure ⟨plainId_quiet PySem.F.plain_extend_loop _,key _ _ s.toks (x.keep fun b hb o q=>?_) (fun b o hb q=>(oth b hb).trans (k1 b o q)) hL3⟩
 refine(oth b ?_).trans q;rcases hb with z|z|z
 ·rw[z];exact nLI.symm
 ·rw[z];exact hLa.symm
 ·rw[z];exact nLT.symm
theorem x3m{Q:List Value->Shared->Prop}(hh:A.handled=none)(hS:SetR prog w s.heap a S)
  (h:∀s' (vs:List Value),s'.os=s.os->s'.gens=s.gens->(∀b o,s.heap.get? b=some o->s'.heap.get? b=some o)->(vs.map valI).Perm S->(∀v∈vs,∃n k,v=Value.int n k)->s.heap.objs.size<=s'.heap.objs.size->Q vs s'):wpAny (model prog w) A (collect (.ref a)) Q E s:=by
 obtain⟨o,es,ep,t,ho,hex,hd,D⟩:=hS;unfold collect;refine wpAny_bind (wpAny_runValue (codeAny_builtin PyProof.Rows.entry_proto_collect' ?_));rw[Around.under_plainId PySem.F.plain_proto_collect _];show wpAny (model prog w) A.in1 (newList [] >>= fun l=>again (.builtin "list.__iadd__" ⟨[l,.ref a],[]⟩)) _ _ s
 refine wpAny_bind (wpAny_newObj_type ?_);refine wpAny_pure ⟨plainId_quiet PySem.F.plain_list_iadd _,codeAny_builtin PyProof.Rows.entry_list_iadd' ?_⟩;rw[Around.under_plainId PySem.F.plain_list_iadd _];have hL:(s.heap.push accO).get? s.heap.objs.size=some {cls:=.type "list", data:=.seq #[]}:=Heap.get?_push_size _ rfl;show wpAny (model prog w) A.in1 (Builtin.List.listExtendWith (.ref s.heap.objs.size) (.ref a) (.ref s.heap.objs.size)) _ _ {s with heap:=s.heap.push accO}
 have key:=x5n (A:=A) (s:={s with heap:=s.heap.push accO}) (res:=.ref s.heap.objs.size) (R:=fun q s'=>∃(acc:Array Value)(c':Nat),q=.ok (.ret (.ref s.heap.objs.size))/\s'.os=s.os/\s'.gens=s.gens/\(∀b o,s.heap.get? b=some o->s'.heap.get? b=some o)/\s'.heap.get? s.heap.objs.size=some {cls:=.type "list", dict:=none,data:=.seq acc c',slots:=#[]}/\(acc.toList.map valI).Perm S/\∀v∈acc.toList,∃n k,v=Value.int n k)
  hh (Heap.get?_push_of_some _ ho) hex hd D (w4k (Heap.lt_size ho)) hL fun s' acc c' q1 q2 q3 q4 q5 q6=>⟨acc,c',rfl,q1,q2,fun b o e=>q3 b o (w0j (Heap.lt_size e)) (Heap.get?_push_of_some _ e),q4,q5,q6⟩
 refine wpAny_mono key (fun fin s' x=>?_) fun e s' x=>?_
 ·cases fin with
  |done f=>
   obtain⟨acc,c',e,q1,q2,q3,q4,q5,q6⟩:=x;cases e;show wpAny (model prog w) A (load s.heap.objs.size >>= _) _ _ _;exact wpAny_bind (wpAny_load q4 (wpAny_pure (h s' _ q1 q2 q3 q5 q6 (w2v (Heap.lt_size q4)))))
  |again c1=>
   refine⟨x.1,codeAny_mono x.2 fun q s2 y=>?_⟩
   obtain⟨acc,c',rfl,q1,q2,q3,q4,q5,q6⟩:=y;show wpAny (model prog w) A (load s.heap.objs.size >>= _) _ _ _;exact wpAny_bind (wpAny_load q4 (wpAny_pure (h s2 _ q1 q2 q3 q5 q6 (w2v (Heap.lt_size q4)))))
 ·obtain⟨_,_,e',_⟩:=x;cases e'
theorem q7s:∀(vs:List Value),(∀v∈vs,∃n k,v=Value.int n k)->PyProof.Rows.IntsAre vs (vs.map valI)
 |[],_=>.nil
 |v::vs,h=>by
  obtain⟨n,k,rfl⟩:=h v (by simp);exact .cons n k (q7s vs fun u hu=>h u (by simp[hu]))
theorem x5o{Q:Value->Shared->Prop}(hh:A.handled=none)(hS:SetR prog w s.heap a S)(h64:S.length<64)
  (h:∀s' L (out:Array Value) c' (ns:List Int),s'.os=s.os->s'.gens=s.gens->(∀b o,s.heap.get? b=some o->s'.heap.get? b=some o)->s.heap.objs.size<=L->s'.heap.get? L=some (PyProof.Rows.seqObj "list" out c')->PyProof.Rows.IntsAre out.toList ns->ns.Perm S->ns.Pairwise (·<=·)->Q (.ref L) s'):
  wpAny (model prog w) A (call (.builtin "sorted") [.ref a]) Q E s:=by
 refine PySem.Calls.call_function_entry PyProof.Rows.kind_sorted PyProof.Rows.plain_sorted PyProof.Rows.entry_sorted (PyProof.Rows.args_sorted1 _) ?_
 unfold Builtin.«sorted»;refine wpAny_bind (m:=checkCount "sorted" 1 1 _) (wpAny_pure ?_);refine wpAny_bind (x3m (A:=A.in1) hh hS fun s1 vs q1 q2 q3 q5 q6 hsz=>?_)
 have hl:vs.length=S.length:=by simpa using q5.length_eq
 refine wpAny_bind (wpAny_newList ?_ (by rw[hl,sizeLine_eq];omega));have hoL:(s1.heap.push (PyProof.Rows.seqObj "list" vs.toArray 0)).get? s1.heap.objs.size=some (PyProof.Rows.seqObj "list" vs.toArray 0):=Heap.get?_push_size _ rfl;refine wpAny_bind (wpAny_holding (wpAny_call_entry PyProof.Rows.slot_list_sort ⟨_,hoL,rfl⟩ PyProof.Rows.entry_list_sort (PyProof.Rows.list_sort_tree hoL (q7s vs q6) (by omega) fun out ns b1 b2 b3=>⟨_,rfl,?_⟩) (PyProof.Rows.args_list_sort _)))
 obtain⟨c',he⟩:=PyProof.Rows.sortedHeap_at (out:=out) hoL;refine wpAny_pure ⟨_,rfl,h _ _ out c' ns q1 q2 (fun b o q=>?_) hsz he b1 (b2.trans q5) b3⟩
 have q':=q3 b o q;have hlt:=Heap.lt_size q';show(PyProof.Rows.sortedHeap _ _ _ _).get? b=some o;rw[PyProof.Rows.sortedHeap_old (w0j hlt) (by rw[Heap.size_push];exact w1u hlt)];exact Heap.get?_push_of_some _ q'
end
end L2
namespace D
open PySem L2
variable{X:Cx}{dA:Den (List W)}{a e:Expr}{p p2 pos pos2:Pos}{EE:St->XK}{Z:Zt}
def tSS(K:PySem.W.Frag)(ta:TA):TE:=fun σ H Q=>ta σ H fun xs H1=>∃p ns,xs=[.ref p]/\SqL K H1 p (ns.map V.int)/\ns.length<4000/\(dedup ns).length<64/\∀b,H1 b=none->Q (.ref b) (upd H1 b (.lst ((sortI (dedup ns)).map V.int)))
theorem x5p{ta:TA}{p1 pos1:Pos}(hc:X.calm=true)(hm1:X.mg "sorted"=none)(hm2:X.mg "set"=none)(ha:PA X [e] ta)(hg1:Gl X "sorted":=by rfl)(hg2:Gl X "set":=by rfl)
  (hs1:starEach [.Call (.Name "set" p2) [e] [] pos2] X.env=(false,eval (.Call (.Name "set" p2) [e] [] pos2) X.env)::starEach [] X.env:=by rfl)(hs2:starEach [e] X.env=(false,eval e X.env)::starEach [] X.env:=by rfl)(hpl:(backTo pos2 (starEach [] X.env)).any (·.1)=false:=by rfl):
  PE X (.Call (.Name "sorted" p1) [.Call (.Name "set" p2) [e] [] pos2] [] pos1) (tSS X.K ta):=by
 intro pins s σ H Q I h;refine wpAny_Call_Name_kw (q4p I hg1 hm1 PyProof.Rows.Boot.«sorted» ?_ (by decide));refine PyProof.Rows.callWith_builtin1 ?_ hs1 rfl;rw[hs1];show wpAny _ _ (spliced ((false,eval (.Call (.Name "set" p2) [e] [] pos2) X.env)::backTo pos1 (starEach [] X.env))) _ _ s;refine PySem.Calls.spliced_cons ?_;refine wpAny_Call_Name_kw (q4p I hg2 hm2 PyProof.Rows.Boot.«set» ?_ (by decide));refine PyProof.Rows.callWith_type1 (thn (ha pos2 pins s σ H _ I h) fun us s1 ⟨vs,H1,I1,r1,p,ns,e1,hq,hn,h64,q⟩=>?_) hs2 hpl
 subst e1;obtain⟨u,rfl,ru⟩:=vals1 r1;cases ru;obtain⟨its,rv,pl,hz⟩:=I1.list hq;have hlen:=rv.length;rw[w0a]at hlen;have hh:X.A.handled=none:=I1.ok.hd hc;refine x7w (items:=its.toArray) (ns:=ns) hh pl.isList (by simpa using x2m rv) (by show its.length+1<4096;omega) fun h1 tk hS k1=>?_
 refine PySem.Calls.spliced_nil ?_;refine x5o (s:={s1 with heap:=h1,toks:=tk}) (S:=dedup ns) hh hS h64 fun s2 L out c' ns' g1 g2 g3 g4 g5 g6 g7 g8=>?_
 have e2:ns'=sortI (dedup ns):=x1n (g7.trans (q26 _).symm) g8 (q58 _);subst e2;have up:∀b o,s1.heap.get? b=some o->s2.heap.get? b=some o:=fun b o z=>g3 b o (k1 b o (Heap.lt_size z) z)
 have hL:s1.heap.objs.size<=L:=by
  obtain⟨o,_,_,_,z,_⟩:=hS;exact w0w (w2v (Heap.lt_size z)) g4
 have fr:H1 L=none:=I1.hok.fresh hL;refine⟨.ref L,upd H1 L (.lst ((sortI (dedup ns)).map V.int)),I1.call' (s':=s2) (ch:=[]) g1 (Un.laid up hL fr) (I1.hok.laid up hL ?_) (by rw[show s2.gens=s1.gens from g2];exact I1.bare) (fun b hb=>nomatch hb),rfl,q L fr⟩
 refine⟨?_,out.toList,c',x2n g6,?_⟩
 ·rw[w0a,(q26 _).length_eq,sizeLine_eq];omega
 ·rw[g5]
noncomputable def sortset1:List W->Option (List W)
 |[.lst ws]=>match intsW ws with
  |some ns=>if ns.length<4000/\(dedup ns).length<64 then some ((sortI (dedup ns)).map .int)else none
  |none=>none
 |_=>none
noncomputable def dSS(dA:Den (List W)):Den (List W):=fun e=>(dA e).bind fun ws e1=>ofOpt (sortset1 ws) e1
theorem y93{e:List S}:dSS dA e=(dA e).bind fun ws e1=>ofOpt (sortset1 ws) e1:=rfl
section
variable{p1 pos1:Pos}
theorem x5q(hc:X.calm=true)(hm1:X.mg "sorted"=none)(hm2:X.mg "set"=none)(ha:DA Z X EE [e] dA)(hg1:Gl X "sorted":=by rfl)(hg2:Gl X "set":=by rfl)
  (hs1:starEach [.Call (.Name "set" p2) [e] [] pos2] X.env=(false,eval (.Call (.Name "set" p2) [e] [] pos2) X.env)::starEach [] X.env:=by rfl)(hs2:starEach [e] X.env=(false,eval e X.env)::starEach [] X.env:=by rfl)(hpl:(backTo pos2 (starEach [] X.env)).any (·.1)=false:=by rfl):
  DF Z X EE (.Call (.Name "sorted" p1) [.Call (.Name "set" p2) [e] [] pos2] [] pos1) (dSS dA):=by
 refine PE.mono (x5p hc hm1 hm2 ha hg1 hg2 hs1 hs2 hpl) ?_;rintro σ H Q ⟨G,e,rel,h⟩;simp only[dSS,R.holds_bind,ofOpt_holds]at h;refine⟨G,e,rel,h.imp (fun ws e1 h G1 vs H1 r1 s1 p1=>?_) fun _ _ h=>h⟩
 obtain⟨out,hf,h⟩:=h;unfold sortset1 at hf;split at hf
 ·rename_i us;obtain⟨y,r,rfl,py,pr⟩:=p1;cases(show r=[]from pr);split at hf
  ·rename_i ns hns;split at hf
   ·rename_i hl;cases hf;obtain⟨a,cs,rfl,hq,rp⟩:=py;have:=x2l hns rp;subst this;exact⟨a,ns,rfl,r1.sub.seq hq,hl.1,hl.2,q6w r1 s1 (q7o _) h⟩
   ·cases hf
  ·cases hf
 ·cases hf
end
theorem x06{ns:List Int}(h:ns.length<4000)(h2:(dedup ns).length<64):sortset1 [.lst (ns.map .int)]=some ((sortI (dedup ns)).map .int):=by
 show(match intsW (ns.map .int)with|some ns=>if ns.length<4000/\(dedup ns).length<64 then some ((sortI (dedup ns)).map W.int)else none|none=>none)=_;rw[x4d];exact if_pos ⟨h,h2⟩
theorem q69:∀{l l':List Int},l.Pairwise (·<·)->l'.Pairwise (·<·)->(∀x,x∈l↔x∈l')->l=l'
 |[],[],_,_,_=>rfl
 |[],y::_,_,_,h=>absurd ((h y).mpr (by simp)) (by simp)
 |x::_,[],_,_,h=>absurd ((h x).mp (by simp)) (by simp)
 |x::l,y::l',h1,h2,h=>by
  rw[w2b]at h1 h2
  have e:x=y:=by
   rcases w0p.mp ((h x).mp (by simp))with z|z
   ·exact z
   ·rcases w0p.mp ((h y).mpr (by simp))with z'|z'
    ·exact z'.symm
    ·have:=h2.1 x z;have:=h1.1 y z';omega
  subst e;congr 1;refine q69 h1.2 h2.2 fun z=>⟨fun hz=>?_,fun hz=>?_⟩
  ·rcases w0p.mp ((h z).mp (by simp[hz]))with q|q
   ·have:=h1.1 z hz;omega
   ·exact q
  ·rcases w0p.mp ((h z).mpr (by simp[hz]))with q|q
   ·have:=h2.1 z hz;omega
   ·exact q
theorem q9q{ns l:List Int}(hl:l.Pairwise (·<·))(h:∀x,x∈l↔x∈ns):sortI (dedup ns)=l:=by
 have nd:(dedup ns).Nodup:=q9n ns [] .nil;refine q69 ?_ hl fun x=>?_
 ·have s1:=q58 (dedup ns);have s2:(sortI (dedup ns)).Nodup:=(q26 _).nodup_iff.mpr nd;have s3:=s1.and s2;exact s3.imp fun {a b} ⟨h1,h2⟩=>by omega
 ·rw[(q26 _).mem_iff,h];unfold dedup;rw[x2v];simp
theorem y0s(hc:X.calm=true):CallR X (.builtin "any") (fun xs H Q=>∃p ys,xs=[.ref p]/\SqL X.K H p ys/\(∀y∈ys,∃b,y=.bl b)/\Q (.bl (ys.any fun y=>decide (y=.bl true))) H):=by
 intro pins s σ H xs us Q I r h;obtain⟨p,ys,rfl,hq,hb,q⟩:=h;obtain⟨u,rfl,rx⟩:=vals1 r;cases rx;obtain⟨its,r',pl,hz⟩:=I.list hq;have hl:=pl.isList;have hlt:p<s.heap.objs.size:=by obtain⟨_,e,_⟩:=hl;exact Heap.lt_size e
 have hh:X.A.in1.handled=none:=I.ok.hd hc;refine call_any_walk (wpAny_pyIter_list hl ⟨s.heap.objs.size,[s.heap.objs.size,p],[s.heap.objs.size],_,_,_,fun i=>decide (ys[i]?=some (.bl true)),rfl,Walks.list hh s.heap.objs.size p (w0j hlt) its.toArray,⟨⟨_,Heap.get?_push_size _ rfl,rfl,rfl⟩,hl.push _⟩,?_,fun h' tk kp=>?_⟩)
 ·intro i v s1 Q1 E1 hv hQ;have hv':its[i]?=some v:=by simpa using hv
  have hi:i<ys.length:=by rw[r'.length];exact(w0b.mp hv').1
  obtain⟨u,hu,ru⟩:=r'.get (w0d hi);rw[hv']at hu;cases hu;obtain⟨b,eb⟩:=hb ys[i] (w2y hi);rw[eb]at ru;cases ru;refine wpAny_truthy_bool ?_
  have e:decide (ys[i]?=some (V.bl true))=b:=by
   rw[w0d hi,eb];cases b<;>simp
  rw[<- e];exact hQ
 ·have e:(List.range its.toArray.size).any (fun i=>decide (ys[i]?=some (V.bl true)))=ys.any fun y=>decide (y=.bl true):=by
   rw[Bool.eq_iff_iff,w2x,w2x];constructor
   ·rintro⟨i,hi,z⟩;rw[w1m,w0c,<- r'.length]at hi;rw[w0d hi]at z;exact⟨ys[i],w2y hi,by simpa using z⟩
   ·rintro⟨y,hy,z⟩;obtain⟨i,hi,rfl⟩:=List.getElem_of_mem hy;exact⟨i,by rw[w1m,w0c,<- r'.length];exact hi,by rw[w0d hi];simpa using z⟩
  refine⟨.bl _,H,I.kept (t':=tk) fun b o hbo=>kp b o (fun z=>?_) (Heap.get?_push_of_some _ hbo),rfl,e ▸ q⟩
  rw[w0g]at z;exact absurd (Heap.lt_size hbo) (by rw[z];exact w1v _)
noncomputable def any1:List W->Option W
 |[.lst ws]=>(boolsW ws).map fun bs=>.bl (bs.any id)
 |_=>none
theorem y73{K:PySem.W.Frag}:OpN K (fun xs H Q=>∃p ys,xs=[.ref p]/\SqL K H p ys/\(∀y∈ys,∃b,y=.bl b)/\Q (.bl (ys.any fun y=>decide (y=.bl true))) H) any1:=by
 intro G H xs ws w Q s pr hf h;unfold any1 at hf;split at hf
 ·obtain⟨bs,hb,rfl⟩:=w0f.mp hf;have:=q9j hb;subst this;obtain⟨x,r,rfl,px,pr⟩:=pr;cases(show r=[]from pr);obtain⟨a,ys,rfl,ha,ra⟩:=px;have:=q9k ra;subst this;refine⟨a,_,rfl,s.seq ha,fun y hy=>?_,h G _ H (.refl s) ?_⟩
  ·obtain⟨b,_,rfl⟩:=w0n.mp hy;exact⟨b,rfl⟩
  ·show V.bl _=V.bl _;congr 1;rw[List.any_map];congr 1;funext b
   cases b<;>rfl
 ·cases hf
theorem y74(hc:X.calm=true)(hm:X.mg "any"=none)(ha:DA Z X EE [e] dA)(hg:Gl X "any":=by rfl)(he:starEach [e] X.env=(false,eval e X.env)::starEach [] X.env:=by rfl)(hpl:(backTo pos (starEach [] X.env)).any (·.1)=false:=by rfl):DE Z X EE (.Call (.Name "any" p) [e] [] pos) (dFn any1 dA):=
 x6r (y0s hc) y73 PyProof.Rows.Boot.«any» hm ha hg (by decide) (by decide) he hpl
theorem y13{bs:List Bool}:any1 [.lst (bs.map .bl)]=some (.bl (bs.any id)):=by
 show(boolsW (bs.map .bl)).map _=_;rw[x0x];rfl
def rCat0(K:PySem.W.Frag):R2:=fun x y H Q=>∃a b ys,x=.ref a/\y=.ref b/\SqT K H a []/\SqT K H b ys/\Q (.ref b) H
open PyProof.Rows in
theorem op_cat0:OpR X (binaryOp .Add) (rCat0 X.K):=by
 intro pins s σ H x y v u Q I rx ry h;obtain⟨a,b,ys,rfl,rfl,ha,hb,q⟩:=h;cases rx;cases ry;obtain⟨its,r1,p1,_⟩:=I.tuple ha;obtain⟨its2,r2,p2,_⟩:=I.tuple hb;cases r1;obtain⟨⟨cls,dd,data,sl⟩,ho,hc,n,hd⟩:=id p1;obtain⟨⟨cls2,dd2,data2,sl2⟩,ho2,hc2,n2,hd2⟩:=id p2;simp only at hc hd hc2 hd2;subst hc hd hc2 hd2;exact concat_meets ⟨_,ho,rfl⟩ ⟨_,ho2,rfl⟩ noFill_tuple_add seq_tuple_add PySem.F.slot_tuple_add PySem.F.entry_tuple_add (PySem.F.args_tuple_add_2 _ _) (tuple_addW0 a b _ _ n n2 dd dd2 sl sl2 rfl) ⟨ho,ho2,.ref b,H,I,rfl,q⟩
noncomputable def addX:W->W->Option W
 |.tup xs,.tup ys=>if xs.length+ys.length<=16777216 then some (.tup (xs++ys))else none
 |x,y=>addW x y
theorem y4h{xs ys:List W}:addX (.tup xs) (.tup ys)=if xs.length+ys.length<=16777216 then some (.tup (xs++ys))else none:=rfl
theorem y4i{i j:Int}:addX (.int i) (.int j)=some (.int (i+j)):=rfl
theorem y4j{xs ys:List W}:addX (.lst xs) (.lst ys)=if xs.length+ys.length<=16777216 then some (.lst (xs++ys))else none:=rfl
theorem y4k{x y:Str}:addX (.str x) (.str y)=if x.length+y.length<=16777216 then some (.str (x++y))else none:=rfl
theorem y4l{K:PySem.W.Frag}:Op2 K (fun x y H Q=>rCat0 K x y H Q\/(rI0 (fun i j=>.int (i+j)) x y H Q\/((∃i j,x=.str i/\y=.str j/\i.length+j.length<=sizeLine/\Q (.str (i++j)) H)\/(rCatT K x y H Q\/rCatS K x y H Q)))) addX:=by
 intro G H x y wx wy w Q s px py hf h;unfold addX at hf;split at hf
 ·rename_i xs ys;split at hf
  ·rename_i hl
   by_cases h0:xs=[]
   ·subst h0;cases hf;obtain⟨a,vs,rfl,hq,rp⟩:=px;obtain⟨b,us,rfl,hq2,rp2⟩:=py;cases(show vs=[]from rp);exact .inl ⟨a,b,us,rfl,rfl,s.tup hq,s.tup hq2,h G _ H (.refl s) ⟨b,us,rfl,hq2,rp2⟩⟩
   ·exact .inr (x6w G H x y (.tup xs) (.tup ys) w Q s px py (by show(if xs≠[]/\xs.length+ys.length<=16777216 then some (W.tup (xs++ys))else none)=some w;rw[if_pos ⟨h0,hl⟩];exact hf) h)
  ·cases hf
 ·exact .inr (x6w G H x y _ _ w Q s px py hf h)
section
variable{b:Expr}{da db:Den W}
theorem q00(ha:DE Z X EE a da)(hb:DE Z X EE b db):DE Z X EE (.BinOp a .Add b pos) (dOp addX da db):=q72 (op_cat0.or (op_add.or (op_add_str.or (op_catT.or y20)))) y4l ha hb
end
open PySem L2 PySem.Spec PyProof.Rows
end D
namespace L2
open PySem PySem.Spec PyProof.Rows
section
variable{κ:Type} [DecidableEq κ]
noncomputable def valV(kvs:List (κ×V))(k:κ):Option V:=(kvs.find? fun kv=>decide (kv.1=k)).map (·.2)
noncomputable def putK(kvs:List (κ×V))(k:κ)(v:V):List (κ×V):=
 if(kvs.any fun kv=>decide (kv.1=k))=true then kvs.map (fun kv=>if kv.1=k then(kv.1,v)else kv)else kvs++[(k,v)]
theorem q62{p:κ×V}{r:List (κ×V)}{k:κ}(e:p.1=k):valV (p::r) k=some p.2:=by simp[valV,w2g,e]
theorem q59{p:κ×V}{r:List (κ×V)}{k:κ}(e:¬p.1=k):valV (p::r) k=valV r k:=by simp[valV,w2g,e]
theorem q8u(k:κ):∀kvs:List (κ×V),(kvs.any fun kv=>decide (kv.1=k))=(valV kvs k).isSome
 |[]=>rfl
 |p::r=>by
  rw[w4i]
  by_cases e:p.1=k
  ·simp only[q62 e,decide_eq_true e,Bool.true_or,Option.isSome_some]
  ·rw[q59 e,decide_eq_false e,Bool.false_or];exact q8u k r
theorem q8f(kvs:List (κ×V))(k:κ)(v:V):(putK kvs k v).length<=kvs.length+1:=by
 unfold putK;split
 ·rw[w0a];omega
 ·rw[w0q,w1l,List.length_nil];omega
theorem y0t{kvs:List (κ×V)}{k:κ}(v:V)(h:valV kvs k=none):putK kvs k v=kvs++[(k,v)]:=by
 unfold putK;rw[q8u,h];exact if_neg (by decide)
theorem RelO.isSome_eq{o:Option V}{u:Option Value}(r:RelO o u):o.isSome=u.isSome:=by
 cases o with
 |none=>cases u with
  |none=>rfl
  |some _=>exact(show False from r).elim
 |some _=>cases u with
  |none=>exact(show False from r).elim
  |some _=>rfl
theorem KV.val{kvs:List (κ×V)}{vs:List (κ×Value)}(r:KV kvs vs)(k:κ):RelO (valV kvs k) (valueAt vs k):=by
 unfold KV at r
 induction r with
 |nil=>exact True.intro
 | @cons p q ps qs h t ih=>
  obtain⟨h1,h2⟩:=h
  by_cases e:p.1=k
  ·have e':q.1=k:=h1.symm.trans e;have b:valueAt (q::qs) k=some q.2:=by simp[valueAt,w2g,e']
   rw[q62 e,b];exact h2
  ·have e':¬q.1=k:=fun z=>e (h1.trans z)
   have b:valueAt (q::qs) k=valueAt qs k:=by simp[valueAt,w2g,e']
   rw[q59 e,b];exact ih
theorem KV.any{kvs:List (κ×V)}{vs:List (κ×Value)}(r:KV kvs vs)(k:κ):(kvs.any fun kv=>decide (kv.1=k))=vs.any fun kv=>decide (kv.1=k):=by
 unfold KV at r
 induction r with
 |nil=>rfl
 |cons h t ih=>rw[w4i,w4i,ih,h.1]
theorem KV.repl{kvs:List (κ×V)}{vs:List (κ×Value)}(r:KV kvs vs)(k:κ){y:V}{u:Value}(ry:RelV y u):
  KV (kvs.map fun kv=>if kv.1=k then(kv.1,y)else kv) (vs.map fun kv=>if kv.1=k then(kv.1,u)else kv):=by
 unfold KV at r |-
 induction r with
 |nil=>exact .nil
 | @cons p q ps qs h t ih=>
  rw[w0u,w0u];refine .cons ?_ ih;obtain⟨h1,h2⟩:=h
  by_cases e:p.1=k
  ·rw[if_pos e,if_pos (h1.symm.trans e)];exact⟨h1,ry⟩
  ·rw[if_neg e,if_neg (fun z=>e (h1.trans z))];exact⟨h1,h2⟩
theorem KV.put{kvs:List (κ×V)}{vs:List (κ×Value)}(r:KV kvs vs)(k:κ){y:V}{u:Value}(ry:RelV y u):KV (putK kvs k y) (stored vs k u):=by
 unfold putK stored;rw[r.any k]
 by_cases e:(vs.any fun kv=>decide (kv.1=k))=true
 ·rw[if_pos e,if_pos e];exact r.repl k ry
 ·rw[if_neg e,if_neg e];exact Paired.snoc r ⟨rfl,ry⟩
theorem KV.length{kvs:List (κ×V)}{vs:List (κ×Value)}(r:KV kvs vs):kvs.length=vs.length:=Paired.length r
end
variable{a b:Addr}{A:Around}{X:Cx}{H H':Hp}{k:Kx}{pins:List (Addr×Obj)}{xs:List (Kx×Addr×Value)}{kvs:List (Kx×V)}{kas:List Addr}{pos:Pos}{P:Program}{sh:Sh}{s:Shared}{σ:St}{y:V}{u:Value}{E:Value->Shared->Prop}{w:World}
theorem x5r{k:Key}(r:RelV (kV k) u):(mixKind P w).is k u=true:=by
 cases k with
 |inl i=>obtain⟨t,e⟩:=(show ∃t,u=Value.int i t from r);subst e;exact x3g P w i t
 |inr x=>obtain⟨t,e⟩:=(show ∃t,u=Value.str x t from r);subst e;exact x3h P w x t
abbrev KT(sh:Sh)(H:Hp):List (Kx×V)->List (Kx×Addr×Value)->Prop:=Paired fun p q=>p.1=q.1/\(KRep H p.1 (.ref q.2.1)/\Conf p.1 sh/\p.1.depth<=7)/\RelV p.2 q.2.2
theorem KT.val(r:KT sh H kvs xs)(k:Kx):RelO (valV kvs k) ((atKey xs k).map (·.2)):=by
 induction r with
 |nil=>exact True.intro
 | @cons p q ps qs h t ih=>
  obtain⟨h1,_,h2⟩:=h
  by_cases e:p.1=k
  ·have e':q.1=k:=h1.symm.trans e;have b:atKey (q::qs) k=some q.2:=by simp[atKey,w2g,e']
   rw[q62 e,b];exact h2
  ·have e':¬q.1=k:=fun z=>e (h1.trans z)
   have b:atKey (q::qs) k=atKey qs k:=by simp[atKey,w2g,e']
   rw[q59 e,b];exact ih
theorem KT.repl(r:KT sh H kvs xs)(k:Kx)(ry:RelV y u):
  KT sh H (kvs.map fun kv=>if kv.1=k then(kv.1,y)else kv) (xs.map (putAt k u)):=by
 induction r with
 |nil=>exact .nil
 | @cons p q ps qs h t ih=>
  rw[w0u,w0u];refine .cons ?_ ih;obtain⟨h1,h2,h3⟩:=h;unfold putAt
  by_cases e:p.1=k
  ·rw[if_pos e,if_pos (h1.symm.trans e)];exact⟨h1,h2,ry⟩
  ·rw[if_neg e,if_neg (fun z=>e (h1.trans z))];exact⟨h1,h2,h3⟩
theorem KT.put(r:KT sh H kvs xs)(k:Kx)(hb:KRep H k (.ref b)/\Conf k sh/\k.depth<=7)(ry:RelV y u):
  KT sh H (putK kvs k y) (storedH xs k b u):=by
 have e:(kvs.any fun kv=>decide (kv.1=k))=(atKey xs k).isSome:=by
  rw[q8u,(r.val k).isSome_eq,w3k]
 unfold putK storedH;rw[e]
 by_cases q:(atKey xs k).isSome=true
 ·rw[if_pos q,if_pos q];exact r.repl k ry
 ·rw[if_neg q,if_neg q];exact Paired.snoc r ⟨rfl,hb,ry⟩
noncomputable def putAd(kvs:List (Kx×V))(kas:List Addr)(k:Kx)(b:Addr):List Addr:=if(valV kvs k).isSome=true then kas else kas++[b]
theorem KT.putAd(r:KT sh H kvs xs)(ka:xs.map (·.2.1)=kas)(k:Kx):(storedH xs k b u).map (·.2.1)=L2.putAd kvs kas k b:=by
 unfold storedH L2.putAd;rw[(r.val k).isSome_eq,w3k]
 by_cases q:(atKey xs k).isSome=true
 ·rw[if_pos q,if_pos q,w0y,<- ka];refine w3e fun x _=>?_
  show(putAt k u x).2.1=x.2.1;unfold putAt;split<;>rfl
 ·rw[if_neg q,if_neg q,w0i,ka];rfl
theorem KT.keeps(r:KT sh H kvs xs)(ht:∀b u,TupLike u->H b=some u->H' b=some u):KT sh H' kvs xs:=
 Paired.mapP r fun _ _ z=>⟨z.1,⟨KRep.keeps ht _ z.2.1.1,z.2.1.2⟩,z.2.2⟩
section
variable{h:Heap}
theorem y14{u:HO}(ok:HOk P w H h)(e:Rd H a u):ObjOk P w H h a u:=e.ok ok
theorem x1x{kvs:List (Key×V)}(ok:HOk P w H h)(e:Rd H a (.dK kvs)):kvs.length<=sizeLine/\(a==sysModules)=false/\∃vs,KV kvs vs/\h.DictOf (mixKind P w) a vs:=
 show ObjOk P w H h a (.dK kvs)from y14 ok e
theorem y94{kvs:List (Key×V)}(ok:HOk P w H h)(e:H a=some (.dK kvs)):kvs.length<=sizeLine/\(a==sysModules)=false/\∃vs,KV kvs vs/\h.DictOf (mixKind P w) a vs:=x1x ok (.inl e)
theorem IsTup.seq{h:Heap}{its:List Value}(p:IsTup h a its.toArray):∃o n,h.get? a=some o/\o.cls=.type "tuple" /\ o.data=.seq its.toArray n:=by
 obtain⟨o,h1,h2,n,h3⟩:=p;exact⟨o,n,h1,h2,h3⟩
mutual
theorem KRep.is(ok:HOk P w H h):∀(k:Kx){x:V}{v:Value},KRep H k x->RelV x v->KIs h k v
 |.bl b,x,v,e,r=>by cases(show x=.bl b from e);exact r
 |.int b,x,v,e,r=>by cases(show x=.int b from e);exact r
 |.str b,x,v,e,r=>by cases(show x=.str b from e);exact r
 |.tup ks,x,v,e,r=>by
  obtain⟨a,xs,rfl,q,rs⟩:=e;cases(show v=Value.ref a from r);obtain⟨_,its,rv,p,_⟩:=(show ObjOk P w H h a (.tup xs)from Rd.ok q ok);obtain⟨o,n,h1,h2,h3⟩:=IsTup.seq p;exact⟨a,o,its.toArray,n,rfl,h1,h2,h3,by simpa using KReps.are ok ks rs rv⟩
theorem KReps.are(ok:HOk P w H h):∀(ks:List Kx){xs:List V}{vs:List Value},KReps H ks xs->Vals xs vs->KAre h ks vs
 |[],xs,vs,e,r=>by
  cases(show xs=[]from e);cases r;rfl
 |k::ks,xs,vs,e,r=>by
  obtain⟨x,r0,rfl,h1,h2⟩:=e;cases r with
  |cons q t=>exact⟨_,_,rfl,KRep.is ok k h1 q,KReps.are ok ks h2 t⟩
end
theorem q7t(ok:HOk P w H h)(e:KRep H k (.ref a)/\Conf k sh/\k.depth<=7):(treeKind P w sh).is h k a:=⟨KRep.is ok k e.1 rfl,e.2⟩
theorem x1y(ok:HOk P w H h)(e:Rd H a (.dT sh kvs kas)):kvs.length<=sizeLine/\(a==sysModules)=false /\
  ∃xs,KT sh H kvs xs/\xs.map (·.2.1)=kas/\h.DictOfH (treeKind P w sh) a xs:=by
 obtain⟨z,y,xs,r,ka,o,es,ep,h1,h2,h3,h4,h5⟩:=(show ObjOk P w H h a (.dT sh kvs kas)from y14 ok e);refine⟨z,y,xs,r,ka,o,es,ep,h1,h2,h3,h4,fun x hx=>?_,h5⟩
 have all:∀{l:List (Kx×V)}{m:List (Kx×Addr×Value)},KT sh H l m->∀x∈m,(treeKind P w sh).is h x.1 x.2.1:=by
  intro l m q
  induction q with
  |nil=>intro x hx;exact nomatch hx
  | @cons p q ps qs hq t ih=>
   intro x hx;rcases w0p.mp hx with e|hx
   ·subst e;exact q7t ok (by rw[<- hq.1];exact hq.2.1)
   ·exact ih x hx
 exact all r x hx
theorem y15(ok:HOk P w H h)(e:H a=some (.dT sh kvs kas)):kvs.length<=sizeLine/\(a==sysModules)=false /\
  ∃xs,KT sh H kvs xs/\xs.map (·.2.1)=kas/\h.DictOfH (treeKind P w sh) a xs:=x1y ok (.inl e)
end
def DGet(H:Hp)(a:Addr)(y:V)(r:Option V):Prop:=
 (∃kvs k,Rd H a (.dK kvs)/\y=kV k/\r=valV kvs k)\/∃sh kvs kas k b,Rd H a (.dT sh kvs kas)/\y=.ref b/\(KRep H k (.ref b)/\Conf k sh/\k.depth<=7)/\r=valV kvs k
def DPut(H:Hp)(a:Addr)(y v:V)(H':Hp):Prop:=
 (∃kvs k,H a=some (.dK kvs)/\y=kV k/\kvs.length<sizeLine/\H'=upd H a (.dK (putK kvs k v))) \/
 ∃sh kvs kas k b,H a=some (.dT sh kvs kas)/\y=.ref b/\(KRep H k (.ref b)/\Conf k sh/\k.depth<=7)/\kvs.length<sizeLine/\H'=upd H a (.dT sh (putK kvs k v) (putAd kvs kas k b))
theorem DGet.t(e:Rd H a (.dT sh kvs kas))(eb:KRep H k (.ref b)/\Conf k sh/\k.depth<=7):DGet H a (.ref b) (valV kvs k):=.inr ⟨sh,kvs,kas,k,b,e,rfl,eb,rfl⟩
theorem DPut.t{v:V}(e:H a=some (.dT sh kvs kas))(eb:KRep H k (.ref b)/\Conf k sh/\k.depth<=7)(hl:kvs.length<sizeLine):
  DPut H a (.ref b) v (upd H a (.dT sh (putK kvs k v) (putAd kvs kas k b))):=.inr ⟨sh,kvs,kas,k,b,e,rfl,eb,hl,rfl⟩
section
variable{v:V}{r:Value}{o:Option V}
theorem Inv.big(I:Inv X pins σ H s):sysModules<s.heap.objs.size:=by
 have h:mainGlobals<s.heap.objs.size:=(I.mod.glob.keeps I.bk).lt;exact w3w (by decide) h
theorem q8v(hu:A.units+20<cLine):(treeKind P w sh).room A.in1:=by
 show A.in1.units+8<cLine;rw[Around.in1_units];omega
theorem x7y{Q:Value->Shared->Prop}(hu:A.units+20<cLine)(I:Inv X pins σ H s)(g:DGet H a y (some v))(ry:RelV y u)(h:∀w' s',Inv X pins σ H s'->RelV v w'->Q w' s'):
  wpAny (model X.prog X.w) A (getItem (.ref a) u) Q E s:=by
 rcases g with⟨kvs,k,e,ey,l⟩|⟨sh,kvs,kas,k,b,e,ey,eb,l⟩
 ·subst ey;obtain⟨z,hd,vs,rel,dd⟩:=x1x I.hok e;obtain⟨w',hw,rw'⟩:=RelO.some_of (v:=v) (o:=valueAt vs k) (by rw[l];exact rel.val k);exact wpAny_getItem_of (x5r ry) dd.mapOf hw (h w' _ (I.tok _) rw')
 ·subst ey;cases(show u=Value.ref b from ry);obtain⟨z,hd,xs,rel,_,dd⟩:=x1y I.hok e;obtain⟨w',hw,rw'⟩:=RelO.some_of (v:=v) (o:=(atKey xs k).map (·.2)) (by rw[l];exact rel.val k);obtain⟨p,hp,hp2⟩:=w0f.mp hw;refine wpAny_getItem_heap (q8v hu) (q7t I.hok eb) dd hp ?_;rw[hp2];exact h w' _ (I.tok _) rw'
theorem y4m{Q:Value->Shared->Prop}(hu:A.units+20<cLine)(I:Inv X pins σ H s)(g:DGet H a y o)(ry:RelV y u)(h:∀s',Inv X pins σ H s'->Q (.bool (!o.isSome)) s'):
  wpAny (model X.prog X.w) A (compareOp .NotIn u (.ref a)) Q E s:=by
 rcases g with⟨kvs,k,e,ey,l⟩|⟨sh,kvs,kas,k,b,e,ey,eb,l⟩
 ·subst ey;obtain⟨z,hd,vs,rel,dd⟩:=x1x I.hok e;refine wpAny_notIn_of (x5r ry) hd dd.mapOf ?_;rw[<- (rel.val k).isSome_eq,<- l];exact h _ (I.tok _)
 ·subst ey;cases(show u=Value.ref b from ry);obtain⟨z,hd,xs,rel,_,dd⟩:=x1y I.hok e;refine wpAny_notIn_heap (q8v hu) (q7t I.hok eb) hd dd ?_;have q:=(rel.val k).isSome_eq;rw[w3k]at q;rw[<- q,<- l];exact h _ (I.tok _)
theorem q99{h':Heap}{t':Nat}{ob:HO}(I:Inv X pins σ H s)(mu:Mut (H a))(hs:Heap.SameBut a s.heap h')(he:∃q,h'.get? a=some q)(new:ObjOk X.prog X.w (upd H a ob) h' a ob):
  Inv X pins σ (upd H a ob) {s with heap:=h',toks:=t'}:=
 I.write (x:=a) (e:=a) mu (.inl rfl) (fun b q hb z=>(hs.2 b hb).trans z) he new
theorem y75{h':Heap}{kvs:List (Key×V)}{vs:List (Key×Value)}(z:kvs.length<=sizeLine)(hd:(a==sysModules)=false)(rel:KV kvs vs)(dd:h'.DictOf (mixKind P w) a vs):
  ObjOk P w H' h' a (.dK kvs):=⟨z,hd,vs,rel,dd⟩
theorem x7z{Q:Unit->Shared->Prop}(hu:A.units+20<cLine)(I:Inv X pins σ H s)(g:DPut H a y v H')(ry:RelV y u)(rv:RelV v r)(h:∀s',Inv X pins σ H' s'->Q () s'):
  wpAny (model X.prog X.w) A (setItem (.ref a) u r) Q E s:=by
 rcases g with⟨kvs,k,e,ey,l,eH⟩|⟨sh,kvs,kas,k,b,e,ey,eb,l,eH⟩
 ·subst ey eH;obtain⟨z,hd,vs,rel,dd⟩:=y94 I.hok e;have hz:vs.length<=sizeLine:=by rw[<- rel.length];exact z
  have hl:(putK kvs k v).length<=sizeLine:=by have:=q8f kvs k v;omega
  refine wpAny_setItem_pairs (hsz:=hz) (x5r ry) dd fun h' dd' hs=>h _ ?_
  have he:∃q,h'.get? a=some q:=let ⟨q,_,_,hq,_⟩:=dd';⟨q,hq⟩;exact q99 I (by rw[e];exact True.intro) hs he (y75 hl hd (rel.put k rv) dd')
 ·subst ey eH;cases(show u=Value.ref b from ry);obtain⟨z,hd,xs,rel,ka,dd⟩:=y15 I.hok e;have hz:xs.length<=sizeLine:=by rw[<- Paired.length rel];exact z
  have hl:(putK kvs k v).length<=sizeLine:=by have:=q8f kvs k v;omega
  refine wpAny_setItem_heap (hsz:=hz) (q8v hu) (q7t I.hok eb) dd fun h' dd' hs=>h _ ?_
  obtain⟨q,es,ep,hq,h2,h3,h4,_,h5⟩:=dd';refine q99 I (by rw[e];exact True.intro) hs ⟨q,hq⟩ ⟨hl,hd,_,(rel.put k eb rv).keeps fun c u ys ec=>?_,rel.putAd ka k,q,es,ep,hq,h2,h3,h4,h5⟩
  rw[q0e (q03 ec e (fun z=>by subst z;exact ys))]
  exact ec
end
def NoSl(i:Expr):Prop:=∀ov iv,subscripted i false ov iv=operate [ov,iv] (getItem ov iv)
theorem y4n{prog:Program}{env:Env}{value slice:Expr}{T id:String}{Q:Value->Shared->Prop}
  (hl:typeLookup (.type T) "__getitem__"=pure (some (.builtin id)))(hs:NoSl slice)
  (h:wpAny (model prog w) A (eval value env) (fun o s₁=>wpAny (model prog w) A (eval slice env) (fun i s₂=>s₂.TypeIs o T/\wpAny (model prog w) A (getItem o i) Q E s₂) E s₁) E s):
  wpAny (model prog w) A (eval (.Subscript value slice pos) env) Q E s:=by
 refine Subscript_ (wpAny_mono h (fun o s₁ h₁=>wpAny_mono h₁ (fun i s₂ h₂=>?_) fun _ _ x=>x) fun _ _ x=>x)
 obtain⟨hT,h₂⟩:=h₂;unfold subscriptTail;refine wpAny_bind ?_;rw[getitemInPython_of_ne hT.not_modules];refine wpAny_bind (wpAny_specialOf hT hl ?_)
 have fin:wpAny (model prog w) A (subscripted slice false o i) (fun r s₃=>wpAny (model prog w) A (letTemporaryGo value o r >>= fun _=>pure r) Q E s₃) E s₂:=by
  rw[hs o i];exact wpAny_operating (wpAny_mono h₂ (fun r s₃ h₃=>wpAny_bind (wpAny_letTemporaryGo (wpAny_pure h₃))) fun _ _ x=>x)
 first
  |exact wpAny_pure (wpAny_bind fin)
  |exact wpAny_bind (wpAny_pure (wpAny_bind fin))
  |exact wpAny_bind fin
theorem x3n{o:Option V}(I:Inv X pins σ H s)(g:DGet H a y o):s.TypeIs (.ref a) "dict":=by
 rcases g with⟨kvs,k,e,_,_⟩|⟨sh,kvs,kas,k,b,e,_,_,_⟩
 ·obtain⟨_,_,vs,_,dd⟩:=x1x I.hok e;exact dd.typeIs
 ·obtain⟨_,_,xs,_,_,dd⟩:=x1y I.hok e;exact dd.typeIs
def tDGet(td ty:TE):TE:=fun σ H Q=>td σ H fun x H1=>ty σ H1 fun y H2=>∃a v,x=.ref a/\DGet H2 a y (some v)/\Q v H2
def tDNotIn(ty td:TE):TE:=fun σ H Q=>ty σ H fun y H1=>td σ H1 fun x H2=>∃a o,x=.ref a/\DGet H2 a y o/\Q (.bl (!o.isSome)) H2
def sDPut(td ty tv:TE):TS:=fun D σ H=>tv σ H fun v H1=>td σ H1 fun x H2=>ty σ H2 fun y H3=>∃a H4,x=.ref a/\DPut H3 a y v H4/\D.nx σ H4
section
variable{o i e value:Expr}{pos' tpos:Pos}{td ty tv:TE}
theorem y4o(hu:X.A.units+20<cLine)(ho:PE X o td)(hi:PE X i ty)(hs:NoSl i):PE X (.Subscript o i pos) (tDGet td ty):=by
 intro pins s σ H Q I h;refine y4n PySem.F.slot_dict_getitem.lookup hs (thn (ho pins s σ H _ I h) fun u s1 ⟨x,H1,I1,rx,q1⟩=>thn (hi pins s1 σ H1 _ I1 q1) fun iv s2 ⟨y,H2,I2,ry,a,v,ex,g,q2⟩=>?_)
 subst ex;obtain rfl:u=Value.ref a:=rx;exact⟨x3n I2 g,x7y hu I2 g ry fun w' s3 I3 rw'=>⟨v,H2,I3,rw',q2⟩⟩
theorem x70(hu:X.A.units+20<cLine)(hi:PE X i ty)(ho:PE X o td):PC X .NotIn i o (tDNotIn ty td):=by
 intro pins s σ H Q I h;refine thn (hi pins s σ H _ I h) fun iv s1 ⟨y,H1,I1,ry,q1⟩=>thn (ho pins s1 σ H1 _ I1 q1) fun u s2 ⟨x,H2,I2,rx,a,ov,ex,g,q2⟩=>?_
 subst ex;obtain rfl:u=Value.ref a:=rx;exact y4m hu I2 g ry fun s3 I3=>⟨.bl (!ov.isSome),H2,I3,rfl,q2⟩
theorem y4p(hu:X.A.units+20<cLine)(ho:PE X o td)(hi:PE X i ty)(hv:PE X value tv)(hs:swapsWith value (some (.Subscript o i pos')) pos.line X.env=pure false):
  PS X (.Assign [.Subscript o i pos'] value pos) (sDPut td ty tv):=by
 intro pins s σ H D I h;refine wpAny_Assign_Subscript (thn (hv pins s σ H _ I h) fun r s1 ⟨v,H1,I1,rv,q1⟩=>thn (ho pins s1 σ H1 _ I1 q1) fun u s2 ⟨x,H2,I2,rx,q2⟩=>thn (hi pins s2 σ H2 _ I2 q2) fun iv s3 ⟨y,H3,I3,ry,a,H4,ex,g,q3⟩=>?_) hs
 subst ex;obtain rfl:u=Value.ref a:=rx;exact x7z hu I3 g ry rv fun s4 I4=>⟨σ,H4,I4,q3⟩
end
theorem y0u(h:Heap)(hb:sysModules<h.objs.size):ObjOk P w H (h.push {cls:=.type "dict", data:=.dict #[]}) h.objs.size (.dT sh [] []):=
 ⟨w1f _,beq_eq_false_iff_ne.mpr (Ne.symm (w0j hb)),[],.nil,rfl,_,#[],0,Heap.get?_push_size _ rfl,⟨rfl,rfl,rfl⟩,rfl,rfl,List.nodup_nil⟩
end L2
namespace D
open PySem L2 PySem.Spec PyProof.Rows
open PyProof.Rows (envOfC)
section
variable{e e':List S}{ws us vs:List W}{v:Value}
theorem x71{wss:List (List W)}:hide1 (.nest wss)=.fr (.lst (wss.map W.lst)):=rfl
theorem y0v:hide1 (.thr us ws vs)=.fr (.tup (us++.lst ws::vs)):=rfl
end
end D
namespace L2
open PySem PySem.Spec PyProof.Rows
section
variable{X:Cx}
noncomputable def insV{α:Type}(xs:List α)(k:Nat)(y:α):List α:=xs.take k++y::xs.drop k
def rInsert:V->List V->Hp->VK->Prop:=fun x vs H Q=>∃l xs i y,x=.ref l/\vs=[.int i,y]/\H l=some (.lst xs)/\0<=i/\i<2^63/\xs.length<sizeLine/\Q .non (upd H l (.lst (insV xs (min i.toNat xs.length) y)))
theorem Vals.takeN{xs:List V}{us:List Value}(r:Vals xs us):∀k,Vals (xs.take k) (us.take k):=by
 induction r with
 |nil=>intro k;simp;exact .nil
 |cons h t ih=>
  intro k;cases k with
  |zero=>exact .nil
  |succ k=>exact .cons h (ih k)
theorem Vals.dropN{xs:List V}{us:List Value}(r:Vals xs us):∀k,Vals (xs.drop k) (us.drop k):=by
 induction r with
 |nil=>intro k;simp;exact .nil
 |cons h t ih=>
  intro k;cases k with
  |zero=>exact .cons h t
  |succ k=>exact ih k
theorem x72:MtM X "list.insert" rInsert:=by
 intro pins s σ H x vs v us Q I rx rv h;obtain⟨l,xs,i,y,rfl,rfl,hH,h1,h2,hz,q⟩:=h;cases rx;obtain⟨u,w,rfl,ru,rw'⟩:=rv.two;obtain⟨t,rfl⟩:=ru;obtain⟨z,its,n,r,hl,e⟩:=I.lstM hH
 have hk:(if i<0 then(i+(its.toArray.size:Int)).toNat else min i.toNat its.toArray.size)=min i.toNat xs.length:=by
  rw[if_neg (by omega),w0c,hl]
 refine call_meets F.slot_list_insert ⟨_,e,rfl⟩ F.entry_list_insert (F.args_list_insert_3 _ _ _)
  (AutoSeq1.list_insert_list_int_val_1 l its.toArray n i t w (by rw[fitsIndex_both (by omega) h2];decide) (by rw[w0c];omega)) ⟨e,?_⟩
 refine⟨.non,_,I.lset (its':=insV its (min i.toNat xs.length) w) hH e ?_ ((r.takeN _).append (.cons rw' (r.dropN _))) ?_,rfl,q⟩
 ·show(its.toArray.extract 0 (if i<0 then(i+(its.toArray.size:Int)).toNat else min i.toNat its.toArray.size)).push w++its.toArray.extract (if i<0 then(i+(its.toArray.size:Int)).toNat else min i.toNat its.toArray.size)=_;rw[hk];apply Array.toList_inj.mp;simp[insV];rw[w3r (by simp)]
 ·simp only[w0q,w1l,w2j,w3o];omega
end
def tTry2(K:PySem.W.Frag)(c1 c2:Addr)(i1 i2 n:Nat)(tb:(St->XK)->TS)(th1 th2:TS):TS:=fun D σ H=>
 tb (fun σ' cls _ H'=>(exmOne K cls (.ref c1)=some true/\∀e,H' e=none ->
   th1 {nx:=fun _ H''=>D.nx (List.replicate n none) H'',rt:=D.rt,bk:=fun _ H''=>D.bk (List.replicate n none) H'',ct:=fun _ H''=>D.ct (List.replicate n none) H''} (σ'.set i1 (some (.ref e))) (upd H' e (excO e cls))) \/
  (exmOne K cls (.ref c1)=some false/\exmOne K cls (.ref c2)=some true/\∀e,H' e=none ->
   th2 {nx:=fun _ H''=>D.nx (List.replicate n none) H'',rt:=D.rt,bk:=fun _ H''=>D.bk (List.replicate n none) H'',ct:=fun _ H''=>D.ct (List.replicate n none) H''} (σ'.set i2 (some (.ref e))) (upd H' e (excO e cls)))) D σ H
theorem y4q{X:Cx}{body suite suite2:List Stmt}{b₀ b2:Stmt}{c n c2 n2:Str}{i i2:Nat}{Cc C2:Addr}{np hpos np2 hpos2 pos:Pos}{tb:(St->XK)->TS}{th th2:TS}
  (hg:Gl X c)(hm:X.mg c=some (.ref Cc))(hN:X.N.Nodup)(hi:X.N[i]?=some n)(hx:X.env.scope.names.lookup n=some .local)
  (hg2:Gl X c2)(hm2:X.mg c2=some (.ref C2))(hi2:X.N[i2]?=some n2)(hx2:X.env.scope.names.lookup n2=some .local)
  (hb:∀(EE:St->XK)(pn:List (Addr×Obj))(xe:Value->Shared->Prop),PassX (CX1 X.prog X.w) (X.tr pn xe) EE->PSs (X.tr pn xe) body (tb EE))
  (hh:∀e:Addr,PSs (X.hn e) (b₀::suite) th)(hh2:∀e:Addr,PSs (X.hn e) (b2::suite2) th2)
  (hs:X.stack=X.env::X.outer:=by rfl)(hf:X.env.frame=some X.env.locals:=by rfl)(hdb:(c==("__debug__":Str))=false:=by decide)(hdb2:(c2==("__debug__":Str))=false:=by decide):
  PS X (.Try body [.ExceptHandler (some (.Name c np)) (some n) (b₀::suite) hpos,.ExceptHandler (some (.Name c2 np2)) (some n2) (b2::suite2) hpos2] [] [] pos) (tTry2 X.K Cc C2 i i2 X.N.length tb th th2):=by
 intro pins s σ H D I h;refine wpAny_Try_except (wpAny_mono (hb _ (X.pn++pins) _ ?pass [] s σ H D (I.tr _) h) (fun f s1 q=>?_) fun _ _ z=>z)
 case pass=>
  intro pins' σ' H1 s1 ev s2 I1 hx1;obtain⟨e,cls,H2,B,rfl,hos,hgn,un,hok,fly,hE⟩:=hx1;have I0:Inv X pins σ' H1 s1:=I1.untr;have un:Un (frs X.stack) [] H1 H2 s1.heap s2.heap:=un;have fly:Fly X.stack H1 H2 s1.heap s2.heap e cls B:=fly;have hfr:=fly.free hok;obtain⟨a0,fl⟩:=fly.fl;have fl':Heap.FlyingW B (X.env::X.outer) e cls a0 s2.heap:=hs ▸ fl;have fr':X.A.frames=some (X.env::X.outer):=hs ▸ I0.ok.frames;have noch:∀b∈([]:List Addr),(b∈X.ex\/X.s₀.heap.objs.size<=b)/\b≠X.env.locals/\(∀x c,X.env.cells.lookup x=some c->c≠b)/\∀p∈X.pn++pins,p.1≠b:=fun b z=>nomatch z
  have land:∀h5 tk,Heap.FlyingW B (X.env::X.outer) e cls a0 h5->s2.heap.UpToSlots h5->Inv X pins σ' H2 {s2 with heap:=h5,toks:=tk}:=fun h5 tk fl5 up5=>by
   have fl5':Heap.FlyingW B X.stack e cls a0 h5:=hs.symm ▸ fl5;exact I0.call' (s':={s2 with heap:=h5,toks:=tk}) (ch:=[]) hos (fly.un un fl5' up5) (fly.hok hok fl5') hgn noch
  refine wpAny_looks_onW (base:=B) fr' hf fl' fun h₄ held up₄=>?_
  refine wpAny_landsW held fun h₅ fl₅ up₅'=>?_
  have up₅:s2.heap.UpToSlots h₅:=up₄.trans up₅';have I5:=land h₅ s2.toks fl₅ up₅;obtain⟨ob,hob,hoc⟩:=fl₅.there;have LT:PySem.W.Looks (model X.prog X.w) h₅ (typeOf (.ref e)) cls:=hoc ▸ (PySem.W.Looks.ld hob).andThen .now
  have suite1:∀{n:Str}{i:Nat}{b₀:Stmt}{suite:List Stmt}{hpos:Pos}{th:TS},X.N[i]?=some n->X.env.scope.names.lookup n=some .local->(∀e:Addr,PSs (X.hn e) (b₀::suite) th) ->
    (th {nx:=fun _ H''=>D.nx (List.replicate X.N.length none) H'',rt:=D.rt,bk:=fun _ H''=>D.bk (List.replicate X.N.length none) H'',ct:=fun _ H''=>D.ct (List.replicate X.N.length none) H''} (σ'.set i (some (.ref e))) (upd H2 e (excO e cls))) ->
    codeAny (model X.prog X.w) (X.A.mark (some (.ref e))) (.handlers (.ref e) [.ExceptHandler none (some n) (b₀::suite) hpos] X.env) (fun r s₂=>match r with
     |.ok f=>wpAny (model X.prog X.w) X.A (do bindName X.env n .none;unbindBehindTheSuite X.env n hpos) (fun _ s₃=>SP X pins D f s₃) X.xe s₂
     |.error x=>cameBackBy (model X.prog X.w) X.A X.env X.xe x s₂) {s2 with heap:=h₅}:=by
   intro n i b₀ suite hpos th hi hx hh hE;refine codeAny_handlers_suite_as ?_;refine lands_againW fl₅ fun h₆ fl₆ up₆'=>?_
   have up₆:s2.heap.UpToSlots h₆:=up₅.trans up₆';obtain⟨oe,ws,hoe,hoec,hoed,_⟩:=fl₆.first
   have fl6':Heap.FlyingW B X.stack e cls a0 h₆:=hs.symm ▸ fl₆
   have I7:Inv X pins σ' (upd H2 e (excO e cls)) {s2 with heap:=h₆}:=
    I0.call' (s':={s2 with heap:=h₆}) (ch:=[]) hos ((fly.un un fl6' up₆).taken fly.new hfr) ((fly.hok hok fl6').taken hfr (y2p ⟨oe,ws,hoe,hoec,hoed⟩)) hgn noch
   refine q8i (X:=X.hn e) (I7.hn e) hN hi (.inl hx) (v:=.ref e) rfl (fun s8 I8=>?_) (.inr hx)
   refine wpAny_mono (hh e pins s8 _ _ _ I8 hE) (fun f s9 q=>?_) fun _ _ z=>z.elim
   show wpAny _ _ _ _ _ _
   have go:∀{σ9:St}{H9:Hp},Inv (X.hn e) pins σ9 H9 s9->∀R:Unit->Shared->Prop,(∀s',Inv X pins (List.replicate X.N.length none) H9 s'->R () s')->wpAny (model X.prog X.w) X.A (do bindName X.env n .none;unbindBehindTheSuite X.env n hpos) R X.xe s9:=fun {σ9 H9} I9 R hR=>by
    obtain⟨m9,hn9,_⟩:=I9.loc;refine wpAny_nameGoes (env:=X.env) hx hn9 (by rw[I0.ok.kind];rfl) fun h' m' hn' hsb=>hR _ ?_
    exact(I9.unhn I0.ok).forget hsb hn'
   cases f with
   |next=>obtain⟨σ9,H9,I9,q⟩:=q;exact go I9 _ fun s' I'=>⟨_,H9,I',q⟩
   |brk=>obtain⟨σ9,H9,I9,q⟩:=q;exact go I9 _ fun s' I'=>⟨_,H9,I',q⟩
   |cont=>obtain⟨σ9,H9,I9,q⟩:=q;exact go I9 _ fun s' I'=>⟨_,H9,I',q⟩
   |ret u=>obtain⟨v,σ9,H9,I9,r,q⟩:=q;exact go I9 _ fun s' I'=>⟨v,_,H9,I',r,q⟩
  refine wpAny_handleBy_cons (codeAny_handlers_test ?_) (by intro q;cases q);refine q43 (X:=X.hn e) (I5.hn e) hg hm ?_ hdb;rcases hE with⟨hmt,hE⟩|⟨hmt,hmt2,hE⟩
  ·refine(exm_one (M:=model X.prog X.w) I5.kIn LT hmt).at ?_;exact suite1 hi hx hh (hE e hfr)
  ·refine(exm_one (M:=model X.prog X.w) I5.kIn LT hmt).at ?_;show wpAny _ _ _ _ _ _;refine wpAny_handleBy_cons (codeAny_handlers_test ?_) (by intro q;cases q);refine q43 (X:=X.hn e) (I5.hn e) hg2 hm2 ?_ hdb2;refine(exm_one (M:=model X.prog X.w) I5.kIn LT hmt2).at ?_;exact suite1 hi2 hx2 hh2 (hE e hfr)
 ·cases f with
  |next=>obtain⟨σ',H',I',q⟩:=q;exact wpAny_execs_nil ⟨σ',H',I'.untr,q⟩
  |brk=>obtain⟨σ',H',I',q⟩:=q;exact⟨σ',H',I'.untr,q⟩
  |cont=>obtain⟨σ',H',I',q⟩:=q;exact⟨σ',H',I'.untr,q⟩
  |ret u=>obtain⟨v,σ',H',I',r,q⟩:=q;exact⟨v,σ',H',I'.untr,r,q⟩
end L2
namespace D
open PySem L2 PySem.Spec PyProof.Rows
variable{c1 c2:Addr}{X:Cx}{G:Hp}{EE:L2.St->XK}{wss:List (List W)}{h1 h2:List S->SR}{i i1 i2 n:Nat}{pos:Pos}{K:PySem.W.Frag}{Z:Zt}
noncomputable def compN(d:Den (List W))(pe:List S):List W->Option (List (List W))
 |[]=>some []
 |w::ws=>match d (.fr w::pe)with
  |.ok y _=>(compN d pe ws).map (y::·)
  |_=>none
noncomputable def nestK(i:Nat)(e:List S):Option (List (List W))->SR
 |some out=>.nx (e.set i (.nest out))
 |none=>.no
noncomputable def nestW(i:Nat)(js:List Nat)(d:Den (List W))(e:List S):Option (List W)->SR
 |some ws=>if ws.length<=16777216 then nestK i (frzs js e) (compN d (pjS js (frzs js e)) ws)else .no
 |none=>.no
noncomputable def ixNB(a:Int)(k2:W)(e2:List S):Option S->R W
 |some (.nest wss)=>match k2 with
  |.int b=>ofOpt ((atI wss a).bind fun ws=>atI ws b) e2
  |_=>.no
 |_=>.no
section
variable{a b k:Expr}{es:List Expr}{d1 d2 dk dv:Den W}{dA:Den (List W)}{x:Str}{p spos tpos:Pos}
noncomputable def insF(ws:List W):List W->Option (List W)
 |[.int n,w]=>if 0<=n/\n<9223372036854775808/\ws.length<16777216 then some (insV ws (min n.toNat ws.length) w)else none
 |_=>none
theorem Reps.ins{w:W}{x:V}(hw:Rep K G w x):∀(k:Nat){ws:List W}{xs:List V},Reps K G ws xs->Reps K G (insV ws k w) (insV xs k x)
 |0,ws,xs,r=>⟨x,xs,by simp[insV],hw,by simpa [insV]using r⟩
 |k+1,[],_,r=>by
  cases(show _=[]from r);exact⟨x,[],by simp[insV],hw,rfl⟩
 |k+1,w'::ws,_,⟨y,r,rfl,h1,h2⟩=>⟨y,insV r k x,rfl,h1,Reps.ins hw k h2⟩
def MutR(f:List W->List W->Option (List W))(r:V->List V->Hp->VK->Prop):Prop:=
 ∀(K:PySem.W.Frag)(G H:Hp)(l:Addr)(ws ws' as:List W)(ys vs:List V)(Q:VK),H l=some (.lst ys)->Reps K G ws ys->Reps K G as vs->f ws as=some ws' ->
  (∀u ys',Reps K G ws' ys'->Q u (upd H l (.lst ys')))->r (.ref l) vs H Q
theorem y0w:MutR insF rInsert:=by
 intro K G H l ws ws' as ys vs Q hl rw ra hf h;unfold insF at hf;split at hf
 ·split at hf
  ·rename_i hc;cases hf;obtain⟨v,r,rfl,pv,ra⟩:=ra;obtain⟨v2,r2,rfl,pv2,ra2⟩:=ra;cases(show r2=[]from ra2);cases pv;refine⟨l,ys,_,v2,rfl,rfl,hl,hc.1,hc.2.1,by rw[rw.length,sizeLine_eq];exact hc.2.2,?_⟩;rw[rw.length];exact h _ _ (Reps.ins pv2 _ rw)
  ·cases hf
 ·cases hf
noncomputable def insK(i:Nat)(e:List S)(as:List W):Option S->SR
 |some (.own b ws)=>match insF ws as with
  |some ws'=>.nx (e.set i (.own b ws'))
  |none=>.no
 |_=>.no
noncomputable def ins0(k:SR):Option S->SR
 |some (.own _ _)=>k
 |_=>.no
noncomputable def dIns(i:Nat)(dA:Den (List W)):List S->SR:=fun e=>ins0 ((dA e).stm fun as e1=>insK i e1 as e1[i]?) e[i]?
theorem y76(i:Nat){apos cpos:Pos}(ha:DA Z X EE (a::es) dA)(hN:X.N[i]?=some x:=by rfl)(hv:Vis X.env.scope x:=by walk_at "1")(hd:(x==("__debug__":Str))=false:=by decide)(hcd:(x==("__classdict__":Str))=false:=by decide)
  (hbase:attributeBase (.Name x p) "insert" X.env (eval (.Name x p) X.env)=eval (.Name x p) X.env:=by rfl)
  (hfew:((backTo cpos (starEach (a::es) X.env)).all (fun x=>!x.1)&&(backToKw cpos (keywordEach [] X.env)).all (fun x=>x.1.isSome)&&decide ((a::es).length+([]:List Keyword).length+(if([]:List Keyword).isEmpty then 0 else 1)<30))=true:=by rfl)
  (hline:(apos.endLine==cpos.line)=true:=by rfl)(hst:starEach (a::es) X.env=(false,eval a X.env)::starEach es X.env:=by rfl)(hplain:(backTo cpos (starEach es X.env)).any (·.1)=false:=by rfl)
  (hsw:swapsWith (.Call (.Attribute (.Name x p) "insert" apos) (a::es) [] cpos) none pos.line X.env=pure false:=by rfl):
  DS Z X EE (.Expr (.Call (.Attribute (.Name x p) "insert" apos) (a::es) [] cpos) pos) (dIns i dA):=by
 refine PS.mono (q6j (x4w PySem.F.plainAttrs_list PySem.F.slot_list_insert PySem.F.type_list_insert x72 (pv i hN hv hd hcd) ha hbase hfew hline hst hplain) hsw) ?_;rintro D σ H ⟨G,e,rel,h⟩;unfold dIns ins0 at h;split at h
 ·rename_i b0 ws0 he0;obtain⟨aa,xs,h1,h2,h3,h4,h5⟩:=rel.own he0;refine⟨.ref aa,h1,.inl ⟨rfl,xs,SqL.of h2⟩,G,e,rel,(q04 h).imp (fun as e1 h G1 vs H1 r1 s1 p1=>?_) fun _ _ h=>h⟩
  unfold insK at h;split at h
  ·rename_i b ws he1;split at h
   ·rename_i ws' hf;obtain⟨a',zs,g1,g2,g3,g4,g5⟩:=r1.own he1;rw[h1]at g1;cases g1;exact y0w X.K G1 H1 aa ws ws' as zs vs _ g2 g5 p1 hf fun u ys' hr=>h G1 σ _ (r1.mut he1 h1 hr) s1
   ·exact h.elim
  ·exact h.elim
 ·exact h.elim
end
noncomputable def tryK2(K:PySem.W.Frag)(c1 c2:Addr)(i1 i2 n:Nat)(h1 h2:List S->SR):SR->SR
 |.ex cls e'=>if exmOne K cls (.ref c1)=some true then tryH n (h1 (e'.set i1 (.fr (.exc cls))))else
  if exmOne K cls (.ref c1)=some false/\exmOne K cls (.ref c2)=some true then tryH n (h2 (e'.set i2 (.fr (.exc cls))))else .no
 |r=>r
noncomputable def dTry2(K:PySem.W.Frag)(c1 c2:Addr)(i1 i2 n:Nat)(b h1 h2:List S->SR):List S->SR:=fun e=>tryK2 K c1 c2 i1 i2 n h1 h2 (b e)
theorem y4r{body suite suite2:List Stmt}{b₀ b2:Stmt}{c n c2 n2:Str}{Cc C2:Addr}{np hpos np2 hpos2:Pos}{dB dH dH2:List S->SR}
  (hm:X.mg c=some (.ref Cc))(hm2:X.mg c2=some (.ref C2))(hN:X.N.Nodup)(hi:X.N[i]?=some n)(hx:X.env.scope.names.lookup n=some .local)(hi2:X.N[i2]?=some n2)(hx2:X.env.scope.names.lookup n2=some .local)
  (hb:∀(EE:L2.St->XK)(pn:List (Addr×Obj))(xe:Value->Shared->Prop),PassX (CX1 X.prog X.w) (X.tr pn xe) EE->DSs Z (X.tr pn xe) EE body dB)
  (hh:∀e:Addr,DSs Z (X.hn e) (fun _=>E0) (b₀::suite) dH)(hh2:∀e:Addr,DSs Z (X.hn e) (fun _=>E0) (b2::suite2) dH2)(hg:Gl X c:=by rfl)(hg2:Gl X c2:=by rfl)
  (hs:X.stack=X.env::X.outer:=by rfl)(hf:X.env.frame=some X.env.locals:=by rfl)(hdb:(c==("__debug__":Str))=false:=by decide)(hdb2:(c2==("__debug__":Str))=false:=by decide):
  DS Z X EE (.Try body [.ExceptHandler (some (.Name c np)) (some n) (b₀::suite) hpos,.ExceptHandler (some (.Name c2 np2)) (some n2) (b2::suite2) hpos2] [] [] pos) (dTry2 X.K Cc C2 i i2 X.N.length dB dH dH2):=by
 refine PS.mono (y4q (tb:=fun EE=>liftS X.K Z EE dB) (th:=liftS X.K Z (fun _=>E0) dH) (th2:=liftS X.K Z (fun _=>E0) dH2) hg hm hN hi hx hg2 hm2 hi2 hx2 hb hh hh2 hs hf hdb hdb2) ?_
 rintro D σ H ⟨G,e,rel,h⟩;refine⟨G,e,rel,?_⟩;unfold dTry2 tryK2 at h;cases q:dB e with
 |nx e'=>rw[q]at h;exact h
 |bk e'=>rw[q]at h;exact h
 |ct e'=>rw[q]at h;exact h
 |rt w e'=>rw[q]at h;exact h
 |no=>rw[q]at h;exact h
 |ex cls e'=>
  rw[q]at h;intro G1 σ1 H1 r1 s1;dsimp only at h
  have one:∀{i:Nat}{dH:List S->SR},PostS X.K Z EE D G (tryH X.N.length (dH (e'.set i (.fr (.exc cls)))))->∀ex,H1 ex=none ->
    liftS X.K Z (fun _=>E0) dH {nx:=fun _ H''=>D.nx (List.replicate X.N.length none) H'',rt:=D.rt,bk:=fun _ H''=>D.bk (List.replicate X.N.length none) H'',ct:=fun _ H''=>D.ct (List.replicate X.N.length none) H''} (σ1.set i (some (.ref ex))) (upd H1 ex (excO ex cls)):=fun {i dH} h ex hex=>by
   have g:=Grow.laid r1.sub hex (excO ex cls);refine⟨_,e'.set i (.fr (.exc cls)),(r1.grow g).set (v:=.ref ex) ⟨ex,rfl,q0h⟩,?_⟩;have sg:=s1.trans g.gg;cases q2:dH (e'.set i (.fr (.exc cls)))with
   |nx e2=>rw[q2]at h;exact fun G2 σ2 H2 r2 s2=>h G2 _ H2 (r2.blank _) (sg.trans s2)
   |bk e2=>rw[q2]at h;exact fun G2 σ2 H2 r2 s2=>h G2 _ H2 (r2.blank _) (sg.trans s2)
   |ct e2=>rw[q2]at h;exact fun G2 σ2 H2 r2 s2=>h G2 _ H2 (r2.blank _) (sg.trans s2)
   |rt w e2=>rw[q2]at h;exact fun G2 σ2 v H2 r2 s2 p2=>h G2 σ2 v H2 r2 (sg.trans s2) p2
   |ex c2 e2=>rw[q2]at h;exact h.elim
   |no=>rw[q2]at h;exact h.elim
  split at h
  ·rename_i hq;exact .inl ⟨hq,one h⟩
  ·split at h
   ·rename_i hq;exact .inr ⟨hq.1,hq.2,one h⟩
   ·exact h.elim
section
variable{e e':List S}{ws us vs:List W}{v:Value}{w:W}
theorem x5s{js:List Nat}{d:Den (List W)}:nestW i js d e (some ws)=if ws.length<=16777216 then nestK i (frzs js e) (compN d (pjS js (frzs js e)) ws)else .no:=rfl
theorem x5t:nestK i e (some wss)=.nx (e.set i (.nest wss)):=rfl
theorem y77{a b:Int}:ixNB a (.int b) e (some (.nest wss))=ofOpt ((atI wss a).bind fun ws=>atI ws b) e:=rfl
theorem y78{dA:Den (List W)}:dIns i dA e=ins0 ((dA e).stm fun as e1=>insK i e1 as e1[i]?) e[i]?:=rfl
theorem y79{b:Option Nat}{k:SR}:ins0 k (some (.own b ws))=k:=rfl
theorem y8a{b:Option Nat}{ws':List W}(h:insF ws us=some ws'):insK i e us (some (.own b ws))=.nx (e.set i (.own b ws')):=by
 show(match insF ws us with|some ws'=>_|none=>_)=_;rw[h]
theorem y8b{i:Int}:insF ws [.int i,w]=if 0<=i/\i<9223372036854775808/\ws.length<16777216 then some (insV ws (min i.toNat ws.length) w)else none:=rfl
theorem y8c(h1:n<=ws.length)(h2:ws.length<16777216):insF ws [.int (n:Int),w]=some (insV ws n w):=by
 rw[y8b,if_pos ⟨by omega,by omega,h2⟩,w1c,Nat.min_eq_left h1]
theorem y4s{b:List S->SR}:dTry2 K c1 c2 i1 i2 n b h1 h2 e=tryK2 K c1 c2 i1 i2 n h1 h2 (b e):=rfl
theorem y4t:tryK2 K c1 c2 i1 i2 n h1 h2 (.nx e)=.nx e:=rfl
theorem y4u{s:S}:tryK2 K c1 c2 i1 i2 n h1 h2 (.rt s e)=.rt s e:=rfl
theorem q8w(hx:exmOne K v (.ref c1)=some true):tryK2 K c1 c2 i1 i2 n h1 h2 (.ex v e)=tryH n (h1 (e.set i1 (.fr (.exc v)))):=by
 show(if _ then _ else _)=_;rw[if_pos hx]
theorem x2x(hx:exmOne K v (.ref c1)=some false)(hx2:exmOne K v (.ref c2)=some true):tryK2 K c1 c2 i1 i2 n h1 h2 (.ex v e)=tryH n (h2 (e.set i2 (.fr (.exc v)))):=by
 show(if _ then _ else(if _ then _ else _))=_;rw[if_neg (by rw[hx];decide),if_pos ⟨hx,hx2⟩]
end
end D
namespace L2
open PySem PySem.Spec PyProof.Rows
end L2
namespace D
open PySem L2 PySem.Spec PyProof.Rows
open Classical
variable{a:Addr}{fz:Bool}{X:Cx}{d dk:Den W}{G H:Hp}{k:Kx}{σ:L2.St}{EE:L2.St->XK}{ks:List Kx}{e:List S}{ws:List W}{i:Nat}{pos:Pos}{K:PySem.W.Frag}{sh:Sh}{x:Str}{v:V}{w:W}{Z:Zt}
mutual
noncomputable def kxW:W->Option Kx
 |.bl b=>some (.bl b)
 |.int i=>some (.int i)
 |.str x=>some (.str x)
 |.tup ws=>(kxWs ws).map .tup
 |_=>none
noncomputable def kxWs:List W->Option (List Kx)
 |[]=>some []
 |w::ws=>match kxW w,kxWs ws with
  |some k,some ks=>some (k::ks)
  |_,_=>none
end
def NoTup(K:PySem.W.Frag):Prop:=∀a o,K.lookup a=some o->o.cls≠.type "tuple"
theorem SqT.rd{xs:List V}(hK:NoTup K)(q:SqT K G a xs):Rd G a (.tup xs):=by
 rcases q with q|⟨o,its,n,h1,h2,_⟩
 ·exact q
 ·exact absurd h2 (hK a o h1)
mutual
theorem x73{K:PySem.W.Frag}{G H:Hp}(hK:NoTup K)(s:Same G H):∀(w:W){k:Kx}{v:V},kxW w=some k->Rep K G w v->KRep H k v
 |.bl b,k,v,e,r=>by cases e;exact r
 |.int b,k,v,e,r=>by cases e;exact r
 |.str b,k,v,e,r=>by cases e;exact r
 |.tup ws,k,v,e,r=>by
  have e:(kxWs ws).map Kx.tup=some k:=e;obtain⟨ks,h1,rfl⟩:=w0f.mp e;obtain⟨a,xs,rfl,q,rs⟩:=r;refine⟨a,xs,rfl,?_,x4g hK s ws h1 rs⟩;rcases SqT.rd hK q with z|⟨o,z⟩
  ·exact .inl (s _ _ z)
  ·exact .inr ⟨o,s _ _ z⟩
 |.non,k,v,e,r=>by cases e
 |.lst _,k,v,e,r=>by cases e
 |.exc _,k,v,e,r=>by cases e
 |.dic _,k,v,e,r=>by cases e
 |.dw _ _ _ _,k,v,e,r=>by cases e
 |.fn _ _ _,k,v,e,r=>by cases e
theorem x4g{K:PySem.W.Frag}{G H:Hp}(hK:NoTup K)(s:Same G H):∀(ws:List W){ks:List Kx}{vs:List V},kxWs ws=some ks->Reps K G ws vs->KReps H ks vs
 |[],ks,vs,e,r=>by cases e;exact r
 |w::ws,ks,vs,e,r=>by
  have e:(match kxW w,kxWs ws with|some k,some ks=>some (k::ks)|_,_=>none)=some ks:=e;split at e
  ·rename_i k0 ks0 h1 h2;cases e;obtain⟨x,xs,rfl,r1,r2⟩:=r;exact⟨x,xs,rfl,x73 hK s w h1 r1,x4g hK s ws h2 r2⟩
  ·cases e
end
noncomputable def keyT:W->Option Kx
 |.tup ws=>(kxWs ws).map .tup
 |_=>none
theorem q63(hK:NoTup K)(s:Same G H)(e:keyT w=some k)(r:Rep K G w v):∃b,v=.ref b/\KRep H k (.ref b):=by
 cases w with
 |tup ws=>
  have z:=x73 hK s (.tup ws) e r;obtain⟨a,xs,rfl,q,rs⟩:=r;exact⟨a,rfl,z⟩
 |_=>cases e
def fits(k:Kx)(sh:Sh):Prop:=Conf k sh/\k.depth<=7
theorem KeysG.snoc{b:Addr}(hk:KRep G k (.ref b)):∀{ks:List Kx}{bs:List Addr},KeysG G ks bs->KeysG G (ks++[k]) (bs++[b])
 |[],[],_=>⟨hk,trivial⟩
 |_::_,_::_,h=>⟨h.1,KeysG.snoc hk h.2⟩
 |[],_::_,h=>h.elim
 |_::_,[],h=>h.elim
noncomputable def lkW:List Kx->List W->Kx->Option W
 |k::ks,w::ws,x=>if k=x then some w else lkW ks ws x
 |_,_,_=>none
theorem x2y{K:PySem.W.Frag}{G:Hp}{x:Kx}:∀{kvs:List (Kx×V)}{ws:List W},Reps K G ws (kvs.map (·.2)) ->
  (∀w,lkW (kvs.map (·.1)) ws x=some w->∃v,valV kvs x=some v/\Rep K G w v)/\(lkW (kvs.map (·.1)) ws x=none->valV kvs x=none)
 |[],ws,r=>by
  cases ws with
  |nil=>exact⟨(fun w z=>nomatch z),fun _=>rfl⟩
  |cons w ws=>obtain⟨_,_,z,_⟩:=r;cases z
 |p::kvs,[],r=>by cases(show _=[]from r)
 |p::kvs,w::ws,r=>by
  obtain⟨v,rr,z,h1,h2⟩:=r;cases z;have ih:=x2y (x:=x) h2
  by_cases e:p.1=x
  ·refine⟨fun w' z=>?_,fun z=>?_⟩
   ·have z:(if p.1=x then some w else lkW (kvs.map (·.1)) ws x)=some w':=z;rw[if_pos e]at z;cases z;exact⟨p.2,q62 e,h1⟩
   ·have z:(if p.1=x then some w else lkW (kvs.map (·.1)) ws x)=none:=z;rw[if_pos e]at z;cases z
  ·refine⟨fun w' z=>?_,fun z=>?_⟩
   ·have z:(if p.1=x then some w else lkW (kvs.map (·.1)) ws x)=some w':=z;rw[if_neg e]at z;rw[q59 e];exact ih.1 w' z
   ·have z:(if p.1=x then some w else lkW (kvs.map (·.1)) ws x)=none:=z;rw[if_neg e]at z;rw[q59 e];exact ih.2 z
theorem DAt.rd{kvs:List (Kx×V)}{kas:List Addr}(s:Same G H)(h:DAt fz G a sh kvs kas):Rd H a (.dT sh kvs kas):=by
 cases fz with
 |true=>obtain⟨o,h⟩:=h;exact .inr ⟨o,s _ _ h⟩
 |false=>exact .inl (s _ _ h)
noncomputable def inT(w d:W):Option W:=match keyT w,d with
 |some k,.dw _ sh ks ws=>if fits k sh then some (.bl (lkW ks ws k).isSome)else none
 |_,_=>none
noncomputable def ninT(w d:W):Option W:=match keyT w,d with
 |some k,.dw _ sh ks ws=>if fits k sh then some (.bl (!(lkW ks ws k).isSome))else none
 |_,_=>none
noncomputable def ixT(d w:W):Option W:=match keyT w,d with
 |some k,.dw _ sh ks ws=>if fits k sh then lkW ks ws k else none
 |_,_=>none
theorem x74{b:Addr}(s:Same G H)(p:Rep K G (.dw fz sh ks ws) v)(kr:KRep H k (.ref b))(hc:fits k sh):
  ∃a o,v=.ref a/\DGet H a (.ref b) o/\(∀w,lkW ks ws k=some w->∃u,o=some u/\Rep K G w u)/\(lkW ks ws k=none->o=none):=by
 obtain⟨a,kvs,kas,rfl,h1,rfl,h3,h4⟩:=p;refine⟨a,_,rfl,DGet.t (h1.rd s) ⟨kr,hc⟩,?_⟩;exact x2y h4
theorem y4v(hK:NoTup K):Op2 K (fun y x H Q=>∃a o,x=.ref a/\DGet H a y o/\Q (.bl (!o.isSome)) H) ninT:=by
 intro G H x y wx wy w Q s px py hf h;unfold ninT at hf;split at hf
 ·rename_i k fz sh ks ws hk;split at hf
  ·rename_i hc;cases hf;obtain⟨b,rfl,kr⟩:=q63 hK s hk px;obtain⟨a,o,rfl,g,g1,g2⟩:=x74 s py kr hc;refine⟨a,o,rfl,g,h G _ H (.refl s) ?_⟩;show V.bl (!o.isSome)=V.bl (!(lkW ks ws k).isSome);cases q:lkW ks ws k with
   |none=>rw[g2 q];rfl
   |some w=>obtain⟨u,hu,_⟩:=g1 w q;rw[hu];rfl
  ·cases hf
 ·cases hf
theorem y8d(hK:NoTup K):Op2 K (fun x y H Q=>∃a v,x=.ref a/\DGet H a y (some v)/\Q v H) ixT:=by
 intro G H x y wx wy w Q s px py hf h;unfold ixT at hf;split at hf
 ·rename_i k fz sh ks ws hk;split at hf
  ·rename_i hc;obtain⟨b,rfl,kr⟩:=q63 hK s hk py;obtain⟨a,o,rfl,g,g1,g2⟩:=x74 s px kr hc;obtain⟨u,rfl,ru⟩:=g1 w hf;exact⟨a,u,rfl,g,h G u H (.refl s) ru⟩
  ·cases hf
 ·cases hf
section
variable{a b e k o:Expr}{es:List Expr}{da db:Den W}{dA:Den (List W)}{p tpos:Pos}{body:List Stmt}{s1:List S->SR}
theorem y4w(hK:NoTup X.K)(hu:X.A.units+150<cLine)(ha:DE Z X EE a da)(hb:DE Z X EE b db)(hm:behindInMarks .NotIn b=false:=by rfl):DT Z X EE (.Compare a [.NotIn] [b] pos) (dTest (dOp ninT da db)):=
 PT.mono (y5m (x70 (by omega) ha hb) hm) fun σ H Q h=>q51 (y4v hK) σ H _ (x0w h)
theorem y8e(hK:NoTup X.K)(hu:X.A.units+150<cLine)(ha:DE Z X EE a da)(hb:DE Z X EE b db)(hs:NoSl b:=by intro _ _;rfl):DE Z X EE (.Subscript a b pos) (dOp ixT da db):=
 PE.mono (y4o (by omega) ha hb hs) (q51 (y8d hK))
noncomputable def isDw:S->Bool
 |.dw _ _ _=>true
 |_=>false
theorem Rel.dw{e:List S}(r:Rel K Z G σ H e)(h:e[i]?=some (.dw sh ks ws)):∃a kvs kas,σ[i]?=some (some (.ref a))/\H a=some (.dT sh kvs kas)/\G a=none/\Z.H a=none/\kvs.map (·.1)=ks/\KeysG G ks kas/\Reps K G ws (kvs.map (·.2)):=by
 obtain⟨a,kvs,kas,h1,h2,h3,h4,h5,h6,h7⟩:=r.slot i _ h;refine⟨a,kvs,kas,?_,h2,h3,h4,h5,h6,h7⟩;cases q:σ[i]? with
 |none=>rw[q]at h1;cases h1
 |some z=>rw[q]at h1;rw[show z=some (V.ref a)from h1]
theorem Rel.setS{e:List S}(r:Rel K Z G σ H e){s:S}(hs:∀b ws,s≠.own b ws)(q:SlotOk K Z G H s (some v)):Rel K Z G (σ.set i (some v)) H (e.set i s):=by
 refine⟨r.sub,fun j t z=>?_,by simpa using r.len,fun j k b1 b2 w1 w2 c z1 z2 z3 z4=>?_,r.ent,r.ion,r.gen⟩
 ·by_cases hj:j=i
  ·subst hj
   have hi:j<e.length:=by
    have:=(w0b.mp z).1;simpa using this
   rw[w0l hi]at z;cases z;rw[w0l (by rw[<- r.len];exact hi)];exact q
  ·rw[w0m (fun z=>hj z.symm)]at z |-
   exact r.slot j t z
 ·have old:∀(k:Nat)(bb:Option Nat)(ww:List W),(e.set i s)[k]?=some (.own bb ww)->k≠i/\e[k]?=some (.own bb ww):=fun k bb ww z=>by
   by_cases hk:k=i
   ·subst hk
    have hi:k<e.length:=by
     have:=(w0b.mp z).1;simpa using this
    rw[w0l hi]at z;cases z;exact absurd rfl (hs _ _)
   ·rw[w0m (fun z=>hk z.symm)]at z;exact⟨hk,z⟩
  obtain⟨n1,q1⟩:=old _ _ _ z1;obtain⟨n2,q2⟩:=old _ _ _ z2;rw[w0m (fun z=>n1 z.symm)]at z3
  rw[w0m (fun z=>n2 z.symm)]at z4
  exact r.dis _ _ _ _ _ _ _ q1 q2 z3 z4
theorem Rel.mutDw{e:List S}(r:Rel K Z G σ H e){ks':List Kx}{ws':List W}{a:Addr}{kvs':List (Kx×V)}{kas':List Addr}(h:e[i]?=some (.dw sh ks ws))(ha:σ[i]?=some (some (.ref a)))(ho:∀s∈e.set i .no,isDw s=false)
  (h5:kvs'.map (·.1)=ks')(h6:KeysG G ks' kas')(h7:Reps K G ws' (kvs'.map (·.2))):Rel K Z G σ (upd H a (.dT sh kvs' kas')) (e.set i (.dw sh ks' ws')):=by
 obtain⟨a',kvs,kas,h1,h2,h3,h4,_⟩:=r.dw h;rw[ha]at h1;cases h1;have hi:i<e.length:=(w0b.mp h).1;refine⟨fun c o z=>?_,fun j s z=>?_,by simpa using r.len,fun j k b1 b2 w1 w2 c z1 z2 z3 z4=>?_,fun c o z n=>?_,fun c z=>?_,r.gen⟩
 ·rw[q0e (q0q z h3)];exact r.sub c o z
 ·by_cases hj:j=i
  ·subst hj;rw[w0l hi]at z;cases z;exact⟨a,kvs',kas',by rw[ha];rfl,q0h,h3,h4,h5,h6,h7⟩
  ·rw[w0m (fun z=>hj z.symm)]at z
   have y:=r.slot j s z;cases s with
   |no=>trivial
   |fr w=>exact y
   |own b2 w2=>
    obtain⟨c,ys,y1,y2,y3,y4,y5⟩:=y;refine⟨c,ys,y1,?_,y3,y4,y5⟩;rw[q0e (q03 y2 h2 (fun z=>nomatch z))];exact y2
   |dic kv=>
    obtain⟨c,y1,y2,y3,y4⟩:=y;refine⟨c,y1,?_,y3,y4⟩;rw[q0e (q03 y2 h2 (by cases kv;exact fun z=>nomatch z))];exact y2
   |thr us w2 vs=>
    obtain⟨t,l,o,xs2,ys,zs,y1,y2,y3,y4,y5,y6⟩:=y;refine⟨t,l,o,xs2,ys,zs,y1,y2,?_,y4,y5,y6⟩;rw[q0e (q03 y3 h2 (fun z=>nomatch z))];exact y3
   |nest wss=>exact NestOk.move y (.refl _) fun l o ys k1 k2 k3=>⟨by rw[q0e (q03 k1 h2 (fun z=>nomatch z))];exact k1,k2,k3⟩
   |x k=>exact XOk.move y (.refl _) fun l o ys k1 k2 k3=>⟨by rw[q0e (q03 k1 h2 (fun z=>nomatch z))];exact k1,k2,k3⟩
   |dw _ _ _=>
    have:=ho _ (w0v (i:=j) (by rw[w0m (fun z=>hj z.symm)];exact z))
    cases this
 ·have old:∀(k:Nat)(bb:Option Nat)(ww:List W),(e.set i (S.dw sh ks' ws'))[k]?=some (.own bb ww)->e[k]?=some (.own bb ww):=fun k bb ww z=>by
   by_cases hk:k=i
   ·subst hk;rw[w0l hi]at z;cases z
   ·rw[w0m (fun z=>hk z.symm)]at z;exact z
  exact r.dis _ _ _ _ _ _ _ (old _ _ _ z1) (old _ _ _ z2) z3 z4
 ·rw[q0e (q0q z h4)];exact r.ent c o z n
 ·by_cases hc:c=a
  ·subst hc;rw[q0h];exact fun z=>nomatch z
  ·rw[q0e hc];exact r.ion c z
noncomputable def putWC(i:Nat)(w kw:W)(e:List S):Option S->SR
 |some (.dw sh ks ws)=>match keyT kw with
  |some x=>if ks.length<16777216/\(e.set i .no).all (fun s=>!isDw s)=true/\fits x sh/\lkW ks ws x=none then .nx (e.set i (.dw sh (ks++[x]) (ws++[w])))else .no
  |none=>.no
 |_=>.no
noncomputable def putW0(i:Nat)(dk:Den W)(w:W)(e1:List S):Option S->SR
 |some (.dw _ _ _)=>(dk e1).stm fun kw e2=>putWC i w kw e2 e2[i]?
 |_=>.no
noncomputable def dPutW(i:Nat)(d dk:Den W):List S->SR:=fun e=>(d e).stm fun w e1=>putW0 i dk w e1 e1[i]?
theorem y4x(i:Nat)(hK:NoTup X.K)(hu:X.A.units+150<cLine)(he:DE Z X EE e d)(hk:DE Z X EE k dk)(hN:X.N[i]?=some x:=by rfl)(hv:Vis X.env.scope x:=by walk_at "1")(hd:(x==("__debug__":Str))=false:=by decide)(hcd:(x==("__classdict__":Str))=false:=by decide)
  (hs:swapsWith e (some (.Subscript (.Name x p) k tpos)) pos.line X.env=pure false:=by rfl):DS Z X EE (.Assign [.Subscript (.Name x p) k tpos] e pos) (dPutW i d dk):=by
 refine PS.mono (y4p (by omega) (pv i hN hv hd hcd) hk he hs) ?_;rintro D σ H ⟨G,e,rel,h⟩;refine⟨G,e,rel,(q04 h).imp (fun w e1 h G1 v1 H1 r1 s1 p1=>?_) fun _ _ h=>h⟩
 unfold putW0 at h;split at h
 ·rename_i sh0 ks0 ws0 he0;obtain⟨a,kvs0,kas0,q1,q2,_⟩:=r1.dw he0;refine⟨.ref a,q1,G1,e1,r1,(q04 (σ:=σ) h).imp (fun kw e2 h G2 v2 H2 r2 s2 p2=>?_) fun _ _ h G' H' r s=>h G' H' r (s1.trans s)⟩
  unfold putWC at h;split at h
  ·rename_i sh ks ws he2;obtain⟨a',kvs,kas,g1,g2,g3,g4,g5,g6,g7⟩:=r2.dw he2;rw[q1]at g1;cases g1;split at h
   ·rename_i t hk1;split at h
    ·rename_i hc;obtain⟨b,rfl,kr⟩:=q63 hK (.refl G2) hk1 p2;have krH:KRep H2 t (.ref b):=KRep.keeps (fun _ _ _ z=>r2.sub _ _ z) t kr
     subst g5;have hnew:valV kvs t=none:=(x2y g7).2 hc.2.2.2;refine⟨a,_,rfl,DPut.t g2 ⟨krH,hc.2.2.1⟩ (by rw[sizeLine_eq];have:=hc.1;rw[w0a]at this;exact this),?_⟩;rw[y0t v1 hnew,show putAd kvs kas t b=kas++[b] by unfold putAd;rw[hnew];rfl];refine h G2 σ _ (r2.mutDw (ks':=kvs.map (·.1)++[t]) (ws':=ws++[w]) he2 q1 (fun s hs=>?_) (by rw[w0i];rfl) (KeysG.snoc kr g6) ?_) (s1.trans s2)
     ·have:=w1e.mp hc.2.1 s hs;simpa using this
     ·rw[w0i];exact g7.append (.one (Rep.mono s2 w p1))
    ·exact h.elim
   ·exact h.elim
  ·exact h.elim
 ·exact h.elim
end
section
variable{kw dflt:W}{x:Kx}
theorem y4y:dPutW i d dk e=(d e).stm fun w e1=>putW0 i dk w e1 e1[i]?:=rfl
theorem y4z:putW0 i dk w e (some (.dw sh ks ws))=(dk e).stm fun kw e2=>putWC i w kw e2 e2[i]?:=rfl
theorem y40(hk:keyT kw=some x)(h1:ks.length<16777216)(h2:(e.set i .no).all (fun s=>!isDw s)=true)(h3:fits x sh)(h4:lkW ks ws x=none):putWC i w kw e (some (.dw sh ks ws))=.nx (e.set i (.dw sh (ks++[x]) (ws++[w]))):=by
 show(match keyT kw with|some x=>_|none=>_)=_;rw[hk];exact if_pos ⟨h1,h2,h3,h4⟩
theorem y8f(hk:keyT w=some x)(hc:fits x sh):ninT w (.dw fz sh ks ws)=some (.bl (!(lkW ks ws x).isSome)):=by
 unfold ninT;rw[hk];exact if_pos hc
theorem y16(hk:keyT w=some x)(hc:fits x sh):ixT (.dw fz sh ks ws) w=lkW ks ws x:=by
 unfold ixT;rw[hk];exact if_pos hc
theorem y41:hide1 (.dw sh ks ws)=.fr (.dw false sh ks ws):=rfl
end
noncomputable def tupAt(K:PySem.W.Frag)(a:Addr):Bool:=match K.lookup a with
 |some o=>(match o.cls with
  |.type n=>n=="tuple"
  |_=>false)
 |none=>false
noncomputable def dropT(K:PySem.W.Frag):PySem.W.Frag:=K.filter fun p=>!tupAt K p.1
theorem q5g{q:Addr->Bool}:∀{K:PySem.W.Frag}{o:Obj},(K.filter fun p=>q p.1).lookup a=some o->K.lookup a=some o/\q a=true
 |[],_,h=>by cases h
 |(b,u)::K,o,h=>by
  by_cases hq:q b=true
  ·rw[w2s (p:=fun p:Addr×Obj=>q p.1) (a:=(b,u)) hq]at h
   by_cases e:a=b
   ·subst e;rw[show List.lookup a ((a,u)::(K.filter fun p=>q p.1))=some u by simp[List.lookup]]at h
    refine⟨?_,hq⟩;rw[<- h];simp[List.lookup]
   ·rw[show List.lookup a ((b,u)::(K.filter fun p=>q p.1))=List.lookup a (K.filter fun p=>q p.1) by simp only[List.lookup];rw[beq_eq_false_iff_ne.mpr e]]at h
    obtain⟨h1,h2⟩:=q5g h;refine⟨?_,h2⟩;rw[<- h1];simp only[List.lookup];rw[beq_eq_false_iff_ne.mpr e]
  ·rw[w3m (p:=fun p:Addr×Obj=>q p.1) (a:=(b,u)) hq]at h
   obtain⟨h1,h2⟩:=q5g h;have e:a≠b:=fun z=>hq (by rw[<- z];exact h2)
   refine⟨?_,h2⟩;rw[<- h1];simp only[List.lookup];rw[beq_eq_false_iff_ne.mpr e]
theorem y0x{h:Heap}(X:K.In h):(dropT K).In h:=fun a o e=>X a o (q5g (q:=fun a=>!tupAt K a) e).1
theorem y0y:NoTup (dropT K):=fun a o e z=>by
 obtain⟨h1,h2⟩:=q5g (q:=fun a=>!tupAt K a) e
 unfold tupAt at h2;rw[h1]at h2;simp[z]at h2
theorem q0i{o:Obj}(h:K.lookup a=some o)(t:tupAt K a=false):(dropT K).lookup a=some o:=by
 have gen:∀(l:PySem.W.Frag)(q:Addr->Bool),q a=true->l.lookup a=some o->(l.filter fun p=>q p.1).lookup a=some o:=by
  intro l q hq
  induction l with
  |nil=>intro h;cases h
  |cons p l ih=>
   obtain⟨b,u⟩:=p;intro h
   by_cases e:a=b
   ·subst e;rw[w2s (p:=fun p:Addr×Obj=>q p.1) (a:=(a,u)) hq]
    rw[show List.lookup a ((a,u)::l)=some u by simp[List.lookup]]at h;rw[<- h];simp[List.lookup]
   ·rw[show List.lookup a ((b,u)::l)=List.lookup a l by simp only[List.lookup];rw[beq_eq_false_iff_ne.mpr e]]at h
    by_cases hb:q b=true
    ·rw[w2s (p:=fun p:Addr×Obj=>q p.1) (a:=(b,u)) hb,<- ih h]
     simp only[List.lookup];rw[beq_eq_false_iff_ne.mpr e]
    ·rw[w3m (p:=fun p:Addr×Obj=>q p.1) (a:=(b,u)) hb]
     exact ih h
 exact gen K (fun a=>!tupAt K a) (by rw[t];rfl) h
theorem q0g{r:Option Value}(h:PySem.W.nsIn K a x=some r)(t:tupAt K a=false):PySem.W.nsIn (dropT K) a x=some r:=by
 unfold PySem.W.nsIn at h |-
 cases q:K.lookup a with
 |none=>rw[q]at h;cases h
 |some o=>rw[q0i q t];rw[q]at h;exact h
noncomputable def tupAtV(K:PySem.W.Frag):Value->Bool
 |.ref a=>tupAt K a
 |_=>false
theorem q0o{cd:Value}(h:PySem.W.codeIn K cd x=true)(t:tupAtV K cd=false):PySem.W.codeIn (dropT K) cd x=true:=by
 cases cd with
 |ref a=>
  unfold PySem.W.codeIn at h |-
  dsimp only at h |-
  cases q:K.lookup a with
  |none=>rw[q]at h;cases h
  |some o=>rw[q0i q t];rw[q]at h;exact h
 |_=>cases h
noncomputable def funAt(K:PySem.W.Frag)(a:Addr):Bool:=!tupAt K a&&(match K.lookup a with
 |some ⟨_,_,.func _,_⟩=>true
 |_=>false)
noncomputable def lk{κ:Type} [DecidableEq κ](kvs:List (κ×Sv))(x:κ):Option Sv:=(kvs.find? fun p=>decide (p.1=x)).map (·.2)
theorem hu1{n:Nat}(h:n+150<cLine):n+20<cLine:=w4h (Nat.add_le_add_left (by decide:20<=150) _) h
section
variable{kw:W}{kvs:List (Key×Sv)}
theorem y0z{dd:Dd}:hide1 (.dic dd)=.fr (.dic dd):=rfl
end
end D
namespace L2
open PySem PySem.Spec PyProof.Rows
theorem x75{P:Program}{w:World}{K:PySem.W.Frag}{mg mb:Str->Option Value}{CX:CXT}{k:Nat}{fa a:Addr}{fd:FuncData}{x:Str}{sp:Sp}{s₁:Shared}{vs:List Value}{ns:List Int}{tabs:List (Addr×Str)}
  (KX:K.In s₁.heap)(hns:s₁.heap.Ns mainGlobals mg)(hb:s₁.heap.Ns builtinsNs mb)(hbb:∀x:Str,x≠"__name__"->mb x=bootBuiltins x)(hlim:s₁.heap.NoLimit)(hg:s₁.gens=#[])
  (ha:s₁.heap.get? a=some {cls:=.type "list", data:=.seq vs.toArray})(hi:IntsAre vs ns)(hl:ns.length<=sizeLine)(hr:Room k callerA)
  (F:∀base:Heap,K.In base->base.Ns mainGlobals mg->BMain base mg->FnOk P w K mg base CX k fa fd [x] sp)(hbind:∀(s:Shared)(u:Value),BindsTo s fd ⟨[u],[]⟩ [(x,u)])
  (hsp:∀H:Hp,SqL K H a (ns.map V.int)->sp [.ref a] H (fun v _=>v=.bl true) fun _ _ _=>False)
  (hCX:∀H e s',CX [] H s₁ (fun _ _ _=>False) e s'->False)
  (hBM:BMain s₁.heap mg)(hM:∀a q P,(a,markO P q)∈K->tabs.lookup P=some q)(hT:∀P q,tabs.lookup P=some q->s₁.heap.get? P=some (tabObj #[])/\isCodeTable s₁.heap P)(hKT:∀P q,tabs.lookup P=some q->K.lookup P=none):
  codeAny (model P w) callerA (.call (.ref fa) ⟨[.ref a],[]⟩) (fun r s'=>r=.ok (.ret (.bool true))/\OldK s₁.heap s'.heap/\s'.os=s₁.os/\AllBare s'.gens) s₁:=by
 have rv:=q7e hi;have lenV:=hi.length
 have aT:tabs.lookup a=none:=by
  cases q:tabs.lookup a with
  |none=>rfl
  |some t=>rw[(hT a t q).1]at ha;cases ha
 have core:∀H0:Hp,(∀b,H0 b=none\/∃o xs,H0 b=some (.frz o (.lst xs)))->SqL K H0 a (ns.map V.int)->HOk P w H0 s₁.heap->(∀b,H0 b≠none->b=a)->(H0 a≠none->K.lookup a=none) ->
   codeAny (model P w) callerA (.call (.ref fa) ⟨[.ref a],[]⟩) (fun r s'=>r=.ok (.ret (.bool true))/\OldK s₁.heap s'.heap/\s'.os=s₁.os/\AllBare s'.gens) s₁:=by
  intro H0 hO hS0 hok0 hA hK;obtain⟨H,hH⟩:∃H:Hp,H=fun b=>match tabs.lookup b with|some q=>some (.tbl #[.bool true,.str q 0])|none=>H0 b:=⟨_,rfl⟩
  have inT:∀b q,tabs.lookup b=some q->H b=some (.tbl #[.bool true,.str q 0]):=fun b q z=>by rw[hH];simp only[z]
  have outT:∀b,tabs.lookup b=none->H b=H0 b:=fun b z=>by rw[hH];simp only[z]
  have up:∀b u,H0 b=some u->H b=some u:=fun b u z=>by
   have:b=a:=hA b (by rw[z];simp);subst this;rw[outT b aT];exact z
  have hS:SqL K H a (ns.map V.int):=by
   rcases hS0 with(z|⟨o,z⟩)|z
   ·exact .inl (.inl (up _ _ z))
   ·exact .inl (.inr ⟨o,up _ _ z⟩)
   ·exact .inr z
  have hok:HOk P w H s₁.heap:=fun b u z=>by
   cases q:tabs.lookup b with
   |some t=>
    rw[inT b t q]at z;cases z;exact .inl ⟨t,#[],rfl,rfl,(hT b t q).1,trivial,fun pos cv z=>by cases z⟩
   |none=>
    rw[outT b q]at z;exact(hok0 b u z).stay (fun c v _ q=>q) (fun c q=>up c _ q) fun c v _ q=>up c v q
  have base_of:∀{b:Addr}{o:Obj},s₁.heap.get? b=some o->H b=none->(hidT s₁.heap H).get? b=some o:=fun e n=>x11 e n
  have free:∀{b:Addr}{o:Obj},s₁.heap.get? b=some o->o≠{cls:=.type "list", data:=.seq vs.toArray}->o≠tabObj #[]->H b=none:=fun {b o} e d1 d2=>by
   cases q:tabs.lookup b with
   |some t=>rw[(hT b t q).1]at e;cases e;exact absurd rfl d2
   |none=>
    rw[outT b q];cases q0:H0 b with
    |none=>rfl
    |some u=>
     have e':b=a:=hA b (by rw[q0];simp);subst e';rw[ha]at e;cases e;exact absurd rfl d1
  have nsK:∀{b:Addr}{m:Str->Option Value},s₁.heap.Ns b m->(hidT s₁.heap H).Ns b m:=fun {b m} ⟨o,es,ep,e,d,r⟩=>⟨o,es,ep,base_of e (free e (fun z=>by rw[z]at d;cases d) fun z=>by rw[z]at d;cases d),d,r⟩
  have hKb:K.In (hidT s₁.heap H):=fun b o e=>base_of (KX b o e) (by
   cases q:tabs.lookup b with
   |some t=>rw[hKT b t q]at e;cases e
   |none=>
    rw[outT b q];cases q0:H0 b with
    |none=>rfl
    |some u=>
     have e':b=a:=hA b (by rw[q0];simp);subst e';rw[hK (by rw[q0];simp)]at e;cases e)
  have hBb:BMain (hidT s₁.heap H) mg:=by
   obtain⟨bm,ob,b1,b2,b3,b4,b5,b6⟩:=hBM;exact⟨bm,ob,b1,b2,base_of b3 (free b3 (fun z=>by rw[z]at b4;simp at b4) fun z=>by rw[z]at b4;cases b4),b4,b5,b6⟩
  have hMd:Mod K mg (hidT s₁.heap H):=⟨hKb,nsK hns,⟨mb,nsK hb,hbb⟩,let ⟨mc,h1,h2⟩:=hlim;⟨mc,nsK h1,h2⟩⟩;have e0:Env0 P w K mg (hidT s₁.heap H) callerA [] s₁ H:=⟨rfl,hMd,fun b o e=>x30 e,Nat.le_of_eq (x0n _ _),trivial,fun b hb=>absurd (show b∈([]:List Addr)from hb) (by simp),hok,.of_eq hg,fun a q P m=>⟨_,inT P q (hM a q P m),rfl,rfl⟩⟩
  refine codeAny_mono ((F _ hKb (nsK hns) hBb).run callerA [] s₁ H ⟨[.ref a],[]⟩ [.ref a] [.ref a] _ _ hr e0 (hbind s₁ (.ref a)) (.cons rfl .nil) (hsp H hS)) fun r s' h=>?_
  cases r with
  |error e=>exact(hCX H e s' h).elim
  |ok fl=>
   cases fl with
   |next=>exact False.elim h
   |brk=>exact False.elim h
   |cont=>exact False.elim h
   |ret u=>
    obtain⟨v,H',os,bare,un,hok',r',q⟩:=h;have q':v=.bl true:=q;subst q';obtain rfl:u=Value.bool true:=r'
    have kp:∀b o,tabs.lookup b=none->s₁.heap.get? b=some o->s'.heap.get? b=some o:=fun b o z e=>by
     cases q:H b with
     |none=>exact un.keep b o e q (by intro z;exact absurd (show b∈([]:List Addr)from z) (by simp)) (by simp)
     |some u=>
      have q0:=q;rw[outT b z]at q0;rcases hO b with z|⟨ob,xs,z⟩
      ·rw[q0]at z;cases z
      ·rw[q0]at z;cases z;have z2:=un.frzs b ob _ q;obtain⟨e1,_⟩:=(show s₁.heap.get? b=some ob/\_ from hok b _ q);obtain⟨e2,_⟩:=(show s'.heap.get? b=some ob/\_ from hok' b _ z2);rw[e]at e1;cases e1;exact e2
    have gr:∀b t,tabs.lookup b=some t->∃qs,s'.heap.get? b=some (tabObj qs):=fun b t z=>by
     obtain⟨more,e⟩:=un.tbls b _ (inT b t z);have o1:ObjOk P w H' s'.heap b (.tbl (#[.bool true,.str t 0]++more)):=hok' b _ e;rcases o1 with⟨_,qs,_,_,g,_⟩|⟨_,_,_,_,_,_,p0,_⟩
     ·exact⟨qs,g⟩
     ·rw[w1r (by simp)]at p0;cases p0
    refine⟨rfl,⟨fun b o e=>?_,fun b o e=>?_⟩,os,bare⟩
    ·cases z:tabs.lookup b with
     |none=>exact .inl (kp b o z e)
     |some t=>
      obtain⟨qs,g⟩:=gr b t z;obtain⟨g1,g2⟩:=hT b t z;rw[e]at g1;cases g1;exact .inr (.inl ⟨g2,rfl,#[],qs,rfl,by rw[Array.empty_append];exact g⟩)
    ·cases z:tabs.lookup b with
     |none=>exact⟨o,kp b o z e⟩
     |some t=>
      obtain⟨qs,g⟩:=gr b t z;exact⟨_,g⟩
 cases hk:K.lookup a with
 |some o=>
  have e:=KX a o hk;rw[ha]at e;cases e;refine core (fun _=>none) (fun _=>.inl rfl) (.inr ⟨_,vs.toArray,_,hk,rfl,rfl,rfl,by rw[w0c,lenV];exact hl,by simpa using rv⟩) (fun b u z=>by have z':(none:Option HO)=some u:=z;cases z') (fun b z=>absurd rfl z) fun z=>absurd rfl z
 |none=>
  refine core (fun b=>if b=a then some (.frz {cls:=.type "list", data:=.seq vs.toArray} (.lst (ns.map V.int)))else none) (fun b=>?_) (.inl (.inr ⟨{cls:=.type "list", data:=.seq vs.toArray},if_pos rfl⟩)) (fun b u z=>?_) (fun b z=>?_) fun _=>hk
  ·by_cases hb:b=a
   ·exact .inr ⟨_,_,if_pos hb⟩
   ·exact .inl (if_neg hb)
  ·by_cases hb:b=a
   ·have z':=(if_pos hb).symm.trans z;cases z';subst hb;exact⟨ha,by rw[w0a];exact hl,vs,_,rv,ha⟩
   ·have z':=(if_neg hb).symm.trans z;cases z'
  ·by_cases hb:b=a
   ·exact hb
   ·exact absurd (if_neg hb) z
theorem y00{l:PySem.W.OpenLaw}{n k:Nat}{q:Program}{loose:List Str}{XP:(Str->Option Value)->Heap->Prop}{YP:World->Heap->Prop}{d:DefRec}{K:Params->PySem.W.Frag}{CX:World->CXT}{sp:World->Sp}{x:Str}{tabs:List (Addr×Str)}
  (hn:l.most=some n)(hn2:n<=sizeLine)(hdf:d.params.defaults=[])(hr:Room k callerA)
  (hY:∀(w:World)(h:Heap),YP w h->(K w.params).In h)
  (F:∀(w:World)(mg:Str->Option Value)(fa:Addr)(h:Heap),(K w.params).In h->h.Ns mainGlobals mg->mg d.name=some (.ref fa) ->
   ∃fd:FuncData,(∀(s:Shared)(u:Value),BindsTo s fd ⟨[u],[]⟩ [(x,u)]) /\
    ∀base:Heap,(K w.params).In base->base.Ns mainGlobals mg->BMain base mg->FnOk l.prog w (K w.params) mg base (CX w) k fa fd [x] (sp w))
  (hsp:∀(w:World)(H:Hp)(a:Addr)(ns:List Int),ns.length<=n->SqL (K w.params) H a (ns.map V.int)->sp w [.ref a] H (fun v _=>v=.bl true) fun _ _ _=>False)
  (hCX:∀(w:World)(H:Hp)(s:Shared)(e:Value)(s':Shared),CX w [] H s (fun _ _ _=>False) e s'->False)
  (hM:∀(w:World) a q P,(a,markO P q)∈K w.params->tabs.lookup P=some q)(hT:∀(w:World)(h:Heap),YP w h->∀P q,tabs.lookup P=some q->h.get? P=some (tabObj #[])/\isCodeTable h P)(hKT:∀(w:World) P q,tabs.lookup P=some q->(K w.params).lookup P=none):
  PySem.W.WalkO q loose XP YP l.row.toRowW d [] (fun f vs=>PySem.call f vs):=by
 refine Att.attach_call hn hdf fun w s₀ s₁ mg mb fa o pm cd doc a vs ns G Y ho hd hcd hmg hobj hints hlen hg=>?_
 have KX:=hY w _ Y;obtain⟨fd,hb,hF⟩:=F w mg fa _ KX G.T.g hmg;exact x75 KX G.T.g G.T.b G.T.builtins G.T.nolimit hg hobj hints (w0w hlen hn2) hr hF hb (fun H hS=>hsp w H a ns hlen hS) (fun H e s'=>hCX w H s₁ e s') G.T.bmain (hM w) (hT w _ Y) (hKT w)
end L2
namespace D
open PySem L2
variable{X:Cx}{dA:Den (List W)}{e:Expr}{G H:Hp}{EE:L2.St->XK}{es:List Expr}{N ps:List Str}{F:List W->FR}{k:Nat}{p pos:Pos}{K:PySem.W.Frag}{x:Str}{Z:Zt}
mutual
noncomputable def noFn:W->Bool
 |.tup ws=>noFns ws
 |.lst ws=>noFns ws
 |.dw _ _ _ ws=>noFns ws
 |.fn _ _ _=>false
 |.non=>true
 |.bl _=>true
 |.int _=>true
 |.str _=>true
 |.exc _=>true
 |.dic _=>true
noncomputable def noFns:List W->Bool
 |[]=>true
 |w::ws=>noFn w&&noFns ws
end
section
variable{cs:Cs}
theorem Rd.rm{a:Addr}{u:HO}(c:CelsIn G cs)(h:Rd G a u)(n:∀o,u≠celO o)(n2:∀φ,u≠.ext φ):Rd (rmC G cs) a u:=by
 rcases h with h|⟨o,h⟩
 ·exact .inl (c.rm_some h n)
 ·exact .inr ⟨o,c.rm_some h fun o' z=>by cases z;exact n2 _ rfl⟩
theorem KeysG.rm(c:CelsIn G cs):∀{ks:List Kx}{bs:List Addr},KeysG G ks bs->KeysG (rmC G cs) ks bs
 |[],[],_=>trivial
 |k::ks,b::bs,h=>⟨KRep.keeps (fun _ _ t z=>c.rm_some z (q8b t)) k h.1,KeysG.rm c h.2⟩
 |[],_::_,h=>h.elim
 |_::_,[],h=>h.elim
mutual
theorem Rep.rm(c:CelsIn G cs):∀(w:W){v:V},noFn w=true->Rep K G w v->Rep K (rmC G cs) w v
 |.non,v,_,h=>h
 |.bl b,v,_,h=>h
 |.int i,v,_,h=>h
 |.str x,v,_,h=>h
 |.tup ws,v,n,h=>by
  obtain⟨a,xs,rfl,q,r⟩:=h;refine⟨a,xs,rfl,?_,Reps.rm c ws n r⟩;rcases q with q|q
  ·exact .inl (Rd.rm c q (fun o z=>nomatch z) fun φ z=>nomatch z)
  ·exact .inr q
 |.lst ws,v,n,h=>by
  obtain⟨a,xs,rfl,q,r⟩:=h;refine⟨a,xs,rfl,?_,Reps.rm c ws n r⟩;rcases q with q|q
  ·exact .inl (Rd.rm c q (fun o z=>nomatch z) fun φ z=>nomatch z)
  ·exact .inr q
 |.exc e,v,_,h=>by
  obtain⟨a,rfl,q⟩:=h;exact⟨a,rfl,c.rm_some q fun o z=>by unfold excO at z;cases z⟩
 |.dic kvs,v,_,h=>by
  obtain⟨a,rfl,q⟩:=h;exact⟨a,rfl,c.rm_some q fun o z=>by cases kvs;cases z⟩
 |.dw fz sh ks ws,v,n,h=>by
  obtain⟨a,kvs,kas,rfl,h1,h2,h3,h4⟩:=h;refine⟨a,kvs,kas,rfl,?_,h2,KeysG.rm c h3,Reps.rm c ws n h4⟩;cases fz with
  |true=>obtain⟨o,h1⟩:=h1;exact⟨o,c.rm_some h1 fun o z=>nomatch z⟩
  |false=>exact c.rm_some h1 fun o z=>nomatch z
 |.fn _ _ _,v,n,_=>by cases n
theorem Reps.rm(c:CelsIn G cs):∀(ws:List W){xs:List V},noFns ws=true->Reps K G ws xs->Reps K (rmC G cs) ws xs
 |[],xs,_,h=>h
 |w::ws,xs,n,h=>by
  obtain⟨x,r,rfl,h1,h2⟩:=h
  have n':noFn w=true/\noFns ws=true:=by
   have:(noFn w&&noFns ws)=true:=n
   rwa [w1g]at this
  exact⟨x,r,rfl,Rep.rm c w n'.1 h1,Reps.rm c ws n'.2 h2⟩
end
end
section
variable{G' H':Hp}{cs:Cs}
theorem x2z(h:∀b o,cs.lookup b=some o->H b=none):Same H (addC H cs):=fun b u e=>by
 cases q:cs.lookup b with
 |some o=>rw[h b o q]at e;cases e
 |none=>rw[q0w q];exact e
theorem x07(h:Same G H):Same (addC G cs) (addC H cs):=fun b u e=>by
 cases q:cs.lookup b with
 |some o=>rw[q2o q]at e |-;exact e
 |none=>rw[q0w q]at e |-;exact h b u e
theorem x20(h:Same G H):Same (rmC G cs) (rmC H cs):=fun b u e=>by
 obtain⟨e1,e2⟩:=x41 e;rw[q1g e2];exact h b u e1
theorem Grow.lam(ch:CelsIn H cs)(cg:CelsIn G cs)(e1:Same (rmC H cs) H')(e2:Same (rmC G cs) G')(e3:Same G' H')(e4:∀a,rmC H cs a≠none->G' a=rmC G cs a):Grow G H (addC G' cs) (addC H' cs) where
 hh:=fun b u e=>by
  cases q:cs.lookup b with
  |some o=>rw[q2o q];rw[ch b o q]at e;exact e
  |none=>rw[q0w q];exact e1 b u (by rw[q1g q];exact e)
 gg:=fun b u e=>by
  cases q:cs.lookup b with
  |some o=>rw[q2o q];rw[cg b o q]at e;exact e
  |none=>rw[q0w q];exact e2 b u (by rw[q1g q];exact e)
 sub:=x07 e3
 new:=fun a ha=>by
  cases q:cs.lookup a with
  |some o=>rw[q2o q,cg a o q]
  |none=>
   rw[q0w q,e4 a (by rw[q1g q];exact ha),q1g q]
theorem Grow.nocells(g:Grow (addC G cs) (addC H cs) G' H')(hn:∀b o,cs.lookup b=some o->H b=none)(sg:Same G H):Grow G H (rmC G' cs) (rmC H' cs) where
 hh:=fun b u e=>by
  cases q:cs.lookup b with
  |some o=>rw[hn b o q]at e;cases e
  |none=>rw[q1g q];exact g.hh b u (by rw[q0w q];exact e)
 gg:=fun b u e=>by
  cases q:cs.lookup b with
  |some o=>have:=sg b u e;rw[hn b o q]at this;cases this
  |none=>rw[q1g q];exact g.gg b u (by rw[q0w q];exact e)
 sub:=x20 g.sub
 new:=fun a ha=>by
  cases q:cs.lookup a with
  |some o=>exact absurd (hn a o q) ha
  |none=>rw[q1g q,g.new a (by rw[q0w q];exact ha),q0w q]
end
noncomputable def exprFR:R W->FR
 |.ok w _=>.ok (.fr w)
 |.ex c _=>.ex c
 |.no=>.no
structure LamOk(P:Program)(w:World)(K:PySem.W.Frag)(mg:Str->Option Value)(base:Heap)(n:Nat)(l:Lm)(ps:List Str)(F:List W->FR):Prop where
 sc:LamScope ps l.nf l.scope
 bind:∀(cl:List (Str×Addr))(pm:Value)(c':Addr)(ctv:Value)(us:List Value),us.length=ps.length->bindArgs (kla_fn "<lambda>" l.qual l.params l.body l.scope cl pm (.ref c') ctv) ⟨us,[]⟩=pure (ps.zip us)
 len:∀ws,F ws≠.no->ws.length=ps.length+l.nf.length
 body:∀ws,F ws≠.no->∀(Z:Zt)(f:Addr)(cd:Value)(cl:List (Str×Addr))(A:Around)(outer:List Env)(s:Shared)(H:Hp),Room n (A.deeper (lamEnv l.qual l.scope f cd cl s)) ->
  ∃d,DE Z (cxLam P w K mg base (ps++l.nf) l.qual l.scope f cd cl A outer s H) (fun _=>E0) l.body d/\exprFR (d (ws.map .fr))=F ws
section
variable{lams:Nat->Option Lm}{r:Nat->List W->FR}
open Classical in
noncomputable def callVK(lams:Nat->Option Lm)(r:Nat->List W->FR)(j:Nat)(l:Lm)(caps:List W)(ws:List W)(e1:List S):R W:=
 if lams j=some l/\noFns ws=true/\noFns caps=true then(match r j (ws++caps)with
  |.ok (.fr w)=>.ok w e1
  |_=>.no)else .no
noncomputable def callV0(lams:Nat->Option Lm)(r:Nat->List W->FR)(dA:Den (List W))(e:List S):Option S->R W
 |some (.fr (.fn j l caps))=>(dA e).bind fun ws e1=>callVK lams r j l caps ws e1
 |_=>.no
end
noncomputable def capsOf:List Nat->List S->Option (List W)
 |[],_=>some []
 |j::js,e=>match e[j]? with
  |some (.fr w)=>(capsOf js e).map (w::·)
  |_=>none
theorem x08{σ:L2.St}{e:List S}(r:Rel K Z G σ H e):∀{js:List Nat}{caps:List W},capsOf js e=some caps->∃zs:List V,Reps K G caps zs/\zs.length=js.length/\∀(i j:Nat) z,js[i]?=some j->zs[i]?=some z->σ[j]?=some (some z)
 |[],caps,h=>by
  cases h;exact⟨[],rfl,rfl,fun i j z h _=>by simp at h⟩
 |j::js,caps,h=>by
  unfold capsOf at h;split at h
  ·rename_i w hw;obtain⟨cs,h1,rfl⟩:=w0f.mp h;obtain⟨zs,r1,r2,r3⟩:=x08 r h1;obtain⟨v,v1,v2⟩:=r.fr hw;refine⟨v::zs,⟨v,zs,rfl,v2,r1⟩,by simp[r2],fun i j' z g1 g2=>?_⟩
   cases i with
   |zero=>
    simp only[w0s,Option.some.injEq]at g1 g2;subst g1;subst g2;exact v1
   |succ i=>exact r3 i j' z (by simpa using g1) (by simpa using g2)
  ·cases h
noncomputable def lamRes(e1:List S):FR->R W
 |.ok (.fr w)=>if noFn w=true then .ok w e1 else .no
 |.ex c=>.ex c e1
 |_=>.no
noncomputable def lamCallK(F:List W->FR)(j:Nat)(l:Lm)(w:W)(e1:List S):Option (List W)->R W
 |some caps=>lamRes e1 (F [w,.fn j l caps])
 |none=>.no
noncomputable def dLamCall(F:List W->FR)(j:Nat)(l:Lm)(js:List Nat)(d:Den W):Den W:=fun e=>(d e).bind fun w e1=>lamCallK F j l w e1 (capsOf js e1)
noncomputable def noE:Expr:=.Name "" ⟨0,0,0,0⟩
noncomputable def stAt(i:Nat)(st:Stmt):Stmt:=(defBody st).getD i (.Pass ⟨0,0,0,0⟩)
noncomputable def stVal:Stmt->Expr
 |.Assign _ v _=>v
 |.Return (some v) _=>v
 |.For _ it _ _ _=>it
 |.Expr v _=>v
 |_=>noE
noncomputable def argAt(i:Nat):Expr->Expr
 |.Call _ as _ _=>as.getD i noE
 |_=>noE
noncomputable def lamParams:Expr->Arguments
 |.Lambda p _ _ _=>p
 |_=>default
noncomputable def lamBody:Expr->Expr
 |.Lambda _ b _ _=>b
 |_=>noE
noncomputable def lamScope:Expr->Scope
 |.Lambda _ _ s _=>s
 |_=>default
def MakK(K:PySem.W.Frag)(x:Str)(cdv:Value):Prop:=∃c P a,cdv=.ref c/\codeHdIn K c P=true/\(a,markO P ((x++".<locals>.")++"<lambda>"))∈K
section
variable{P:Program}{w:World}{mg:Str->Option Value}{base:Heap}
theorem y95{CX:CXT}{scope:Scope}{f:Addr}{cdv:Value}{A:Around}{outer:List Env}{s:Shared}{E:XK}(h:MakK K x cdv)(b:BMain base mg):Maker (cxOf CX P w K mg base N x scope f cdv A outer s H E):=by
 obtain⟨c,P,a,rfl,h1,h2⟩:=h;exact⟨⟨c,P,a,rfl,h1,h2⟩,b⟩
theorem conM{st:Stmt}(A:At K mg x st ps)(hm:∀f oc od fd sl,mg x=some (.ref f)->K.lookup f=some ⟨oc,od,.func fd,sl⟩->MakK K x fd.code)(sc:FnScope N ps (defScope st))(len:∀ws,F ws≠.no->ws.length=ps.length)
  (hb:∀ws,F ws≠.no->∀(f:Addr)(cdv:Value)(A:Around)(outer:List Env)(s:Shared)(H:Hp)(E:XK)(Z:Zt),Room k (A.deeper (PyProof.Rows.envOfC x (defScope st) s.heap.objs.size f cdv))->MakK K x cdv ->
   ∃d,DSs Z (cxOf (CX1 P w) P w K mg base N x (defScope st) f cdv A outer s H E) (fun _=>E) (defBody st) d/\(d (init N.length ws)).fn=F ws):Cal P w K mg base (k+1) x ps (spF K F):=by
 obtain⟨f,fd,F0,m,b⟩:=A.ex;have kp:=F0.kp;obtain⟨oc,od,kV,doc,pm,an,cdv,ct,osl,rfl,lk,hcd⟩:=F0.ex;have hk:MakK K x cdv:=hm f _ _ _ _ m lk;refine⟨f,_,y1s lk hcd sc (fun vs H Q E h=>?_) (fun A outer s H vs Q E hr h=>?_),m,kp,b⟩
 ·obtain⟨G,ws,hn,r⟩:=q7k h;rw[r.length];exact len ws hn
 ·obtain⟨G,ws,sg,rp,h⟩:=h;have hn:F ws≠.no:=fun z=>by rw[z]at h;exact h
  obtain⟨d,hd,he⟩:=hb ws hn f cdv A outer s H E ⟨H,G,[]⟩ hr hk;exact⟨_,hd,G,init N.length ws,q56 sg rp,q74 he h⟩
end
noncomputable def markT(K:PySem.W.Frag)(tabs:List (Addr×Str)):PySem.W.Frag:=K++tabs.map fun p=>(mainGlobals,markO p.1 p.2)
section
variable{tabs:List (Addr×Str)}{a:Addr}{o:Obj}
theorem q01(h:K.lookup a=some o):(markT K tabs).lookup a=some o:=by
 unfold markT;rw[w4j,h];rfl
theorem x0a(hG:(K.lookup mainGlobals).isSome=true):(markT K tabs).lookup a=K.lookup a:=by
 unfold markT;rw[w4j];cases q:K.lookup a with
 |some o=>rfl
 |none=>
  have ne:a≠mainGlobals:=fun z=>by rw[<- z,q]at hG;cases hG
  have:∀l:List (Addr×Str),(l.map fun p=>(mainGlobals,markO p.1 p.2)).lookup a=none:=fun l=>by
   induction l with
   |nil=>rfl
   |cons p l ih=>rw[w0u,w0t,beq_eq_false_iff_ne.mpr ne];exact ih
  rw[this];rfl
theorem in_m{h:Heap}(hG:(K.lookup mainGlobals).isSome=true)(X:K.In h):(markT K tabs).In h:=fun b u e=>X b u (by rw[<- x0a (tabs:=tabs) hG];exact e)
theorem no_m(hG:(K.lookup mainGlobals).isSome=true)(n:NoTup K):NoTup (markT K tabs):=fun b u e=>n b u (by rw[<- x0a (tabs:=tabs) hG];exact e)
theorem ns_m{r:Option Value}(h:PySem.W.nsIn K a x=some r):PySem.W.nsIn (markT K tabs) a x=some r:=by
 unfold PySem.W.nsIn at h |-
 cases q:K.lookup a with
 |none=>rw[q]at h;cases h
 |some o=>rw[q01 q];rw[q]at h;exact h
theorem q05{cd:Value}(h:PySem.W.codeIn K cd x=true):PySem.W.codeIn (markT K tabs) cd x=true:=by
 cases cd with
 |ref a=>
  unfold PySem.W.codeIn at h |-
  dsimp only at h |-
  cases q:K.lookup a with
  |none=>rw[q]at h;cases h
  |some o=>rw[q01 q];rw[q]at h;exact h
 |_=>cases h
theorem q06(t:funAt K a=true):keepIn (markT (dropT K) tabs) (.ref a)=true:=by
 have h:=t;unfold funAt at t
 rw[w1g]at t;obtain⟨t1,t2⟩:=t;have t1:tupAt K a=false:=by simpa using t1
 unfold keepIn;dsimp only;split at t2
 ·rename_i q;rw[q01 (q0i q t1)]
 ·cases t2
theorem x5u(h:noMark K=true)(hd:tabs.all (fun p=>tabs.lookup p.1==some p.2)=true):∀a q P,(a,markO P q)∈markT K tabs->tabs.lookup P=some q:=fun a q P m=>by
 rcases w1a.mp m with m|m
 ·have:=w1e.mp h _ m;cases this
 ·obtain⟨p,hp,e⟩:=w0n.mp m;have e1:markO p.1 p.2=markO P q:=(Prod.mk.inj e).2;have e2:p.2=q:=by injection e1 with h1;injection h1
  have e3:p.1=P:=by
   injection e1 with _ _ h3
   injection h3 with h4
   have:=congrArg (fun a:Array Value=>a[0]?) h4
   simpa using this
  have:=w1e.mp hd p hp;rw[<- e2,<- e3]
  simpa using this
theorem x3o(h:noMark K=true):noMark (dropT K)=true:=w1e.mpr fun p hp=>w1e.mp h p (w1w.mp hp).1
theorem tabs_none(hG:(K.lookup mainGlobals).isSome=true)(h:tabs.all (fun p=>(K.lookup p.1).isNone)=true):∀P q,tabs.lookup P=some q->(markT K tabs).lookup P=none:=fun P q e=>by
 rw[x0a hG];have:=w1e.mp h _ (mem_look e)
 simpa using this
where
 mem_look:∀{l:List (Addr×Str)}{P:Addr}{q:Str},l.lookup P=some q->(P,q)∈l
 |[],_,_,e=>by cases e
 |(b,t)::l,P,q,e=>by
  rw[w0t]at e
  by_cases hb:(P==b)=true
  ·rw[hb]at e;cases e;rw[eq_of_beq hb];exact .head _
  ·rw[w1s.mpr hb]at e;exact .tail _ (mem_look e)
theorem y42{h:Heap}(X:K.In h)(hT:∀P∈tabs.map (·.1),h.get? P=some (tabObj #[]))(hc:∀p∈tabs,∃c,codeHdIn K c p.1=true):∀P q,tabs.lookup P=some q->h.get? P=some (tabObj #[])/\isCodeTable h P:=fun P q e=>by
 have m:=tabs_none.mem_look e;obtain⟨c,hc⟩:=hc _ m;have g:=hT P (w0n.mpr ⟨_,m,rfl⟩);exact⟨g,((PySem.W.codeHd_of_K X hc).tab g).isCodeTable⟩
end
section
variable{e:List S}{ws caps:List W}{lams:Nat->Option Lm}{r:Nat->List W->FR}{d:Den W}{i j:Nat}{l:Lm}{w:W}{js:List Nat}
theorem x76:callV0 lams r dA e (some (.fr (.fn j l caps)))=(dA e).bind fun ws e1=>callVK lams r j l caps ws e1:=rfl
theorem x5v:dLamCall F j l js d e=(d e).bind fun w e1=>lamCallK F j l w e1 (capsOf js e1):=rfl
theorem q5r:lamCallK F j l w e (some caps)=lamRes e (F [w,.fn j l caps]):=rfl
theorem x77(h:noFn w=true):lamRes e (.ok (.fr w))=.ok w e:=if_pos h
theorem y01:capsOf [] e=some []:=rfl
end
end D
namespace L2
open PySem PySem.Spec PyProof.Rows
end L2
namespace D
open PySem L2
end D
namespace L2
open PySem PySem.Spec PyProof.Rows
end L2
namespace D
open PySem L2
end D
namespace L2
open PySem PySem.Spec PyProof.Rows
namespace RevT
end RevT
variable{A:Around}{X:Cx}{prog:Program}{s:Shared}{E:Value->Shared->Prop}{w:World}
theorem y43{P:Program}{sh:Sh}(hu:A.units+20<cLine):(treeKind P w sh).room A:=by
 show A.units+8<cLine;omega
def tDT1(sh:Sh)(tk tv:TE):TE:=fun σ H Q=>∀p,H p=none->tk σ (upd H p (.dT sh [] [])) fun k H1=>tv σ H1 fun v H2=>∃x b,k=.ref b/\(KRep H2 x (.ref b)/\Conf x sh/\x.depth<=7)/\H2 p=some (.dT sh [] [])/\Q (.ref p) (upd H2 p (.dT sh [(x,v)] [b]))
section
variable{ek ev:Expr}{tk tv:TE}{pos:Pos}{sh:Sh}
theorem y8g(hu:X.A.units+20<cLine)(hk:PE X ek tk)(hv:PE X ev tv):PE X (.Dict [some ek] [ev] pos) (tDT1 sh tk tv):=by
 intro pins s σ H Q I h;refine wpAny_Dict_any rfl rfl (by simp) (by simp) ?_;have fr:H s.heap.objs.size=none:=I.hok.fresh (w0e _);have I0:=I.laid (a:=s.heap.objs.size) (o:=.dT sh [] []) (t':=s.toks) (fun _ _ q=>Heap.get?_push_of_some _ q) (w0e _) (y0u s.heap I.big)
 show wpAny _ _ (evalPairs [(eval ek X.env,do let x <- eval ev X.env;standAt pos;pure x)]) _ _ _;refine evalPairs_cons (thn (hk pins _ σ _ _ I0 (h _ fr)) fun ku s1 ⟨k,H1,I1,rk,q1⟩=>?_)
 refine wpAny_bind (thn (hv pins s1 σ H1 _ I1 q1) fun vu s2 ⟨v,H2,I2,rv,x,b,e,eb,hp,q⟩=>wpAny_bind (wpAny_standAt (wpAny_pure (evalPairs_nil ?_))))
 subst e;obtain rfl:ku=Value.ref b:=rk;obtain⟨z,hd,xs,rel,ka,dd⟩:=y15 I2.hok hp;unfold storeAll;rw[w2q];have hxs:xs=[]:=by cases xs with|nil=>rfl|cons y ys=>exact absurd (Paired.length rel) (by simp)
 subst hxs;refine wpAny_bind (wpAny_bind (wpAny_dictSet_heap (hsz:=w1f _) (y43 hu) (q7t I2.hok eb) dd fun h' dd' hs=>wpAny_pure ?_))
 show wpAny _ _ (forIn ([]:List (Value×Value)) _ _) _ _ _;rw[List.forIn_nil];obtain⟨q0,es,ep,hq,h2,h3,h4,_,h5⟩:=dd';refine wpAny_pure ⟨.ref s.heap.objs.size,_,q99 I2 (by rw[hp];exact True.intro) hs ⟨q0,hq⟩ (ob:=.dT sh [(x,v)] [b]) ⟨by rw[sizeLine_eq];simp,hd,_,(rel.put x eb rv).keeps fun c u ys ec=>?_,rel.putAd ka x,q0,es,ep,hq,h2,h3,h4,h5⟩,rfl,q⟩
 rw[q0e (q03 ec hp (fun z=>by subst z;exact ys))]
 exact ec
end
open PySem PySem.Spec PyProof.Rows
end L2
namespace D
open PySem L2
variable{X:Cx}{dA:Den (List W)}{EE:L2.St->XK}{pos:Pos}{K:PySem.W.Frag}{x:Str}{O:Type}{Z:Zt}
noncomputable def scV:W->Option V
 |.non=>some .non
 |.bl b=>some (.bl b)
 |.int n=>some (.int n)
 |_=>none
end D
namespace L2
open PySem PySem.Spec PyProof.Rows
end L2
namespace D
open PySem L2
open Classical in
noncomputable instance fitsD (k:Kx) (sh:Sh):Decidable (fits k sh):=Classical.propDecidable _
variable{e:List S}{i:Nat}{w:W}
noncomputable def setDVC(i:Nat)(sh:Sh)(w:W)(e:List S):Option Kx->SR
 |some t=>if fits t sh then .nx (e.set i (.dw sh [t] [w]))else .no
 |none=>.no
noncomputable def setDVK(i:Nat)(sh:Sh)(w:W)(e:List S):Option S->SR
 |some (.fr kw)=>setDVC i sh w e (keyT kw)
 |_=>.no
noncomputable def dSetDV(i j:Nat)(sh:Sh)(w:W):List S->SR:=fun e=>setDVK i sh w e e[j]?
section
variable{X:Cx}{Z:Zt}{EE:L2.St->XK}{x y:Str}{pos p:Pos}
theorem y02(i j:Nat)(sh:Sh){ve:Expr}{v:V}{pos' dpos p2:Pos}(hK:NoTup X.K)(hu:X.A.units+20<cLine)(hN:X.N.Nodup)(hv:PE X ve (tC v))(hw:scV w=some v)
  (hj:X.N[j]?=some y:=by rfl)(hvis:Vis X.env.scope y:=by walk_at "1")(hd:(y==("__debug__":Str))=false:=by decide)(hcd:(y==("__classdict__":Str))=false:=by decide)
  (hi:X.N[i]?=some x:=by rfl)(hx:Loc X.env.scope x:=by walk_at "3")
  (hs:swapsWith (.Dict [some (.Name y p2)] [ve] dpos) (some (.Name x pos')) pos.line X.env=pure false:=by rfl)(hf:X.fn x=true\/X.env.scope.names.lookup x=some .local:=by walk_at "2"):
  DS Z X EE (.Assign [.Name x pos'] (.Dict [some (.Name y p2)] [ve] dpos) pos) (dSetDV i j sh w):=by
 refine PS.mono (x40 i hN (y8g (sh:=sh) hu (pv j hj hvis hd hcd) hv) hi hx hs hf) ?_;rintro D σ H ⟨G,e,rel,h⟩;unfold dSetDV setDVK at h;split at h
 ·rename_i kw hkw;unfold setDVC at h;split at h
  ·rename_i t ht;split at h
   ·rename_i hc;obtain⟨u,hu1,hu2⟩:=rel.fr hkw;obtain⟨b,rfl,kr⟩:=q63 hK (.refl G) ht hu2;have krH:KRep H t (.ref b):=KRep.keeps (fun _ _ _ z=>rel.sub _ _ z) t kr
    intro q hq;have g2:=Grow.hid rel.sub hq (.dT sh [(t,v)] [b]);have r2:=rel.grow g2;have hs1:Same H (upd H q (.dT sh [] [])):=q24 hq _;refine⟨.ref b,hu1,t,b,rfl,⟨KRep.keeps (fun _ _ _ z=>hs1 _ _ z) t krH,hc⟩,q0h,?_⟩
    have eH:upd (upd H q (.dT sh [] [])) q (.dT sh [(t,v)] [b])=upd H q (.dT sh [(t,v)] [b]):=by
     funext c
     by_cases h1:c=q
     ·subst h1;rw[q0h,q0h]
     ·rw[q0e h1,q0e h1,q0e h1]
    rw[eH];refine h _ _ _ (r2.setS (s:=.dw sh [t] [w]) (fun _ _ z=>nomatch z) ⟨q,[(t,v)],[b],rfl,q0h,rel.sub.free hq,q5m rel hq,rfl,⟨kr,trivial⟩,⟨v,[],rfl,?_,rfl⟩⟩) (.refl _)
    cases w<;>cases hw<;>rfl
   ·exact h.elim
  ·exact h.elim
 ·exact h.elim
theorem y03{j:Nat}{sh:Sh}:dSetDV i j sh w e=setDVK i sh w e e[j]?:=rfl
theorem y04{sh:Sh}{kw:W}:setDVK i sh w e (some (.fr kw))=setDVC i sh w e (keyT kw):=rfl
theorem y05{m n:Int}:setDVC i (.tup [.int,.int]) w e (some (.tup [.int m,.int n]))=.nx (e.set i (.dw (.tup [.int,.int]) [.tup [.int m,.int n]] [w])):=by
 exact if_pos ⟨⟨trivial,trivial,trivial⟩,by simp[Kx.depth,Kx.depths]⟩
end
end D
namespace L2
open PySem PySem.Spec PyProof.Rows
structure LamScopeC(x:Str)(Nf:List Str)(sc:Scope):Prop where
 kind:sc.kind=.function
 co:sc.isCoroutine=false
 gen:sc.isGenerator=false
 par:sc.names.lookup x=some .cell
 one:∀n cl,cellsFrom n sc.names cl=(x,n)::cl
 onep:∀h:Heap,pushCells h sc.names=h.push {cls:=.type "cell", data:=.cell none}
 only:∀y∈sc.names,y.2=.cell->y.1=x
 fr:∀y∈Nf,sc.names.lookup y=some .free
theorem x1p{M:Model}{A:Around}{E:Value->Shared->Prop}{s:Shared}{scope:Scope}{globals:Addr}{closure:List (Str×Addr)}{qual:Str}{func:Option Addr}{code:Value}{builtins:Addr}{x:Str}{u:Value}{Nf:List Str}{Q:Env->Shared->Prop}(S:LamScopeC x Nf scope)
  (hQ:∀h',h'.Ns s.heap.objs.size (fun _=>none)->h'.IsCell (s.heap.objs.size+1) (some u)->(∀b o,s.heap.get? b=some o->h'.get? b=some o) ->
   Q (newEnv scope s.heap.objs.size globals ((x,s.heap.objs.size+1)::closure) qual func code none builtins) {s with heap:=h'}):
  wpAny M A (newFunctionEnv scope globals closure [(x,u)] qual func code none builtins) Q E s:=by
 simp only[newFunctionEnv,Option.isSome_none,w2a,if_false];refine wpAny_bind (wpAny_alloc ?_);refine wpAny_bind (wpAny_layCells _ (fun name kind cells=>by cases hkc:kind==NameKind.cell<;>simp[hkc]) _ _ _ _ ?_)
 rw[show({s with heap:=s.heap.push {cls:=.type "frame", data:=.dict #[]}}:Shared).heap.objs.size=s.heap.objs.size+1 from Heap.size_push ..,S.one,S.onep]
 have ic:((s.heap.push {cls:=.type "frame", data:=.dict #[]}).push {cls:=.type "cell", data:=.cell none}).IsCell (s.heap.objs.size+1) none:=by
  have e:=Heap.get?_push_size (s.heap.push {cls:=.type "frame", data:=.dict #[]}) (o:={cls:=.type "cell", data:=.cell none}) rfl;rw[Heap.size_push]at e;exact⟨_,e,rfl⟩
 have kp:∀b o,(s.heap.push {cls:=.type "frame", data:=.dict #[]}).get? b=some o->((s.heap.push {cls:=.type "frame", data:=.dict #[]}).push {cls:=.type "cell", data:=.cell none}).get? b=some o:=fun b o e=>Heap.get?_push_of_some _ e
 have ns:=(Heap.Ns.new s.heap (.type "frame")).keeps kp;refine wpAny_bind ?_;rw[w2q];refine wpAny_bind (wpAny_bind (wpAny_storeName_cell (c:=s.heap.objs.size+1) (v₀:=none) S.kind S.par (by simp[List.lookup]) ic fun h' hc' hs'=>?_))
 refine wpAny_pure ?_;dsimp only;rw[List.forIn_nil];refine wpAny_pure (wpAny_pure (hQ h' (ns.sameBut hs' (w0j (w2k _))) hc' fun b o e=>?_))
 exact hs'.extBut b o (w0j (w1u (Heap.lt_size e))) (kp b o (Heap.get?_push_of_some _ e))
end L2
namespace D
open PySem L2
noncomputable def lamOkB(sc scope:Scope)(N Nf:List Str)(js:List Nat):Bool:=
 scope.names.all (fun y=>y.2 != .free||sc.names.lookup y.1==some .cell||sc.names.lookup y.1==some .free)&&js.length==Nf.length &&
 (List.range js.length).all (fun i=>match js[i]?,Nf[i]? with|some j,some y=>N[j]?==some y|_,_=>true) &&
 Nf.all (fun y=>scope.names.lookup y==some .free&&(sc.names.lookup y==some .cell||sc.names.lookup y==some .free))
section
variable{X:Cx}{Z:Zt}{EE:L2.St->XK}{e body:Expr}{params:Arguments}{d:Den W}{x:Str}{lpos p pos:Pos}{k:Nat}{ps N nf:List Str}{js:List Nat}{sc scope:Scope}{F:List W->FR}
theorem x3p(j:Nat)(l:Lm)(C:Cal X.prog X.w X.K X.mg X.base k x ps (spF X.K F))(hr:Room k X.A)(hx:PassX (CX1 X.prog X.w) X EE)(M:Maker X)(hfn:∀y,X.fn y=true)(he:DE Z X EE e d)(ok:lamOkB sc scope N nf js=true)
  (hl:l=⟨X.env.qual++"<lambda>", params,body,scope,nf⟩:=by rfl)(hdef:defaultsOf params X.env=([],[]):=by rfl)(hsc:X.env.scope=sc:=by rfl)(hN:X.N=N:=by rfl)(hg:Gl X x:=by rfl)
  (hdb:(x==("__debug__":Str))=false:=by decide)(hst:starEach [e,.Lambda params body scope lpos] X.env=(false,eval e X.env)::starEach [.Lambda params body scope lpos] X.env:=by rfl)
  (hst2:starEach [.Lambda params body scope lpos] X.env=(false,eval (.Lambda params body scope lpos) X.env)::starEach [] X.env:=by rfl)(hpl:(backTo pos (starEach [.Lambda params body scope lpos] X.env)).any (·.1)=false:=by rfl):
  DE Z X EE (.Call (.Name x p) [e,.Lambda params body scope lpos] [] pos) (dLamCall F j l js d):=by
 obtain⟨fa,fd,FF,m,kp,bd⟩:=C.ex;unfold lamOkB at ok;simp only[w1g,w1e,beq_iff_eq,bne_iff_ne,w2f,w1m]at ok;obtain⟨⟨⟨k4,k5⟩,k6⟩,k7⟩:=ok;have kind:∀x,X.env.kindOf x=sc.names.lookup x:=fun x=>by rw[<- hsc];rfl
 refine PE.mono (x43 (Nf:=nf) (js:=js) FF hr hg m kp bd hx M hfn he hdef (fun x hx hf=>?_) (fun i j y e1 e2=>?_) hdb hst hst2 hpl) ?_
 ·rw[kind];rcases k4 x hx with(z|z)|z
  ·exact absurd hf z
  ·exact .inl z
  ·exact .inr z
 ·have hlt:i<js.length:=(w0b.mp e2).1;have z:=k6 i hlt;rw[e1,e2]at z;obtain⟨z1,z2⟩:=k7 y (w0v e1);refine⟨by rw[hN];simpa using z,PySem.mem_of_lookup z1,?_,?_⟩
  ·rw[hsc];rcases z2 with z|z
   ·exact .inr (.inl z)
   ·exact .inr (.inr z)
  ·rw[kind];rcases z2 with z|z<;>(rw[z];decide)
 ·rintro σ H Q ⟨G,en,rel,h⟩;simp only[dLamCall,R.holds_bind]at h;refine⟨G,en,rel,h.imp (fun w e1 h G1 v1 H1 r1 s1 p1 f clos H2 la=>?_) fun _ _ h=>h⟩
  obtain⟨hclos,Hm,pm,ctv,c',hH,hf,rfl⟩:=la
  have rm:Rel X.K Z G1 σ Hm e1:=by
   rcases hH with rfl|⟨c,oc,hc,rfl⟩
   ·exact r1
   ·exact r1.grow (Grow.hid r1.sub hc _)
  have gl:=Grow.laid rm.sub hf (fnO (kla_obj "<lambda>" (X.env.qual++"<lambda>") params body scope clos pm c' ctv) (X.env.qual++"<lambda>") c');have r2:=rm.grow gl;refine⟨clos,hclos,fun cs co=>?_⟩
  cases hcap:capsOf js e1 with
  |none=>rw[hcap]at h;exact h.elim
  |some caps=>
   rw[hcap]at h;obtain⟨zs,rz,zl,zv⟩:=x08 r1 hcap;have hn2:∀b o,cs.lookup b=some o->upd Hm f (fnO (kla_obj "<lambda>" (X.env.qual++"<lambda>") params body scope clos pm c' ctv) (X.env.qual++"<lambda>") c') b=none:=fun b o z=>(co.cel b o z).1
   have gn2:∀b o,cs.lookup b=some o->upd G1 f (fnO (kla_obj "<lambda>" (X.env.qual++"<lambda>") params body scope clos pm c' ctv) (X.env.qual++"<lambda>") c') b=none:=fun b o z=>by
    cases q:upd G1 f (fnO (kla_obj "<lambda>" (X.env.qual++"<lambda>") params body scope clos pm c' ctv) (X.env.qual++"<lambda>") c') b with
    |none=>rfl
    |some u=>have:=r2.sub b u q;rw[hn2 b o z]at this;cases this
   have sA:=gl.gg.trans (x2z gn2)
   have fout:cs.lookup f=none:=by
    cases q:cs.lookup f with
    |none=>rfl
    |some o=>have:=gn2 f o q;rw[q0h]at this;cases this
   have fc:FnCells (addC (upd G1 f (fnO (kla_obj "<lambda>" (X.env.qual++"<lambda>") params body scope clos pm c' ctv) (X.env.qual++"<lambda>") c')) cs) clos l zs cs:=by
    subst hl;refine⟨co.inj,co.has,co.all,fun c o z=>⟨q2o z,(co.cel c o z).2⟩,fun i y z g1 g2=>?_,by rw[zl];exact k5⟩
    have hi:i<js.length:=by rw[<- zl];exact(w0b.mp g2).1
    have g3:js[i]?=some js[i]:=w0d hi;exact co.val i y js[i] z g1 g3 (zv i _ z g3 g2)
   have rfn:Rep X.K (addC (upd G1 f (fnO (kla_obj "<lambda>" (X.env.qual++"<lambda>") params body scope clos pm c' ctv) (X.env.qual++"<lambda>") c')) cs) (.fn j l caps) (.ref f):=by
    refine⟨f,clos,zs,cs,rfl,⟨pm,c',ctv,?_⟩,fc,Reps.mono sA caps rz⟩;rw[q0w fout,q0h,hl]
   refine⟨_,[w,.fn j l caps],x07 r2.sub,⟨v1,[.ref f],rfl,Rep.mono sA w p1,⟨.ref f,[],rfl,rfn,rfl⟩⟩,?_⟩;cases q:F [w,.fn j l caps]with
   |ok s=>
    simp only[lamCallK,q]at h;cases s with
    |fr w'=>
     simp only[lamRes]at h;split at h
     ·rename_i hnf;intro G' H' v g sl;obtain⟨u,h1,h2⟩:=sl;cases h1;have g':=Grow.nocells g hn2 r2.sub;have ci:CelsIn G' cs:=fun b o z=>g.gg b _ (q2o z)
      exact h (rmC G' cs) v (rmC H' cs) (r2.grow g') (s1.trans (gl.gg.trans g'.gg)) (Rep.rm ci w' hnf h2)
     ·exact h.elim
    |_=>exact h.elim
   |ex c=>
    simp only[lamCallK,q,lamRes]at h;intro H' sh;refine x44 r2 (s1.trans gl.gg) h (rmC H' cs) fun b u z=>?_
    cases q2:cs.lookup b with
    |some o=>rw[hn2 b o q2]at z;cases z
    |none=>rw[q1g q2];exact sh b u (by rw[q0w q2];exact z)
   |no=>simp only[lamCallK,q,lamRes]at h;exact h.elim
end
structure LamOkC(P:Program)(w:World)(K:PySem.W.Frag)(mg:Str->Option Value)(base:Heap)(n:Nat)(l:Lm)(x:Str)(F:List W->FR):Prop where
 sc:LamScopeC x l.nf l.scope
 bind:∀(cl:List (Str×Addr))(pm:Value)(c':Addr)(ctv u:Value),bindArgs (kla_fn "<lambda>" l.qual l.params l.body l.scope cl pm (.ref c') ctv) ⟨[u],[]⟩=pure [(x,u)]
 len:∀ws,F ws≠.no->ws.length=1+l.nf.length
 body:∀ws,F ws≠.no->∀(Z:Zt)(f:Addr)(cd:Value)(cl:List (Str×Addr))(A:Around)(outer:List Env)(s:Shared)(H:Hp),Room n (A.deeper (lamEnv l.qual l.scope f cd cl s)) ->
  ∃d,DE Z (cxLam P w K mg base ([x]++l.nf) l.qual l.scope f cd cl A outer s H) (fun _=>E0) l.body d/\exprFR (d (ws.map .fr))=F ws
end D
namespace L2
open PySem PySem.Spec PyProof.Rows
variable{E:XK}
noncomputable def cxLamX(P:Program)(w:World)(K:PySem.W.Frag)(mg:Str->Option Value)(base:Heap)(N:List Str)(qual:Str)(scope:Scope)(f:Addr)(cd:Value)(cl:List (Str×Addr))(A:Around)(outer:List Env)(s:Shared)(H:Hp)(E:XK):Cx:=
 {cxLam P w K mg base N qual scope f cd cl A outer s H with xe:=fun e s'=>wpAny (model P w) (A.deeper (lamEnv qual scope f cd cl s)) (leaving (lamEnv qual scope f cd cl s) e) (fun _ s''=>CX1 P w outer H s E e s'') (fun e' s''=>CX1 P w outer H s E e' s'') s'}
section
variable{P:Program}{w:World}{K:PySem.W.Frag}{mg:Str->Option Value}{base:Heap}{N:List Str}{qual:Str}{scope:Scope}{f:Addr}{cd:Value}{cl:List (Str×Addr)}{A:Around}{outer:List Env}{s₀:Shared}{H₀:Hp}
theorem y06{pins:List (Addr×Obj)}{σ:St}{H H':Hp}{s s':Shared}{e:Addr}{cls:Value}{B h'':Heap}{a0:Value}
  (I:Inv (cxLamX P w K mg base N qual scope f cd cl A outer s₀ H₀ E) pins σ H s)(J:Inv (cxLamX P w K mg base N qual scope f cd cl A outer s₀ H₀ E) pins σ H' s')
  (old:∀b o,s.heap.get? b=some o->H b=none->b∉frs (lamEnv qual scope f cd cl s₀::outer)->B.get? b=some o)
  (trk:∀b u o,H' b=some u->s'.heap.get? b=some o->B.get? b=some o)
  (all:∀b o,s.heap.get? b=some o->b∈frs (lamEnv qual scope f cd cl s₀::outer)\/∃o',B.get? b=some o')
  (new:s.heap.get? e=none)
  (fl:Heap.FlyingW B outer e cls a0 h'')(up:s'.heap.UpToSlots h'')(hE:E cls none H'):
  CX1 P w outer H₀ s₀ E (.ref e) {s' with heap:=h''}:=by
 have neL:∀b o,s₀.heap.get? b=some o->b∉frs outer->b∉frs (lamEnv qual scope f cd cl s₀::outer):=fun b o q nb hb=>by
  rcases w0p.mp (show b∈s₀.heap.objs.size::frs outer from hb)with z|z
  ·exact absurd (Heap.lt_size q) (by rw[z];exact w1v _)
  ·exact nb z
 have ex0:∀b:Addr,b∉([]:List Addr):=fun b z=>nomatch z
 have slot:∀b o,s₀.heap.get? b=some o->b∈frs outer->∃sl,h''.get? b=some {o with slots:=sl}:=fun b o q hb=>by
  obtain⟨sl,e1⟩:=J.base.slot b o q (J.ok.frf b hb) hb (ex0 b);obtain⟨_,o2,e2,nd⟩:=J.funs.mem hb
  rw[e1]at e2;cases e2;obtain⟨sl',e3⟩:=up b _ e1 nd;exact⟨sl',e3⟩
 refine⟨e,cls,H',B,rfl,J.os,J.bare,⟨fun b o q n hb hx=>?_,fun b o q n hb hx=>slot b o q hb,fun b o q n hx=>J.base.free b o q n hx,fun b o q hx=>?_,J.base.tups,J.base.frzs,J.base.tbls⟩,fun a o q=>?_,⟨⟨a0,fl⟩,fun b o q n hb=>?_,fun b u o q z=>?_,fun b o q=>?_,?_⟩,hE⟩
 ·exact fl.1 b o (old b o (I.base.keep b o q n hb hx) (I.base.free b o q n hx) (neL b o q hb))
 ·by_cases hb:b∈frs outer
  ·obtain⟨sl,z⟩:=slot b o q hb;exact⟨_,z⟩
  ·obtain⟨o1,e1⟩:=I.base.there b o q hx;rcases all b o1 e1 with z|⟨o',z⟩
   ·exact absurd z (neL b o q hb)
   ·exact⟨o',fl.1 b o' z⟩
 ·refine(J.hok a o q).stay (fun b u hb z=>?_) (fun _ z=>z) fun _ _ _ z=>z
  rcases hb with rfl|hb
  ·exact fl.1 _ _ (trk b o u q z)
  ·exact fl.1 _ _ (trk b _ u hb z)
 ·exact old b o (I.base.keep b o q n hb (ex0 b)) (I.base.free b o q n (ex0 b)) (neL b o q hb)
 ·obtain⟨o1,e1⟩:=(J.hok b u q).get;have e2:=trk b u o1 q e1;have e3:=fl.1 b o1 e2;rw[e3]at z;cases z;exact e2
 ·obtain⟨o1,e1⟩:=I.base.there b o q (ex0 b);rcases all b o1 e1 with z|z
  ·by_cases hb:b∈frs outer
   ·exact .inl hb
   ·exact absurd z (neL b o q hb)
  ·exact .inr z
 ·cases q:s₀.heap.get? e with
  |none=>rfl
  |some o=>
   obtain⟨o1,e1⟩:=I.base.there e o q (ex0 e);rw[new]at e1;cases e1
theorem passLA1:PassA (cxLamX P w K mg base N qual scope f cd cl A outer s₀ H₀ E) (fun _=>E):=by
 intro pins σ H s ev s' I hx;obtain⟨e,cls,H',B,rfl,hos,hg,un,hok,fly,hE⟩:=hx;have J:=I.call' (ch:=[]) hos un hok hg (fun b hb=>nomatch hb)
 obtain⟨a0,fl,tr⟩:=fly.tr;show wpAny _ _ (leaving _ (.ref e)) _ _ _;unfold leaving;refine wpAny_bind (x03 (B:=B) I.ok.frames rfl fly.stay fly.bare fly.ff tr fun g held up=>?_)
 refine wpAny_landsW held fun g2 fl2 up2=>?_
 obtain⟨k1,k2,⟨_,_,k3⟩,k4⟩:=fl2;have z:=y06 (a0:=a0) (h'':=g2) (s':=s') I J fly.old fly.trk fly.all fly.new ⟨k1,k2,k3,k4⟩ (up.trans up2) hE;exact z
end
section
variable{P:Program}{w:World}{K:PySem.W.Frag}{mg:Str->Option Value}{base:Heap}{x:Str}{Nf:List Str}{qual:Str}{scope:Scope}{f:Addr}{cd:Value}{cl:List (Str×Addr)}{A:Around}{outer:List Env}{s:Shared}{H:Hp}{u0:Value}{v0:V}{zs:List V}{cs:Cs}
theorem x78{h₁:Heap}{E:XK}(S:LamScopeC x Nf scope)(C:LamCells cl Nf scope zs s.heap cs)(hd:A.handled=none)(e0:Env0 P w K mg base A outer s H)(hn:∀c o,cs.lookup c=some o->H c=none)
  (hz:zs.length=Nf.length)(r:RelV v0 u0)
  (ns:h₁.Ns s.heap.objs.size (fun _=>none))(ic:h₁.IsCell (s.heap.objs.size+1) (some u0))(hk:∀b o,s.heap.get? b=some o->h₁.get? b=some o):
  Inv (cxLamX P w K mg base ([x]++Nf) qual scope f cd ((x,s.heap.objs.size+1)::cl) A outer s H E) [] ([v0].map some++zs.map some) H {s with heap:=h₁}:=by
 have noA:∀b:Addr,b∉([]:List Addr):=fun b z=>nomatch z
 have nofree:∀y c,cl.lookup y=some c->H c=none/\∃o,s.heap.get? c=some o/\∃v,o.data=.cell v:=fun y c e=>by
  obtain⟨o,q⟩:=C.all y c e;exact⟨hn c o q,o,C.cel c o q⟩
 have lk:∀y c,((x,s.heap.objs.size+1)::cl).lookup y=some c->(y=x/\c=s.heap.objs.size+1)\/cl.lookup y=some c:=fun y c e=>by
  rw[w0t]at e;split at e
  ·rename_i hb;cases e;exact .inl ⟨by simpa using hb,rfl⟩
  ·exact .inr e
 have small:∀y c,cl.lookup y=some c->c<s.heap.objs.size:=fun y c e=>by
  obtain⟨_,o,q,_⟩:=nofree y c e;exact Heap.lt_size q
 have nox:∀y∈Nf,y≠x:=fun y hy e=>by
  have:=S.fr y hy;rw[e,S.par]at this;cases this
 have lkx:((x,s.heap.objs.size+1)::cl).lookup x=some (s.heap.objs.size+1):=by rw[w0t,beq_self_eq_true]
 have lky:∀y,y≠x->((x,s.heap.objs.size+1)::cl).lookup y=cl.lookup y:=fun y hy=>by rw[w0t,beq_eq_false_iff_ne.mpr hy]
 refine⟨⟨e0.mod,S.kind,rfl,rfl,w0e _,fun y z c h1 h2=>?_,fun y hy=>?_,(fun x c z=>nomatch z),fun _=>hd,Around.frames_deeper e0.frames,.inr ⟨rfl,rfl⟩,fun b z=>absurd z (noA b),e0.bs,e0.bsz,fun b _ _=>noA b,fun b z=>absurd z (noA b),e0.funs,e0.frf,e0.tab⟩,
  rfl,e0.bare,Un.kept hk,⟨_,ns,fun i y v h1 h2 h3=>?_⟩,fun y c h=>?_,e0.hok.fresh (w0e _),fun y c h=>?_,fun p hp=>absurd (show p∈([]:List (Addr×Obj))from hp) (by simp),e0.hok.kept hk,?_⟩
 ·rcases lk y c h1 with⟨rfl,rfl⟩|g1
  ·rcases lk z _ h2 with⟨rfl,_⟩|g2
   ·rfl
   ·exact absurd (Nat.lt_of_succ_lt (small z _ g2)) (w1v _)
  ·rcases lk z c h2 with⟨rfl,rfl⟩|g2
   ·exact absurd (Nat.lt_of_succ_lt (small y _ g1)) (w1v _)
   ·exact C.inj y z c g1 g2
 ·by_cases hx:y=x
  ·exact⟨_,by rw[hx];exact lkx⟩
  ·have hy:scope.names.lookup y=some .cell\/scope.names.lookup y=some .free:=hy;rcases hy with hy|hy
   ·exact absurd (S.only _ (PySem.mem_of_lookup hy) rfl) hx
   ·obtain⟨c,e⟩:=C.has y (PySem.mem_of_lookup hy);exact⟨c,by show((x,s.heap.objs.size+1)::cl).lookup y=_;rw[lky y hx];exact e⟩
 ·cases i with
  |zero=>
   cases h1;cases h2;exact⟨u0,r,.inr ⟨.inl S.par,_,lkx,ic⟩⟩
  |succ i=>
   have h1:Nf[i]?=some y:=h1;have h2:(zs.map some)[i]?=some (some v):=h2;rw[w0r]at h2
   have ha:zs[i]?=some v:=by
    cases e:zs[i]? with
    |none=>rw[e]at h2;cases h2
    |some a=>rw[e]at h2;cases h2;rfl
   obtain⟨c,o,u,e1,e2,e3,e4⟩:=C.val _ _ _ h1 ha;have hm:=w0v h1;exact⟨u,e4,.inr ⟨.inr (S.fr y hm),c,by show((x,s.heap.objs.size+1)::cl).lookup y=_;rw[lky y (nox y hm)];exact e1,o,hk _ _ (C.cel c o e2).1,e3⟩⟩
 ·rcases lk y c h with⟨rfl,rfl⟩|g
  ·exact⟨_,ic⟩
  ·obtain⟨_,o,q,v,d⟩:=nofree y c g;exact⟨v,o,hk _ _ q,d⟩
 ·rcases lk y c h with⟨rfl,rfl⟩|g
  ·exact e0.hok.fresh (w3d _)
  ·exact(nofree y c g).1
 ·show _=([x]++Nf).length;simp[hz]
theorem CX1.cells{e:Value}{s':Shared}(e0:Env0 P w K mg base A outer s H)(CI:CelsIn H cs)(hc:∀c o,cs.lookup c=some o->s.heap.get? c=some o)
  (h:CX1 P w outer (rmC H cs) s (fun c x H'=>(∀b o,cs.lookup b=some o->H' b=none)->E c x (addC H' cs)) e s'):CX1 P w outer H s E e s':=by
 obtain⟨ea,cls,H',B,rfl,hos,hb,un,hok,fly,hE⟩:=h
 have nf:∀b o,cs.lookup b=some o->b∉frs outer:=fun b o z hb=>by
  have:=e0.frf b hb;rw[CI b o z]at this;cases this
 have hfree:∀b o,cs.lookup b=some o->H' b=none:=fun b o z=>un.free b o (hc b o z) (q5j z) (by simp)
 have hkeep:∀b o,cs.lookup b=some o->s'.heap.get? b=some o:=fun b o z=>un.keep b o (hc b o z) (q5j z) (nf b o z) (by simp)
 refine⟨ea,cls,addC H' cs,B,rfl,hos,hb,un.cells CI,hok.add fun b o z=>⟨hfree b o z,hkeep b o z⟩,⟨fly.fl,fun b o q n hb=>fly.old b o q (q45 n) hb,fun b u o q z=>?_,fly.all,fly.new⟩,hE hfree⟩
 cases hcs:cs.lookup b with
 |none=>rw[q0w hcs]at q;exact fly.trk b u o q z
 |some o'=>
  rw[hkeep b o' hcs]at z;cases z;exact fly.old b o (hc b o hcs) (q5j hcs) (nf b o hcs)
theorem x79{k:Nat}{name:Str}{params:Arguments}{body:Expr}{pm ctv:Value}{c':Addr}{t:TE}{Q:VK}
  (hr:Room (k+1) A)(e0:Env0 P w K mg base A outer s H)(hf:H f=some (fnO (kla_obj name qual params body scope cl pm c' ctv) qual c'))
  (S:LamScopeC x Nf scope)(CI:CelsIn H cs)(C:LamCells cl Nf scope zs s.heap cs)(hbind:bindArgs (kla_fn name qual params body scope cl pm (.ref c') ctv) ⟨[u0],[]⟩=pure [(x,u0)])
  (hz:zs.length=Nf.length)(r:RelV v0 u0)
  (hb:PE (cxLamX P w K mg base ([x]++Nf) qual scope f (.ref c') ((x,s.heap.objs.size+1)::cl) A outer s (rmC H cs) (fun c x H'=>(∀b o,cs.lookup b=some o->H' b=none)->E c x (addC H' cs))) body t)(hq:t ([v0].map some++zs.map some) (rmC H cs) fun v H'=>(∀b o,cs.lookup b=some o->H' b=none)->Q v (addC H' cs)):
  codeAny (model P w) A (.call (.ref f) ⟨[u0],[]⟩) (CR (CX1 P w) outer P w H s Q E) s:=by
 have lim:s.heap.NoLimit:=e0.mod.nolimit.keeps fun b o e=>(e0.bs b o e).1
 obtain⟨hfo,hcd⟩:=y2u e0.hok hf
 have e1:Env0 P w K mg base A outer s (rmC H cs):=⟨e0.frames,e0.mod,fun b o q=>⟨(e0.bs b o q).1,q45 (e0.bs b o q).2⟩,e0.bsz,e0.funs,fun b hb=>q45 (e0.frf b hb),e0.hok.rm CI,e0.bare,fun a q P m=>by
  obtain⟨ps,e,p⟩:=e0.tab a q P m;exact⟨ps,CI.rm_some e (fun o z=>nomatch z),p⟩⟩
 refine PySem.W.kla_callFunE hr.depth hfo rfl S.co S.gen rfl hcd ?_;rw[hbind];refine wpAny_pure (x1p S fun h₁ hns hic hkp=>⟨lim.keeps hkp,?_⟩)
 show codeAny _ _ (.expr body (lamEnv qual scope f (.ref c') ((x,s.heap.objs.size+1)::cl) s)) _ _;have I:=x78 (E:=fun c x H'=>(∀b o,cs.lookup b=some o->H' b=none)->E c x (addC H' cs)) (qual:=qual) (f:=f) (cd:=.ref c') S C hr.hd e1 (fun c o q=>q5j q) hz r hns hic hkp
 refine PySem.W.kla_codeExpr (wpAny_mono (hb [] _ _ _ _ I hq) (fun u s' hs'=>?_) fun e s' z=>wpAny_mono z (fun _ s'' z=>CX1.cells e0 CI (fun c o q=>(C.cel c o q).1) z) fun _ s'' z=>CX1.cells e0 CI (fun c o q=>(C.cel c o q).1) z)
 obtain⟨v,H',J,rv,q⟩:=hs';have un:Un (frs outer) [] (rmC H cs) H' s.heap s'.heap:=J.base;refine⟨v,addC H' cs,J.os,J.bare,un.cells CI,J.hok.add fun b o z=>?_,rv,q fun b o z=>un.free b o (C.cel b o z).1 (q5j z) (by simp)⟩
 have nf:b∉frs outer:=fun hb=>by
  have:=e0.frf b hb;rw[CI b o z]at this;cases this
 have g:=(C.cel b o z).1;exact⟨un.free b o g (q5j z) (by simp),un.keep b o g (q5j z) nf (by simp)⟩
end
end L2
namespace D
open PySem L2
variable{dA:Den (List W)}{e:List S}{caps:List W}{l:Lm}{j:Nat}{r:Nat->List W->FR}{K:PySem.W.Frag}{Z:Zt}
def spVX(K:PySem.W.Frag)(lams:Nat->Option Lm)(r:Nat->List W->FR):V->List V->Hp->VK->XK->Prop:=fun x vs H Q E=>∃G i l caps ws,Same G H/\Rep K G (.fn i l caps) x/\Reps K G ws vs/\noFns ws=true/\noFns caps=true/\lams i=some l/\match r i (ws++caps)with
 |.ok (.fr w)=>∀G' H' v,Grow G H G' H'->Rep K G' w v->Q v H'
 |.ex c=>∀H',Same H H'->E c none H'
 |_=>False
open Classical in
noncomputable def callVKX(lams:Nat->Option Lm)(r:Nat->List W->FR)(j:Nat)(l:Lm)(caps:List W)(ws:List W)(e1:List S):R W:=
 if lams j=some l/\noFns ws=true/\noFns caps=true then(match r j (ws++caps)with
  |.ok (.fr w)=>.ok w e1
  |.ex c=>.ex c e1
  |_=>.no)else .no
noncomputable def callV0X(lams:Nat->Option Lm)(r:Nat->List W->FR)(dA:Den (List W))(e:List S):Option S->R W
 |some (.fr (.fn j l caps))=>(dA e).bind fun ws e1=>callVKX lams r j l caps ws e1
 |_=>.no
noncomputable def dCallVX(lams:Nat->Option Lm)(r:Nat->List W->FR)(i:Nat)(dA:Den (List W)):Den W:=fun e=>callV0X lams r dA e e[i]?
section
variable{X:Cx}{EE:L2.St->XK}{e:Expr}{es:List Expr}{x:Str}{p pos:Pos}{k:Nat}{lams:Nat->Option Lm}
theorem x8a(i:Nat)(F:FnV X.prog X.w X.K X.mg X.base (CX1 X.prog X.w) k (spVX X.K lams r))(hr:Room k X.A)(hx:PassX (CX1 X.prog X.w) X EE)(ha:DA Z X EE (e::es) dA)(hv:PE X (.Name x p) (tVar i))
  (he:starEach (e::es) X.env=(false,eval e X.env)::starEach es X.env:=by rfl)(hpl:(backTo pos (starEach es X.env)).any (·.1)=false:=by rfl):
  DE Z X EE (.Call (.Name x p) (e::es) [] pos) (dCallVX lams r i dA):=by
 refine PE.mono (x9g F hr hv hx ha he hpl) ?_;rintro σ H Q ⟨G,en,rel,h⟩;unfold dCallVX callV0X at h;split at h
 ·rename_i j l caps hs;obtain⟨v,hv,rv⟩:=rel.fr hs;refine⟨v,hv,?_,G,en,rel,?_⟩
  ·obtain⟨f,cl,zs,cs,rfl,⟨pm,c',ctv,ef⟩,_⟩:=rv;exact⟨f,_,_,_,_,_,rfl,rel.sub _ _ ef⟩
  ·rw[R.holds_bind]at h;refine h.imp (fun ws e1 h G1 vs H1 r1 s1 p1=>?_) fun _ _ h=>h
   unfold callVKX at h;split at h
   ·rename_i hc;refine⟨G1,j,l,caps,ws,r1.sub,Rep.mono s1 (.fn j l caps) rv,p1,hc.2.1,hc.2.2,hc.1,?_⟩;split at h
    ·rename_i w hw;exact fun G' H' v g rp=>h G' v H' (r1.grow g) (s1.trans g.gg) rp
    ·rename_i c hw;exact x44 r1 s1 h
    ·exact h.elim
   ·exact h.elim
 ·exact h.elim
end
theorem fnV0X{P:Program}{w:World}{mg:Str->Option Value}{base:Heap}{lams:Nat->Option Lm}(h:∀i ws,r i ws=.no:=by intro _ _;rfl):FnV P w K mg base (CX1 P w) 0 (spVX K lams r):=by
 rintro x vs H Q E ⟨G,i,l,caps,ws,_,_,_,_,_,_,z⟩;rw[h]at z;exact z.elim
theorem x8b{lams:Nat->Option Lm}{i:Nat}:dCallVX lams r i dA e=callV0X lams r dA e e[i]?:=rfl
theorem x5w{lams:Nat->Option Lm}:callV0X lams r dA e (some (.fr (.fn j l caps)))=(dA e).bind fun ws e1=>callVKX lams r j l caps ws e1:=rfl
theorem x5x{lams:Nat->Option Lm}{ws:List W}{w:W}(h1:lams j=some l)(h2:noFns ws=true)(h3:noFns caps=true)(h4:r j (ws++caps)=.ok (.fr w)):callVKX lams r j l caps ws e=.ok w e:=by
 unfold callVKX;rw[if_pos ⟨h1,h2,h3⟩,h4]
theorem x5y{lams:Nat->Option Lm}{ws:List W}{c:Value}(h1:lams j=some l)(h2:noFns ws=true)(h3:noFns caps=true)(h4:r j (ws++caps)=.ex c):callVKX lams r j l caps ws e=.ex c e:=by
 unfold callVKX;rw[if_pos ⟨h1,h2,h3⟩,h4]
structure LamOkCX(P:Program)(w:World)(K:PySem.W.Frag)(mg:Str->Option Value)(base:Heap)(n:Nat)(l:Lm)(x:Str)(F:List W->FR):Prop where
 sc:LamScopeC x l.nf l.scope
 bind:∀(cl:List (Str×Addr))(pm:Value)(c':Addr)(ctv u:Value),bindArgs (kla_fn "<lambda>" l.qual l.params l.body l.scope cl pm (.ref c') ctv) ⟨[u],[]⟩=pure [(x,u)]
 len:∀ws,F ws≠.no->ws.length=1+l.nf.length
 body:∀ws,F ws≠.no->∀(Z:Zt)(f:Addr)(cd:Value)(cl:List (Str×Addr))(A:Around)(outer:List Env)(s:Shared)(H:Hp)(E:XK),Room n (A.deeper (lamEnv l.qual l.scope f cd cl s)) ->
  ∃d,DE Z (cxLamX P w K mg base ([x]++l.nf) l.qual l.scope f cd cl A outer s H E) (fun _=>E) l.body d/\exprFR (d (ws.map .fr))=F ws
theorem y07{P:Program}{w:World}{mg:Str->Option Value}{base:Heap}{n:Nat}{lams:Nat->Option Lm}(h:∀i l,lams i=some l->∃x,LamOkCX P w K mg base n l x (r i)):
  FnV P w K mg base (CX1 P w) (n+1) (spVX K lams r):=by
 rintro x vs H Q E ⟨G,i,l,caps,ws,sg,rf,rv,nw,nc,hl,hr⟩;obtain⟨x0,L⟩:=h i l hl;obtain⟨f,cl,zs,cs,rfl,⟨pm,c',ctv,ef⟩,FC,rz⟩:=rf;have hn:r i (ws++caps)≠.no:=fun z=>by rw[z]at hr;exact hr
 have hlen:=L.len _ hn;have hz:zs.length=l.nf.length:=FC.len;have hcl:caps.length=l.nf.length:=by rw[<- rz.length];exact hz
 have hwl:ws.length=1:=by rw[w0q,hcl]at hlen;omega
 have hvl:vs.length=1:=by rw[rv.length];exact hwl
 have cg:CelsIn G cs:=fun b o e=>(FC.cel b o e).1
 have ch:CelsIn H cs:=fun b o e=>sg _ _ (cg b o e)
 refine⟨f,_,_,_,_,_,rfl,sg _ _ ef,fun A outer s us hR e0 ru=>?_⟩
 have hul:us.length=1:=by rw[<- ru.length];exact hvl
 obtain⟨v0,rfl⟩:∃v0,vs=[v0]:=w3s.mp hvl;obtain⟨u0,rfl⟩:∃u0,us=[u0]:=w3s.mp hul
 have r0:RelV v0 u0:=by
  obtain⟨u,hu,q⟩:=ru.get (i:=0) rfl;cases hu;exact q
 have FC2:LamCells cl l.nf l.scope zs s.heap cs:=⟨FC.inj,FC.has,FC.all,fun c o e=>⟨(show s.heap.get? c=some o/\_ from e0.hok c _ (ch c o e)).1,(FC.cel c o e).2⟩,FC.val⟩
 obtain⟨d,hd,he⟩:=L.body _ hn ⟨rmC H cs,rmC G cs,[]⟩ f (.ref c') ((x0,s.heap.objs.size+1)::cl) A outer s (rmC H cs) (fun c x H'=>(∀b o,cs.lookup b=some o->H' b=none)->E c x (addC H' cs)) (hR.deeper _)
 refine x79 hR e0 (sg _ _ ef) L.sc ch FC2 (L.bind cl pm c' ctv u0) hz r0 hd ?_;have sg':Same (rmC G cs) (rmC H cs):=x20 sg;have rr:Reps K (rmC G cs) (ws++caps) ([v0]++zs):=(Reps.rm cg ws nw rv).append (Reps.rm cg caps nc rz);have rel:=q56 (N:=[x0]++l.nf) sg' rr
 have e1:L2.start ([x0]++l.nf) ([v0]++zs)=[v0].map some++zs.map some:=by
  unfold L2.start;rw[show([x0]++l.nf).length-([v0]++zs).length=0 by simp[hz],w4c,w0x,w0i]
 have e2:init ([x0]++l.nf).length (ws++caps)=(ws++caps).map .fr:=by
  unfold init;rw[show([x0]++l.nf).length-(ws++caps).length=0 by simp[hwl,hcl];omega,w4c,w0x]
 rw[e1,e2]at rel;refine⟨rmC G cs,_,rel,?_⟩;cases hde:d ((ws++caps).map .fr)with
 |ok w2 e'=>
  rw[hde]at he;rw[<- he]at hr;intro G' v H' r' sG rp hnone
  have hn':∀b o,cs.lookup b=some o->G' b=none:=fun b o z=>by
   cases q2:G' b with
   |none=>rfl
   |some u=>have:=r'.sub b u q2;rw[hnone b o z]at this;cases this
  exact hr (addC G' cs) (addC H' cs) v (Grow.lam ch cg (fun b u e=>r'.ent b u e (fun z=>nomatch z)) sG r'.sub r'.gen) (Rep.mono (x2z hn') _ rp)
 |ex c e'=>
  rw[hde]at he;rw[<- he]at hr;intro G' H' r' sG hnone;refine hr (addC H' cs) fun b u e=>?_
  cases q2:cs.lookup b with
  |some o=>rw[q2o q2];rw[ch b o q2]at e;exact e
  |none=>rw[q0w q2];exact r'.ent b u (show rmC H cs b=some u by rw[q1g q2];exact e) (fun z=>nomatch z)
 |no=>rw[hde]at he;exact absurd he.symm hn
mutual
noncomputable def noLst:W->Bool
 |.non=>true
 |.bl _=>true
 |.int _=>true
 |.str _=>true
 |.tup ws=>noLsts ws
 |_=>false
noncomputable def noLsts:List W->Bool
 |[]=>true
 |w::ws=>noLst w&&noLsts ws
end
noncomputable def okS:S->Bool
 |.no=>true
 |.fr _=>true
 |.own _ _=>true
 |_=>false
noncomputable def thawR(e:List S):R W->R W
 |.ok w _=>if noLst w=true then .ok w e else .no
 |.ex c _=>.ex c e
 |.no=>.no
noncomputable def dThaw(d:Den W):Den W:=fun e=>if e.all okS=true then thawR e (d (hideS e))else .no
section
variable{G G':Hp}
mutual
theorem Rep.thaw(hG:∀a u,G a=some u->(∀xs,u≠.lst xs)->G' a=some u):∀(w:W){v:V},noLst w=true->Rep K G w v->Rep K G' w v
 |.non,v,_,h=>h
 |.bl b,v,_,h=>h
 |.int i,v,_,h=>h
 |.str x,v,_,h=>h
 |.tup ws,v,n,h=>by
  obtain⟨a,xs,rfl,q,r⟩:=h;refine⟨a,xs,rfl,?_,Reps.thaw hG ws n r⟩;rcases q with q|q
  ·rcases q with q|⟨o,q⟩
   ·exact .inl (.inl (hG _ _ q fun xs z=>nomatch z))
   ·exact .inl (.inr ⟨o,hG _ _ q fun xs z=>nomatch z⟩)
  ·exact .inr q
 |.lst _,v,n,_=>by cases n
 |.exc _,v,n,_=>by cases n
 |.dic _,v,n,_=>by cases n
 |.dw _ _ _ _,v,n,_=>by cases n
 |.fn _ _ _,v,n,_=>by cases n
theorem Reps.thaw(hG:∀a u,G a=some u->(∀xs,u≠.lst xs)->G' a=some u):∀(ws:List W){xs:List V},noLsts ws=true->Reps K G ws xs->Reps K G' ws xs
 |[],xs,_,h=>h
 |w::ws,xs,n,h=>by
  obtain⟨x,r,rfl,h1,h2⟩:=h
  have n':noLst w=true/\noLsts ws=true:=by
   have:(noLst w&&noLsts ws)=true:=n
   rwa [w1g]at this
  exact⟨x,r,rfl,Rep.thaw hG w n'.1 h1,Reps.thaw hG ws n'.2 h2⟩
end
end
def OwnAt(e:List S)(σ:L2.St)(a:Addr):Prop:=∃(j:Nat)(b:Option Nat)(ws:List W),e[j]?=some (.own b ws)/\σ[j]?=some (some (.ref a))
open Classical in
noncomputable def G1of(e:List S)(σ:L2.St)(G H:Hp):Hp:=fun a=>if OwnAt e σ a then H a else G a
theorem OwnAt.is{G H:Hp}{σ:L2.St}(r:Rel K Z G σ H e){a:Addr}(h:OwnAt e σ a):∃xs,H a=some (.lst xs)/\G a=none:=by
 obtain⟨j,b,ws,h1,h2⟩:=h;obtain⟨a',xs,q1,q2,q3,q4,q5⟩:=r.slot j _ h1;rw[h2]at q1;cases q1;exact⟨xs,q2,q3⟩
theorem Rel.thawed{G H:Hp}{σ:L2.St}(r:Rel K Z G σ H e)(hok:e.all okS=true):Rel K ⟨H,G1of e σ G H,[]⟩ (G1of e σ G H) σ H (hideS e):=by
 have sG:Same G (G1of e σ G H):=fun a u h=>by
  unfold G1of;split
  ·exact r.sub a u h
  ·exact h
 have g:∀(i:Nat)(s:S),(hideS e)[i]?=some s->∃s0,e[i]?=some s0/\s=hide1 s0:=fun i s h=>by
  unfold hideS at h;rw[w0r]at h;obtain⟨s0,h1,h2⟩:=w0f.mp h;exact⟨s0,h1,h2.symm⟩
 have ok:∀(i:Nat)(s0:S),e[i]?=some s0->okS s0=true:=fun i s0 h=>w1e.mp hok s0 (w0v h)
 refine⟨fun a u h=>?_,fun i s h=>?_,by unfold hideS;rw[w0a];exact r.len,fun i j b b' ws ws' a h1 _ _ _=>?_,fun a o h _=>h,(fun a h=>nomatch h),fun a _=>rfl⟩
 ·unfold G1of at h;split at h
  ·exact h
  ·exact r.sub a u h
 ·obtain⟨s0,h0,rfl⟩:=g i s h;have q:=r.slot i s0 h0;have o:=ok i s0 h0;cases s0 with
  |no=>trivial
  |fr w=>
   obtain⟨u,q1,q2⟩:=q;exact⟨u,q1,Rep.mono sG w q2⟩
  |own b ws=>
   obtain⟨a,xs,q1,q2,q3,q4,q5⟩:=q;refine⟨.ref a,q1,a,xs,rfl,SqL.of ?_,Reps.mono sG ws q5⟩;unfold G1of
   have hs:σ[i]?=some (some (.ref a)):=by
    cases z:σ[i]? with
    |none=>rw[z]at q1;cases q1
    |some y=>rw[z]at q1;exact congrArg some q1
   rw[if_pos ⟨i,b,ws,h0,hs⟩];exact q2
  |_=>cases o
 ·obtain⟨s0,h0,h2⟩:=g i _ h1;have o:=ok i s0 h0;cases s0 with
  |no=>cases h2
  |fr w=>cases h2
  |own b ws=>cases h2
  |_=>cases o
section
variable{X:Cx}{EE:L2.St->XK}{e:Expr}{d:Den W}
theorem y44(he:∀Z',DE Z' X EE e d):DE Z X EE e (dThaw d):=by
 classical
 intro pins s σ H Q I hq;obtain⟨G,e0,rel,h⟩:=hq;unfold dThaw at h;split at h
 ·rename_i hok;refine he ⟨H,G1of e0 σ G H,[]⟩ pins s σ H Q I ⟨G1of e0 σ G H,hideS e0,rel.thawed hok,?_⟩
  have back:∀{G2 H2:Hp}{e2:List S},Rel X.K ⟨H,G1of e0 σ G H,[]⟩ G2 σ H2 e2->Grow G H (fun a=>if OwnAt e0 σ a then none else G2 a) H2:=fun {G2 H2 e2} r2=>by
   have hh:Same H H2:=fun a o h=>r2.ent a o h (fun z=>nomatch z)
   have on:∀a,H a≠none->(if OwnAt e0 σ a then none else G2 a)=G a:=fun a ha=>by
    by_cases ho:OwnAt e0 σ a
    ·obtain⟨xs,_,z⟩:=OwnAt.is rel ho;rw[if_pos ho,z]
    ·rw[if_neg ho,r2.gen a ha];exact if_neg ho
   refine⟨hh,fun a u h=>?_,fun a u h=>?_,on⟩
   ·exact(on a (by rw[rel.sub a u h];exact fun z=>nomatch z)).trans h
   ·split at h
    ·cases h
    ·exact r2.sub a u h
  cases q:d (hideS e0)with
  |ok w e2=>
   rw[q]at h;unfold thawR at h;dsimp only at h;split at h
   ·rename_i hs;intro G2 v H2 r2 s2 p;have gr:=back r2;refine h _ v H2 (rel.grow gr) gr.gg (Rep.thaw (fun a u ha hu=>?_) w hs p)
    have:¬OwnAt e0 σ a:=fun ho=>by
     obtain⟨xs,z,_⟩:=OwnAt.is rel ho;have z2:=r2.gen a (show H a≠none by rw[z];exact fun z=>nomatch z)
     have z3:G1of e0 σ G H a=some (.lst xs):=by unfold G1of;rw[if_pos ho];exact z
     rw[ha]at z2;exact hu xs (Option.some.inj (z2.trans z3))
    exact(if_neg this).trans ha
   ·exact h.elim
  |ex k e2=>
   rw[q]at h;intro G2 H2 r2 s2;have gr:=back r2;exact h _ H2 (rel.grow gr) gr.gg
  |no=>rw[q]at h;exact h.elim
 ·exact h.elim
end
theorem y45{d:Den W}:dThaw d e=if e.all okS=true then thawR e (d (hideS e))else .no:=rfl
theorem y46{w:W}{e':List S}:thawR e (.ok w e')=if noLst w=true then .ok w e else .no:=rfl
end D
namespace M10
noncomputable def numG(a:Int)(row:List Bool):Int:=row.foldl (fun acc b=>2*acc+(if b=true then 1 else 0)) a
noncomputable def num(row:List Bool):Int:=numG 0 row
noncomputable def b2(b:Bool):Int:=if b=true then 1 else 0
theorem x8c(a:Int)(row:List Bool)(b:Bool):numG a (row++[b])=2*numG a row+b2 b:=by
 unfold numG;rw[List.foldl_append];rfl
theorem x4h:num []=0:=rfl
theorem x21(row:List Bool)(b:Bool):num (row++[b])=2*num row+b2 b:=x8c 0 row b
theorem y08(b:Bool):b2 b=0\/b2 b=1:=by cases b<;>simp[b2]
theorem y09{P:List Bool->Prop}(h0:P [])(h1:∀l b,P l->P (l++[b])):∀l,P l:=by
 intro l
 have:∀r:List Bool,P r.reverse:=by
  intro r
  induction r with
  |nil=>simpa using h0
  |cons b r ih=>rw[w1t];exact h1 _ _ ih
 have:=this l.reverse
 rwa [List.reverse_reverse]at this
theorem x5z(row:List Bool):0<=num row/\num row<2^row.length:=by
 induction row using y09 with
 |h0=>simp[x4h]
 |h1 l b ih=>
  rw[x21,w0q,w3u,w4n];rcases y08 b with h|h<;>omega
noncomputable def bits:Nat->Int->List Bool
 |0,_=>[]
 |m+1,n=>decide (n%2=1)::bits m (n / 2)
noncomputable def rest:Nat->Int->Int
 |0,n=>n
 |m+1,n=>rest m (n / 2)
theorem q64:∀m n,(bits m n).length=m
 |0,_=>rfl
 |m+1,n=>by rw[bits,w1l,q64 m]
theorem x09:∀m n,bits (m+1) n=bits m n++[decide (rest m n%2=1)]
 |0,n=>rfl
 |m+1,n=>by rw[bits,x09 m (n / 2),bits,rest];rfl
theorem x1a:∀m n,rest (m+1) n=rest m n / 2
 |0,n=>rfl
 |m+1,n=>by rw[rest,x1a m (n / 2)];rfl
theorem y1a(m:Nat):∀n:Int,n=num (bits m n).reverse+2^m*rest m n:=by
 induction m with
 |zero=>intro n;simp[bits,rest,x4h]
 |succ m ih=>
  intro n;rw[bits,rest,w1t,x21,w4n];have h:=ih (n / 2)
  have hb:b2 (decide (n%2=1))=n%2:=by
   unfold b2
   by_cases h1:n%2=1
   ·simp[h1]
   ·simp[h1];omega
  rw[hb]
  have e:(2:Int)^m*2*rest m (n / 2)=2*(2^m*rest m (n / 2)):=by
   rw[Int.mul_comm (2^m) 2,Int.mul_assoc]
  rw[e];generalize (2:Int)^m*rest m (n / 2)=z at *;generalize num (bits m (n / 2)).reverse=y at *;omega
theorem y1b(m:Nat):(0:Int)<2^m:=by
 induction m with
 |zero=>decide
 |succ m ih=>rw[w4n];omega
theorem x8d{m:Nat}{n:Int}(h0:0<=n)(h1:n<2^m):rest m n=0:=by
 have h:=y1a m n;have hb:=x5z (bits m n).reverse;rw[w2n,q64]at hb;have hp:=y1b m
 by_cases hr:rest m n=0
 ·exact hr
 ·exfalso;rcases Int.lt_or_gt_of_ne hr with h2|h2
  ·have:2^m*rest m n<=2^m*(-1):=w2z (by omega) (by omega);omega
  ·have:2^m*1<=2^m*rest m n:=w2z (by omega) (by omega);omega
noncomputable def part(row:List Bool)(i:Nat):Int:=num (row.take i)*2^(row.length-i)
end M10
namespace Q
open PySem L2 D
variable{k:Int}{T:List (List Bool)}{row x:List Bool}{ws:List W}{b i m n p q:Nat}{K:PySem.W.Frag}{mg:Str->Option Value}{α:Type}{w:W}
seal DE DF DT DW DA DS DSs DTs DO DFm PE PT PW PA PS PSs PG PGs PI PF PTs PC OpR UnR IxR CallR TruR MtR MtM SlR PO
theorem us1{P:List α->Prop}(h:∀x0,P [x0]):∀us:List α,us.length=1->P us
 |[x0],_=>h x0
theorem us2{P:List α->Prop}(h:∀x0 x1,P [x0,x1]):∀us:List α,us.length=2->P us
 |[x0,x1],_=>h x0 x1
theorem us3{P:List α->Prop}(h:∀x0 x1 x2,P [x0,x1,x2]):∀us:List α,us.length=3->P us
 |[x0,x1,x2],_=>h x0 x1 x2
theorem us5{P:List α->Prop}(h:∀x0 x1 x2 x3 x4,P [x0,x1,x2,x3,x4]):∀us:List α,us.length=5->P us
 |[x0,x1,x2,x3,x4],_=>h x0 x1 x2 x3 x4
noncomputable def top(i:Nat):Stmt:=PySem.Challenge.pw_circuits_k43_circuits_refused.main.body.getD i (.Pass ⟨0,0,0,0⟩)
structure Blt(mg:Str->Option Value):Prop where
 b_ValueError:mg "ValueError"=none
 b_any:mg "any"=none
 b_int:mg "int"=none
 b_isinstance:mg "isinstance"=none
 b_len:mg "len"=none
 b_list:mg "list"=none
 b_range:mg "range"=none
 b_reversed:mg "reversed"=none
 b_set:mg "set"=none
 b_sorted:mg "sorted"=none
 b_tuple:mg "tuple"=none
structure Adr where
 CircuitError:Addr
 NoPlace:Addr
 NoName:Addr
 BadText:Addr
 NoRow:Addr
 NoTable:Addr
 UnlikeSizes:Addr
 TooGreat:Addr
 NoMachine:Addr
 BadSheet:Addr
variable{a:Adr}
structure Exs(K:PySem.W.Frag)(mg:Str->Option Value)(a:Adr):Prop where
 z:True
 m_CircuitError:mg "CircuitError"=some (.ref a.CircuitError)
 m_NoPlace:mg "NoPlace"=some (.ref a.NoPlace)
 m_NoName:mg "NoName"=some (.ref a.NoName)
 m_BadText:mg "BadText"=some (.ref a.BadText)
 m_NoRow:mg "NoRow"=some (.ref a.NoRow)
 m_NoTable:mg "NoTable"=some (.ref a.NoTable)
 m_UnlikeSizes:mg "UnlikeSizes"=some (.ref a.UnlikeSizes)
 m_TooGreat:mg "TooGreat"=some (.ref a.TooGreat)
 m_NoMachine:mg "NoMachine"=some (.ref a.NoMachine)
 m_BadSheet:mg "BadSheet"=some (.ref a.BadSheet)
 e_NoPlace:excIn K a.NoPlace a.CircuitError=true
 e_NoRow:excIn K a.NoRow a.CircuitError=true
 e_UnlikeSizes:excIn K a.UnlikeSizes a.CircuitError=true
 c_NoPlace:excClsIn K a.NoPlace=true
 x_NoPlace_NoPlace:exmOne K (.ref a.NoPlace) (.ref a.NoPlace)=some true
 x_NoPlace_UnlikeSizes:exmOne K (.ref a.NoPlace) (.ref a.UnlikeSizes)=some false
 k_NoPlace_NoName:kitOne K (.ref a.NoPlace) (.ref a.NoName)=some false
 k_NoPlace_BadText:kitOne K (.ref a.NoPlace) (.ref a.BadText)=some false
 k_NoPlace_NoRow:kitOne K (.ref a.NoPlace) (.ref a.NoRow)=some false
 k_NoPlace_NoTable:kitOne K (.ref a.NoPlace) (.ref a.NoTable)=some false
 k_NoPlace_TooGreat:kitOne K (.ref a.NoPlace) (.ref a.TooGreat)=some false
 k_NoPlace_BadSheet:kitOne K (.ref a.NoPlace) (.ref a.BadSheet)=some false
 k_NoPlace_NoPlace:kitOne K (.ref a.NoPlace) (.ref a.NoPlace)=some true
 k_NoPlace_UnlikeSizes:kitOne K (.ref a.NoPlace) (.ref a.UnlikeSizes)=some false
 k_NoPlace_NoMachine:kitOne K (.ref a.NoPlace) (.ref a.NoMachine)=some false
 k_NoPlace_CircuitError:kitOne K (.ref a.NoPlace) (.ref a.CircuitError)=some true
 k_NoPlace_ValueError:kitOne K (.ref a.NoPlace) (.type "ValueError")=some true
 c_NoRow:excClsIn K a.NoRow=true
 x_NoRow_NoPlace:exmOne K (.ref a.NoRow) (.ref a.NoPlace)=some false
 x_NoRow_UnlikeSizes:exmOne K (.ref a.NoRow) (.ref a.UnlikeSizes)=some false
 k_NoRow_NoName:kitOne K (.ref a.NoRow) (.ref a.NoName)=some false
 k_NoRow_BadText:kitOne K (.ref a.NoRow) (.ref a.BadText)=some false
 k_NoRow_NoRow:kitOne K (.ref a.NoRow) (.ref a.NoRow)=some true
 k_NoRow_NoTable:kitOne K (.ref a.NoRow) (.ref a.NoTable)=some false
 k_NoRow_TooGreat:kitOne K (.ref a.NoRow) (.ref a.TooGreat)=some false
 k_NoRow_BadSheet:kitOne K (.ref a.NoRow) (.ref a.BadSheet)=some false
 k_NoRow_NoPlace:kitOne K (.ref a.NoRow) (.ref a.NoPlace)=some false
 k_NoRow_UnlikeSizes:kitOne K (.ref a.NoRow) (.ref a.UnlikeSizes)=some false
 k_NoRow_NoMachine:kitOne K (.ref a.NoRow) (.ref a.NoMachine)=some false
 k_NoRow_CircuitError:kitOne K (.ref a.NoRow) (.ref a.CircuitError)=some true
 k_NoRow_ValueError:kitOne K (.ref a.NoRow) (.type "ValueError")=some true
 c_UnlikeSizes:excClsIn K a.UnlikeSizes=true
 x_UnlikeSizes_NoPlace:exmOne K (.ref a.UnlikeSizes) (.ref a.NoPlace)=some false
 x_UnlikeSizes_UnlikeSizes:exmOne K (.ref a.UnlikeSizes) (.ref a.UnlikeSizes)=some true
 k_UnlikeSizes_NoName:kitOne K (.ref a.UnlikeSizes) (.ref a.NoName)=some false
 k_UnlikeSizes_BadText:kitOne K (.ref a.UnlikeSizes) (.ref a.BadText)=some false
 k_UnlikeSizes_NoRow:kitOne K (.ref a.UnlikeSizes) (.ref a.NoRow)=some false
 k_UnlikeSizes_NoTable:kitOne K (.ref a.UnlikeSizes) (.ref a.NoTable)=some false
 k_UnlikeSizes_TooGreat:kitOne K (.ref a.UnlikeSizes) (.ref a.TooGreat)=some false
 k_UnlikeSizes_BadSheet:kitOne K (.ref a.UnlikeSizes) (.ref a.BadSheet)=some false
 k_UnlikeSizes_NoPlace:kitOne K (.ref a.UnlikeSizes) (.ref a.NoPlace)=some false
 k_UnlikeSizes_UnlikeSizes:kitOne K (.ref a.UnlikeSizes) (.ref a.UnlikeSizes)=some true
 k_UnlikeSizes_NoMachine:kitOne K (.ref a.UnlikeSizes) (.ref a.NoMachine)=some false
 k_UnlikeSizes_CircuitError:kitOne K (.ref a.UnlikeSizes) (.ref a.CircuitError)=some true
 k_UnlikeSizes_ValueError:kitOne K (.ref a.UnlikeSizes) (.type "ValueError")=some true
 nt:NoTup K
noncomputable abbrev q2c:Nat:=0
noncomputable abbrev q3y:Nat:=1
noncomputable abbrev q3f:Nat:=2
noncomputable abbrev q2a:Nat:=3
noncomputable abbrev q39:Nat:=4
noncomputable abbrev q1k:Nat:=5
noncomputable abbrev q1c:Nat:=6
noncomputable abbrev q14:Nat:=7
noncomputable abbrev q2g:Nat:=8
noncomputable abbrev q4m:Nat:=9
noncomputable abbrev q48:Nat:=10
noncomputable abbrev q4a:Nat:=11
noncomputable abbrev q4s:Nat:=12
noncomputable abbrev q1z:Nat:=13
noncomputable abbrev q4n:Nat:=14
noncomputable abbrev q0r:Nat:=15
noncomputable abbrev q1h:Nat:=16
noncomputable abbrev q17:Nat:=17
noncomputable abbrev q1j:Nat:=18
noncomputable abbrev q2s:Nat:=19
noncomputable abbrev q09:Nat:=20
noncomputable abbrev q2d:Nat:=21
noncomputable abbrev q1l:Nat:=22
noncomputable abbrev q0t:Nat:=23
noncomputable abbrev q2p:Nat:=24
noncomputable abbrev q10:Nat:=25
noncomputable abbrev q76:Nat:=26
noncomputable abbrev q49:Stmt:=top 12
theorem sc_value:FnScope ["form", "row", "word", "left", "right"] ["form", "row"] (defScope q49):=⟨rfl,rfl,rfl,by decide +kernel,rfl,by decide +kernel,by decide +kernel⟩
noncomputable abbrev q27:Stmt:=top 13
theorem x3q:FnScope ["things", "place"] ["things", "place"] (defScope q27):=⟨rfl,rfl,rfl,by decide +kernel,rfl,by decide +kernel,by decide +kernel⟩
noncomputable abbrev q2v:Stmt:=top 14
theorem sc_places_in:FnScope ["form", "places", "waiting", "part"] ["form"] (defScope q2v):=⟨rfl,rfl,rfl,by decide +kernel,rfl,by decide +kernel,by decide +kernel⟩
noncomputable abbrev q3o:Stmt:=top 16
theorem x50:FnScope ["circuit", "state", "row"] ["circuit", "state", "row"] (defScope q3o):=⟨rfl,rfl,rfl,by decide +kernel,rfl,by decide +kernel,by decide +kernel⟩
noncomputable abbrev q6a:Stmt:=top 17
theorem sc_gone:FnScope ["circuit", "rows", "state", "told", "row", "step"] ["circuit", "rows"] (defScope q6a):=⟨rfl,rfl,rfl,by decide +kernel,rfl,by decide +kernel,by decide +kernel⟩
noncomputable abbrev q1f:Stmt:=top 18
theorem sc_check_circuit:FnScope ["circuit", "many", "form"] ["circuit"] (defScope q1f):=⟨rfl,rfl,rfl,by decide +kernel,rfl,by decide +kernel,by decide +kernel⟩
noncomputable abbrev q1s:Stmt:=top 19
theorem q9r:FnScope ["truths", "length"] ["truths", "length"] (defScope q1s):=⟨rfl,rfl,rfl,by decide +kernel,rfl,by decide +kernel,by decide +kernel⟩
noncomputable abbrev q1o:Stmt:=top 20
theorem x0b:FnScope ["circuit"] ["circuit"] (defScope q1o):=⟨rfl,rfl,rfl,by decide +kernel,rfl,by decide +kernel,by decide +kernel⟩
noncomputable abbrev q11:Stmt:=top 21
theorem x1q:FnScope ["circuit"] ["circuit"] (defScope q11):=⟨rfl,rfl,rfl,by decide +kernel,rfl,by decide +kernel,by decide +kernel⟩
noncomputable abbrev q3z:Stmt:=top 22
theorem sc_moved:FnScope ["circuit", "state", "row", "truths", "told"] ["circuit", "state", "row"] (defScope q3z):=⟨rfl,rfl,rfl,by decide +kernel,rfl,by decide +kernel,by decide +kernel⟩
noncomputable abbrev q4i:Stmt:=top 24
theorem sc_row_of:FnScope ["number", "many", "truths", "rest", "step"] ["number", "many"] (defScope q4i):=⟨rfl,rfl,rfl,by decide +kernel,rfl,by decide +kernel,by decide +kernel⟩
noncomputable abbrev q2w:Stmt:=top 25
theorem sc_rows_many:FnScope ["many", "count", "place"] ["many"] (defScope q2w):=⟨rfl,rfl,rfl,by decide +kernel,rfl,by decide +kernel,by decide +kernel⟩
noncomputable abbrev q2t:Stmt:=top 26
theorem x3r:FnScope ["many"] ["many"] (defScope q2t):=⟨rfl,rfl,rfl,by decide +kernel,rfl,by decide +kernel,by decide +kernel⟩
noncomputable abbrev q1m:Stmt:=top 28
theorem sc_machine_of:FnScope ["circuit", "rows", "found"] ["circuit"] (defScope q1m):=⟨rfl,rfl,rfl,by decide +kernel,rfl,by decide +kernel,by decide +kernel⟩
noncomputable abbrev q3p:Stmt:=top 29
theorem sc_come_to:FnScope ["begin", "pairs_of", "things", "numbers", "states", "thing", "state", "told", "follower"] ["begin", "pairs_of"] (defScope q3p):=⟨rfl,rfl,rfl,by decide +kernel,rfl,by decide +kernel,by decide +kernel⟩
noncomputable abbrev q1t:Stmt:=top 31
theorem q9s:FnScope ["_law_script", "_law_k"] ["_law_script", "_law_k"] (defScope q1t):=⟨rfl,rfl,rfl,by decide +kernel,rfl,by decide +kernel,by decide +kernel⟩
noncomputable abbrev q2h:Stmt:=top 32
theorem sc__law_mixed:FnScope ["_law_cell", "_law_k", "_law_number"] ["_law_cell", "_law_k"] (defScope q2h):=⟨rfl,rfl,rfl,by decide +kernel,rfl,by decide +kernel,by decide +kernel⟩
noncomputable abbrev q28:Stmt:=top 33
theorem sc__law_row:FnScope ["_law_number", "_law_many", "_law_row_here", "_law_step"] ["_law_number", "_law_many"] (defScope q28):=⟨rfl,rfl,rfl,by decide +kernel,rfl,by decide +kernel,by decide +kernel⟩
noncomputable abbrev q2x:Stmt:=top 34
theorem sc__law_form:FnScope ["_law_cell", "_law_places", "_law_deep", "_law_kind", "_law_left", "_law_one"] ["_law_cell", "_law_places", "_law_deep"] (defScope q2x):=⟨rfl,rfl,rfl,by decide +kernel,rfl,by decide +kernel,by decide +kernel⟩
noncomputable abbrev q1n:Stmt:=top 35
theorem sc__law_counting:FnScope ["_law_many", "_law_size", "_law_k", "_law_carry", "_law_j"] ["_law_many", "_law_size", "_law_k"] (defScope q1n):=⟨rfl,rfl,rfl,by decide +kernel,rfl,by decide +kernel,by decide +kernel⟩
noncomputable abbrev q15:Stmt:=top 36
theorem sc__law_taller:FnScope ["_law_form_here", "_law_many", "_law_places", "_law_k"] ["_law_form_here", "_law_many", "_law_places"] (defScope q15):=⟨rfl,rfl,rfl,by decide +kernel,rfl,by decide +kernel,by decide +kernel⟩
noncomputable abbrev q1u:Stmt:=top 37
theorem sc__law_circuit:FnScope ["_law_script", "_law_cell", "_law_many", "_law_size", "_law_deep", "_law_cells", "_law_k", "_law_left", "_law_form_here", "_law_outs", "_law_tall", "_law_first"] ["_law_script"] (defScope q1u):=⟨rfl,rfl,rfl,by decide +kernel,rfl,by decide +kernel,by decide +kernel⟩
noncomputable abbrev q2i:Stmt:=top 38
theorem sc__law_alone:FnScope ["_law_e", "_law_due", "_law_other", "_law_some"] ["_law_e", "_law_due"] (defScope q2i):=⟨rfl,rfl,rfl,by decide +kernel,rfl,by decide +kernel,by decide +kernel⟩
noncomputable abbrev q2y:Stmt:=top 39
theorem sc__law_word:FnScope ["_law_circuit_here", "_law_state", "_law_row_here", "_law_rows", "_law_way", "_law_e"] ["_law_circuit_here", "_law_state", "_law_row_here", "_law_rows", "_law_way"] (defScope q2y):=⟨rfl,rfl,rfl,by decide +kernel,rfl,by decide +kernel,by decide +kernel⟩
noncomputable abbrev q1p:Stmt:=top 40
theorem sc__law_spoilt:FnScope ["_law_circuit_here", "_law_at", "_law_more", "_law_cells", "_law_outs", "_law_bad", "_law_old", "_law_some", "_law_form_here"] ["_law_circuit_here", "_law_at", "_law_more"] (defScope q1p):=⟨rfl,rfl,rfl,by decide +kernel,rfl,by decide +kernel,by decide +kernel⟩
noncomputable abbrev q2j:Stmt:=top 41
theorem x1r:FnScope ["_law_row_here", "_law_cell"] ["_law_row_here", "_law_cell"] (defScope q2j):=⟨rfl,rfl,rfl,by decide +kernel,rfl,by decide +kernel,by decide +kernel⟩
noncomputable abbrev q3k:Stmt:=top 42
theorem sc_law:FnScope ["_law_script", "_law_circuit_here", "_law_size", "_law_many", "_law_cell", "_law_place", "_law_state", "_law_row_here", "_law_sized_here", "_law_rows", "_law_due"] ["_law_script"] (defScope q3k):=⟨rfl,rfl,rfl,by decide +kernel,rfl,by decide +kernel,by decide +kernel⟩
noncomputable abbrev q30:Expr:=(argAt 1 (stVal (stAt 1 q1m)))
noncomputable abbrev q0s:Lm:=⟨("machine_of"++".<locals>.")++"<lambda>", lamParams q30,lamBody q30,lamScope q30,["circuit", "rows"]⟩
noncomputable abbrev q0p:Nat:=27
noncomputable def lams:Nat->Option Lm
 |27=>some q0s
 |_=>none
theorem q5v:lams 27=some q0s:=rfl
noncomputable def q18(K:PySem.W.Frag)(a:Adr)(r:Nat->List W->FR):Den W:=
 (dCall (r q4m) (dCons (dVar 2) (dCons (dVar 1) (dCons (dVar 0) dNil))))
noncomputable def q12(K:PySem.W.Frag)(a:Adr)(r:Nat->List W->FR):Den W:=
 (dFz (dCompX [0,1] (dVar 2) dYes (q18 K a r)))
noncomputable def q2q(K:PySem.W.Frag)(a:Adr)(r:Nat->List W->FR):List S->SR:=
 (dSeq (dSet 2 (dOp ixW (dVar 0) (dC (.int 0))))
  (dSeq (dIfS (dTest (dOp eq2 (dVar 2) (dC (.str "is"))))
  (dRet (dOp ixW (dVar 0) (dC (.int 1))))
  dNx)
  (dSeq (dIfS (dTest (dOp eq2 (dVar 2) (dC (.str "at"))))
  (dRet (dCall (r q3y) (dCons (dVar 1) (dCons (dOp ixW (dVar 0) (dC (.int 1))) dNil))))
  dNx)
  (dSeq (dIfS (dTest (dOp eq2 (dVar 2) (dC (.str "not"))))
  (dRet (dNotV (dCall (r q2c) (dCons (dOp ixW (dVar 0) (dC (.int 1))) (dCons (dVar 1) dNil)))))
  dNx)
  (dSeq (dSet 3 (dCall (r q2c) (dCons (dOp ixW (dVar 0) (dC (.int 1))) (dCons (dVar 1) dNil))))
  (dSeq (dSet 4 (dCall (r q2c) (dCons (dOp ixW (dVar 0) (dC (.int 2))) (dCons (dVar 1) dNil))))
  (dSeq (dIfS (dTest (dOp eq2 (dVar 2) (dC (.str "and"))))
  (dRet (dAndV (dVar 3) (dVar 4)))
  dNx)
  (dSeq (dIfS (dTest (dOp eq2 (dVar 2) (dC (.str "or"))))
  (dRet (dOrV (dVar 3) (dVar 4)))
  dNx)
  (dRet (dOp ne2 (dVar 3) (dVar 4)))))))))))
noncomputable def q4t(K:PySem.W.Frag)(a:Adr)(r:Nat->List W->FR):List S->SR:=
 (dSeq (dIfS (dOr (dTest (dOp ltW (dVar 1) (dC (.int 0)))) (dTest (dOp geW (dVar 1) (dFn len1 (dCons (dVar 0) dNil)))))
  (dRaise a.NoPlace (dCons (dC (.str "there is nothing for a place of the form")) dNil))
  dNx)
  (dRet (dOp ixW (dVar 0) (dVar 1))))
noncomputable def q16(K:PySem.W.Frag)(a:Adr)(r:Nat->List W->FR):Den Bool:=
 (dTest (dOp gtW (dFnV 2 len1) (dC (.int 0))))
noncomputable def q3b(K:PySem.W.Frag)(a:Adr)(r:Nat->List W->FR):List S->SR:=
 (dSeq (dSet 3 (dPop 2))
  (dIfS (dTest (dOp eq2 (dOp ixW (dVar 3) (dC (.int 0))) (dC (.str "at"))))
  (dApp 1 (dCons (dOp ixW (dVar 3) (dC (.int 1))) dNil))
  (dIfS (dTest (dOp ne2 (dOp ixW (dVar 3) (dC (.int 0))) (dC (.str "is"))))
  (dExt 2 (dCons (dSl (dVar 3) (dPart (dC (.int 1))) dNoPart) dNil))
  dNx)))
noncomputable def q4b(K:PySem.W.Frag)(a:Adr)(r:Nat->List W->FR):List S->SR:=
 (dSeq (dSetO 1 (dLst dNil))
  (dSeq (dSetO 2 (dLst (dCons (dVar 0) dNil)))
  (dSeq (whileD (q16 K a r)
  (q3b K a r) 1000000)
  (dRetF (dSS (dCons (dVar 1) dNil))))))
noncomputable def q4o(K:PySem.W.Frag)(a:Adr)(r:Nat->List W->FR):List S->SR:=
 (dSeq (dDrop (dCall (r q1k) (dCons (dVar 0) dNil)))
  (dSeq (dDrop (dCall (r q1c) (dCons (dVar 1) (dCons (dFn len1 (dCons (dOp ixW (dVar 0) (dC (.int 1))) dNil)) dNil))))
  (dSeq (dDrop (dCall (r q1c) (dCons (dVar 2) (dCons (dOp ixW (dVar 0) (dC (.int 0))) dNil))))
  (dRet (dCall (r q4m) (dCons (dVar 0) (dCons (dVar 1) (dCons (dVar 2) dNil))))))))
noncomputable def q2k(K:PySem.W.Frag)(a:Adr)(r:Nat->List W->FR):List S->SR:=
 (dSeq (dDrop (dCall (r q1c) (dCons (dVar 4) (dCons (dOp ixW (dVar 0) (dC (.int 0))) dNil))))
  (dSeq (dSet 5 (dCall (r q4m) (dCons (dVar 0) (dCons (dVar 2) (dCons (dVar 4) dNil)))))
  (dSeq (dApp 3 (dCons (dOp ixW (dVar 5) (dC (.int 0))) dNil))
  (dSet 2 (dOp ixW (dVar 5) (dC (.int 1)))))))
noncomputable def q6o(K:PySem.W.Frag)(a:Adr)(r:Nat->List W->FR):List S->SR:=
 (dSeq (dDrop (dCall (r q1k) (dCons (dVar 0) dNil)))
  (dSeq (dSet 2 (dCall (r q14) (dCons (dVar 0) dNil)))
  (dSeq (dSetO 3 (dLst dNil))
  (dSeq (dFor 4 (dVar 1)
  (q2k K a r))
  (dRetO 3)))))
noncomputable def q35(K:PySem.W.Frag)(a:Adr)(r:Nat->List W->FR):Den W:=
 (dOrV (dOp ltW (dVar 0) (dC (.int 0))) (dOp geW (dVar 0) (dVar 1)))
noncomputable def q1e(K:PySem.W.Frag)(a:Adr)(r:Nat->List W->FR):List S->SR:=
 (dIfS (dTru (dFn any1 (dCons (dFz (dComp [1] (dCall (r q3f) (dCons (dVar 2) dNil)) dYes (q35 K a r))) dNil)))
  (dRaise a.NoPlace (dCons (dC (.str "a form of the circuit has a place that isn't there")) dNil))
  dNx)
noncomputable def q2u(K:PySem.W.Frag)(a:Adr)(r:Nat->List W->FR):List S->SR:=
 (dSeq (dSet 1 (dOp addX (dOp ixW (dVar 0) (dC (.int 0))) (dFn len1 (dCons (dOp ixW (dVar 0) (dC (.int 1))) dNil))))
  (dFor 2 (dOp addX (dCall (r q2g) (dCons (dVar 0) dNil)) (dFz (dList (dCons (dOp ixW (dVar 0) (dC (.int 2))) dNil))))
  (q1e K a r)))
noncomputable def q22(K:PySem.W.Frag)(a:Adr)(r:Nat->List W->FR):List S->SR:=
 (dIfS (dTest (dOp ne2 (dFn len1 (dCons (dVar 0) dNil)) (dVar 1)))
  (dRaise a.UnlikeSizes (dCons (dC (.str "there are too many truths, or too few")) dNil))
  dNx)
noncomputable def q4u(K:PySem.W.Frag)(a:Adr)(r:Nat->List W->FR):Den W:=
 (dVar 0)
noncomputable def q3c(K:PySem.W.Frag)(a:Adr)(r:Nat->List W->FR):List S->SR:=
 (dRet (dFn tup1 (dCons (dFz (dCompP [] (srcP (dOp ixW (dVar 0) (dC (.int 1)))) dYes (q4u K a r))) dNil)))
noncomputable def q5a(K:PySem.W.Frag)(a:Adr)(r:Nat->List W->FR):Den W:=
 (dVar 1)
noncomputable def q3q(K:PySem.W.Frag)(a:Adr)(r:Nat->List W->FR):List S->SR:=
 (dRetF (dCompP [] (srcP (dOp ixW (dVar 0) (dC (.int 1)))) dYes (q5a K a r)))
noncomputable def q7u(K:PySem.W.Frag)(a:Adr)(r:Nat->List W->FR):Den W:=
 (dCall (r q2c) (dCons (dVar 0) (dCons (dVar 1) dNil)))
noncomputable def q1q(K:PySem.W.Frag)(a:Adr)(r:Nat->List W->FR):Den W:=
 (dCall (r q2c) (dCons (dVar 0) (dCons (dVar 1) dNil)))
noncomputable def q6p(K:PySem.W.Frag)(a:Adr)(r:Nat->List W->FR):List S->SR:=
 (dSeq (dSet 3 (dOp addX (dVar 2) (dVar 1)))
  (dSeq (dSet 4 (dFn tup1 (dCons (dFz (dCompX [3] (dOp ixW (dVar 0) (dC (.int 2))) dYes (q1q K a r))) dNil)))
  (dRet (dTup (dCons (dVar 4) (dCons (dFn tup1 (dCons (dFz (dCompX [3] (dCall (r q2g) (dCons (dVar 0) dNil)) dYes (q7u K a r))) dNil)) dNil))))))
noncomputable def q65(K:PySem.W.Frag)(a:Adr)(r:Nat->List W->FR):List S->SR:=
 (dSeq (dApp 2 (dCons (dOp eq2 (dOp modW (dVar 3) (dC (.int 2))) (dC (.int 1))) dNil))
  (dSet 3 (dOp fdivW (dVar 3) (dC (.int 2)))))
noncomputable def q66(K:PySem.W.Frag)(a:Adr)(r:Nat->List W->FR):List S->SR:=
 (dSeq (dSetO 2 (dLst dNil))
  (dSeq (dSet 3 (dVar 0))
  (dSeq (dForR 4 rng1 (dCons (dVar 1) dNil)
  (q65 K a r))
  (dSeq (dIfS (dTest (dOp ne2 (dVar 3) (dC (.int 0))))
  (dRaise a.NoRow (dCons (dC (.str "no row of so many places has that number")) dNil))
  dNx)
  (dRet (dUn tuprevW (dVar 2)))))))
noncomputable def q5s(K:PySem.W.Frag)(a:Adr)(r:Nat->List W->FR):List S->SR:=
 (dSet 1 (dOp mulW (dC (.int 2)) (dVar 1)))
noncomputable def q5h(K:PySem.W.Frag)(a:Adr)(r:Nat->List W->FR):List S->SR:=
 (dSeq (dSet 1 (dC (.int 1)))
  (dSeq (dForR 2 rng1 (dCons (dVar 0) dNil)
  (q5s K a r))
  (dRet (dVar 1))))
noncomputable def q7v(K:PySem.W.Frag)(a:Adr)(r:Nat->List W->FR):Den W:=
 (dCall (r q48) (dCons (dVar 0) (dCons (dVar 1) dNil)))
noncomputable def q5x(K:PySem.W.Frag)(a:Adr)(r:Nat->List W->FR):List S->SR:=
 (dRetF (dCompR rng1 [0] (dCons (dCall (r q4a) (dCons (dVar 0) dNil)) dNil) dYes (q7v K a r)))
noncomputable def q3r(K:PySem.W.Frag)(a:Adr)(r:Nat->List W->FR):List S->SR:=
 (dSeq (dSet 1 (dCall (r q4s) (dCons (dOp ixW (dVar 0) (dC (.int 0))) dNil)))
  (dSeq (dSet 2 (dLamCall (r q4n) 27 q0s [0,1] (dCall (r q14) (dCons (dVar 0) dNil))))
  (dRet (dTup (dCons (dTup (dCons (dOp ixW (dVar 0) (dC (.int 0))) (dCons (dFn len1 (dCons (dOp ixW (dVar 0) (dC (.int 2))) dNil)) (dCons (dOp ixW (dVar 2) (dC (.int 0))) dNil)))) (dCons (dOp ixW (dVar 2) (dC (.int 1))) dNil))))))
noncomputable def q3g(K:PySem.W.Frag)(a:Adr)(r:Nat->List W->FR):List S->SR:=
 (dSeq (dIfS (dBorrowT (dTest (dOp ninT (dVar 8) (dVar 3))))
  (dSeq (dPutW 3 (dFnV 2 len1) (dVar 8))
  (dApp 2 (dCons (dVar 8) dNil)))
  dNx)
  (dApp 6 (dCons (dTup (dCons (dVar 7) (dCons (dBorrow (dOp ixT (dVar 3) (dVar 8))) dNil))) dNil)))
noncomputable def q3h(K:PySem.W.Frag)(a:Adr)(r:Nat->List W->FR):Den Bool:=
 (dTest (dOp ltW (dFnV 4 len1) (dFnV 2 len1)))
noncomputable def q3i(K:PySem.W.Frag)(a:Adr)(r:Nat->List W->FR):List S->SR:=
 (dSeq (dSet 5 (dIxV 2 (dFnV 4 len1)))
  (dSeq (dSetO 6 (dLst dNil))
  (dSeq (dForP 7 8 (srcP (dCallVX lams r 1 (dCons (dVar 5) dNil)))
  (q3g K a r))
  (dApp 4 (dCons (dVar 6) dNil)))))
noncomputable def q5p(K:PySem.W.Frag)(a:Adr)(r:Nat->List W->FR):List S->SR:=
 (dSeq (dSetO 2 (dLst (dCons (dVar 0) dNil)))
  (dSeq (dSetDV 3 0 (.many .bl) (.int 0))
  (dSeq (dSetO 4 (dLst dNil))
  (dSeq (whileD (q3h K a r)
  (q3i K a r) 1000000)
  (dRet (dTup (dCons (dVar 4) (dCons (dVar 2) dNil))))))))
noncomputable def q31(K:PySem.W.Frag)(a:Adr)(r:Nat->List W->FR):List S->SR:=
 (dSeq (dIfS (dTest (dOp ltW (dVar 1) (dFn len1 (dCons (dVar 0) dNil))))
  (dRet (dOp ixW (dVar 0) (dVar 1)))
  dNx)
  (dRet (dC (.int 0))))
noncomputable def q4v(K:PySem.W.Frag)(a:Adr)(r:Nat->List W->FR):List S->SR:=
 (dSeq (dSet 2 (dOp modW (dOp mulW (dOp addX (dVar 0) (dOp mulW (dC (.int 7919)) (dVar 1))) (dC (.int 48271))) (dC (.int 2147483647))))
  (dRet (dOp modW (dOp addX (dOp addX (dOp mulW (dVar 2) (dVar 2)) (dOp mulW (dC (.int 7)) (dVar 2))) (dVar 1)) (dC (.int 2147483629)))))
noncomputable def q6b(K:PySem.W.Frag)(a:Adr)(r:Nat->List W->FR):List S->SR:=
 (dSeq (dApp 2 (dCons (dOp eq2 (dOp modW (dVar 0) (dC (.int 2))) (dC (.int 1))) dNil))
  (dSet 0 (dOp fdivW (dVar 0) (dC (.int 2)))))
noncomputable def q5y(K:PySem.W.Frag)(a:Adr)(r:Nat->List W->FR):List S->SR:=
 (dSeq (dSetO 2 (dLst dNil))
  (dSeq (dForR 3 rng1 (dCons (dVar 1) dNil)
  (q6b K a r))
  (dSeq (dMut0 2 List.reverse)
  (dRet (dFn tup1 (dCons (dVar 2) dNil))))))
noncomputable def q4c(K:PySem.W.Frag)(a:Adr)(r:Nat->List W->FR):List S->SR:=
 (dSeq (dSet 3 (dOp modW (dVar 0) (dC (.int 7))))
  (dSeq (dSet 4 (dOp fdivW (dVar 0) (dC (.int 7))))
  (dSeq (dIfS (dOr (dTest (dOp eq2 (dVar 3) (dC (.int 0)))) (dAnd (dTest (dOp eq2 (dVar 1) (dC (.int 0)))) (dOr (dTest (dOp eq2 (dVar 2) (dC (.int 0)))) (dTest (dOp eq2 (dVar 3) (dC (.int 1)))))))
  (dRet (dTup (dCons (dC (.str "is")) (dCons (dOp eq2 (dOp modW (dVar 4) (dC (.int 2))) (dC (.int 1))) dNil))))
  dNx)
  (dSeq (dIfS (dOr (dTest (dOp eq2 (dVar 2) (dC (.int 0)))) (dTest (dOp eq2 (dVar 3) (dC (.int 1)))))
  (dRet (dTup (dCons (dC (.str "at")) (dCons (dOp modW (dVar 4) (dVar 1)) dNil))))
  dNx)
  (dSeq (dSet 5 (dCall (r q1j) (dCons (dCall (r q1h) (dCons (dVar 4) (dCons (dC (.int 1)) dNil))) (dCons (dVar 1) (dCons (dOp subW (dVar 2) (dC (.int 1))) dNil)))))
  (dSeq (dIfS (dTest (dOp eq2 (dVar 3) (dC (.int 2))))
  (dRet (dTup (dCons (dC (.str "not")) (dCons (dVar 5) dNil))))
  dNx)
  (dRet (dTup (dCons (dOp ixW (dFz (dLst (dCons (dC (.str "and")) (dCons (dC (.str "or")) (dCons (dC (.str "odd")) (dCons (dC (.str "odd")) dNil)))))) (dOp subW (dVar 3) (dC (.int 3)))) (dCons (dVar 5) (dCons (dCall (r q1j) (dCons (dCall (r q1h) (dCons (dVar 4) (dCons (dC (.int 2)) dNil))) (dCons (dVar 1) (dCons (dOp subW (dVar 2) (dC (.int 1))) dNil)))) dNil)))))))))))
noncomputable def q2z(K:PySem.W.Frag)(a:Adr)(r:Nat->List W->FR):List S->SR:=
 (dSet 3 (dTup (dCons (dC (.str "and")) (dCons (dVar 3) (dCons (dTup (dCons (dC (.str "at")) (dCons (dOp addX (dVar 0) (dVar 4)) dNil))) dNil)))))
noncomputable def q3l(K:PySem.W.Frag)(a:Adr)(r:Nat->List W->FR):List S->SR:=
 (dSeq (dSet 3 (dTup (dCons (dC (.str "is")) (dCons (dC (.bl true)) dNil))))
  (dSeq (dIfS (dTest (dOp gtW (dVar 0) (dC (.int 0))))
  (dSet 3 (dTup (dCons (dC (.str "at")) (dCons (dC (.int 0)) dNil))))
  dNx)
  (dSeq (dForR 4 rng2 (dCons (dOp addX (dVar 2) (dC (.int 1))) (dCons (dVar 1) dNil))
  (q2z K a r))
  (dRet (dTup (dCons (dC (.str "odd")) (dCons (dTup (dCons (dC (.str "at")) (dCons (dOp addX (dVar 0) (dVar 2)) dNil))) (dCons (dVar 3) dNil))))))))
noncomputable def q4w(K:PySem.W.Frag)(a:Adr)(r:Nat->List W->FR):List S->SR:=
 (dIfS (dOr (dTest (dOp ltW (dOp modW (dVar 3) (dC (.int 3))) (dC (.int 2)))) (dTest (dOp eq2 (dVar 2) (dC (.int 0)))))
  (dSet 0 (dTup (dCons (dC (.str "not")) (dCons (dVar 0) dNil))))
  (dSet 0 (dTup (dCons (dOp ixW (dFz (dLst (dCons (dC (.str "odd")) (dCons (dC (.str "and")) dNil)))) (dOp modW (dVar 3) (dC (.int 2)))) (dCons (dVar 0) (dCons (dTup (dCons (dC (.str "or")) (dCons (dTup (dCons (dC (.str "at")) (dCons (dOp modW (dVar 3) (dVar 2)) dNil))) (dCons (dTup (dCons (dC (.str "is")) (dCons (dOp eq2 (dOp modW (dVar 3) (dC (.int 2))) (dC (.int 1))) dNil))) dNil)))) dNil))))))
noncomputable def q4e(K:PySem.W.Frag)(a:Adr)(r:Nat->List W->FR):List S->SR:=
 (dSeq (dForR 3 rng1 (dCons (dVar 1) dNil)
  (q4w K a r))
  (dRet (dVar 0)))
noncomputable def q2l(K:PySem.W.Frag)(a:Adr)(r:Nat->List W->FR):List S->SR:=
 (dApp 9 (dCons (dCall (r q1j) (dCons (dCall (r q1h) (dCons (dCall (r q0r) (dCons (dVar 0) (dCons (dOp addX (dC (.int 6)) (dVar 6)) dNil))) (dCons (dOp addX (dC (.int 9)) (dVar 6)) dNil))) (dCons (dOp addX (dVar 2) (dVar 3)) (dCons (dVar 4) dNil)))) dNil))
noncomputable def q2m(K:PySem.W.Frag)(a:Adr)(r:Nat->List W->FR):List S->SR:=
 (dSeq (dSet 7 (dCall (r q1h) (dCons (dCall (r q0r) (dCons (dVar 0) (dCons (dOp addX (dC (.int 2)) (dVar 6)) dNil))) (dCons (dVar 6) dNil))))
  (dSeq (dSet 8 (dCall (r q1j) (dCons (dOp fdivW (dVar 7) (dC (.int 2))) (dCons (dOp addX (dVar 2) (dVar 3)) (dCons (dVar 4) dNil)))))
  (dSeq (dIfS (dTest (dOp eq2 (dOp modW (dCall (r q0r) (dCons (dVar 0) (dCons (dC (.int 1)) dNil))) (dC (.int 3))) (dC (.int 1))))
  (dSet 8 (dCall (r q2s) (dCons (dVar 2) (dCons (dVar 3) (dCons (dVar 6) dNil)))))
  dNx)
  (dApp 5 (dCons (dTup (dCons (dOp eq2 (dOp modW (dVar 7) (dC (.int 2))) (dC (.int 1))) (dCons (dVar 8) dNil))) dNil)))))
noncomputable def q32(K:PySem.W.Frag)(a:Adr)(r:Nat->List W->FR):List S->SR:=
 (dSeq (dSet 1 (dCall (r q0r) (dCons (dVar 0) (dCons (dC (.int 0)) dNil))))
  (dSeq (dSet 2 (dOp modW (dVar 1) (dC (.int 4))))
  (dSeq (dSet 3 (dOp modW (dOp fdivW (dVar 1) (dC (.int 4))) (dC (.int 5))))
  (dSeq (dSet 4 (dOp modW (dOp fdivW (dVar 1) (dC (.int 140))) (dC (.int 4))))
  (dSeq (dIfS (dTest (dOp gtW (dOp addX (dVar 2) (dVar 3)) (dC (.int 5))))
  (dSet 4 (dOp modW (dVar 4) (dC (.int 2))))
  dNx)
  (dSeq (dSetO 5 (dLst dNil))
  (dSeq (dForR 6 rng1 (dCons (dVar 3) dNil)
  (q2m K a r))
  (dSeq (dSetO 9 (dLst dNil))
  (dSeq (dForR 6 rng1 (dCons (dOp modW (dOp fdivW (dVar 1) (dC (.int 20))) (dC (.int 7))) dNil)
  (q2l K a r))
  (dSeq (dSet 10 (dOp fdivW (dCall (r q0r) (dCons (dVar 0) (dCons (dC (.int 1)) dNil))) (dC (.int 3))))
  (dSeq (dIfS (dAnd (dTest (dOp eq2 (dOp modW (dVar 10) (dC (.int 4))) (dC (.int 1)))) (dAnd (dTest (dOp ltW (dOp addX (dVar 2) (dVar 3)) (dC (.int 5)))) (dBorrowT (dTest (dOp ne2 (dVar 9) (dFz (dLst dNil)))))))
  (dPut 9 (dCall (r q09) (dCons (dIxV 9 (dOp modW (dOp fdivW (dVar 10) (dC (.int 4))) (dFnV 9 len1))) (dCons (dOp modW (dOp fdivW (dVar 10) (dC (.int 28))) (dC (.int 50))) (dCons (dOp addX (dVar 2) (dVar 3)) dNil)))) (dOp modW (dOp fdivW (dVar 10) (dC (.int 4))) (dFnV 9 len1)))
  dNx)
  (dSeq (dIfS (dAnd (dTest (dOp eq2 (dOp modW (dVar 10) (dC (.int 4))) (dC (.int 2)))) (dAnd (dTest (dOp ltW (dOp addX (dVar 2) (dVar 3)) (dC (.int 5)))) (dTest (dOp gtW (dVar 3) (dC (.int 0))))))
  (dSeq (dSet2 11 8 (dIxV 5 (dOp modW (dOp fdivW (dVar 10) (dC (.int 4))) (dVar 3))))
  (dPut 5 (dTup (dCons (dVar 11) (dCons (dCall (r q09) (dCons (dVar 8) (dCons (dOp modW (dOp fdivW (dVar 10) (dC (.int 28))) (dC (.int 50))) (dCons (dOp addX (dVar 2) (dVar 3)) dNil)))) dNil))) (dOp modW (dOp fdivW (dVar 10) (dC (.int 4))) (dVar 3))))
  dNx)
  (dRet (dTup (dCons (dVar 2) (dCons (dFn tup1 (dCons (dVar 5) dNil)) (dCons (dFn tup1 (dCons (dVar 9) dNil)) dNil)))))))))))))))))
noncomputable def q23(K:PySem.W.Frag)(a:Adr)(r:Nat->List W->FR):List S->SR:=
 (dSeq (dSet 2 (dOrV (dIsi K (.ref a.NoName) (dVar 0)) (dOrV (dIsi K (.ref a.BadText) (dVar 0)) (dOrV (dIsi K (.ref a.NoRow) (dVar 0)) (dIsi K (.ref a.NoTable) (dVar 0))))))
  (dSeq (dIfS (dOr (dTru (dVar 2)) (dOr (dTru (dIsi K (.ref a.TooGreat) (dVar 0))) (dTru (dIsi K (.ref a.BadSheet) (dVar 0)))))
  (dRet (dC (.bl false)))
  dNx)
  (dSeq (dSet 3 (dFz (dLst (dCons (dIsi K (.ref a.NoPlace) (dVar 0)) (dCons (dIsi K (.ref a.UnlikeSizes) (dVar 0)) (dCons (dIsi K (.ref a.NoMachine) (dVar 0)) dNil))))))
  (dRet (dAndV (dOp eq2 (dVar 3) (dFz (dLst (dCons (dOp eq2 (dVar 1) (dC (.int 0))) (dCons (dOp eq2 (dVar 1) (dC (.int 1))) (dCons (dOp eq2 (dVar 1) (dC (.int 2))) dNil)))))) (dAndV (dIsi K (.ref a.CircuitError) (dVar 0)) (dIsi K (.type "ValueError") (dVar 0))))))))
noncomputable def q1y(K:PySem.W.Frag)(a:Adr)(r:Nat->List W->FR):List S->SR:=
 (dSeq (dTry2 K a.NoPlace a.UnlikeSizes 5 5 6
  (dIfS (dTest (dOp eq2 (dVar 4) (dC (.int 0))))
  (dDrop (dCall (r q2a) (dCons (dVar 0) (dCons (dVar 1) (dCons (dVar 2) dNil)))))
  (dIfS (dTest (dOp eq2 (dVar 4) (dC (.int 1))))
  (dDrop (dCall (r q39) (dCons (dVar 0) (dCons (dVar 3) dNil))))
  (dDrop (dCall (r q1z) (dCons (dVar 0) dNil)))))
  (dRet (dOp ixW (dFz (dLst (dCons (dC (.str "other")) (dCons (dC (.str "place")) dNil)))) (dFn int1 (dCons (dCallH (r q1l) (dCons (dVar 5) (dCons (dC (.int 0)) dNil))) dNil))))
  (dRet (dOp ixW (dFz (dLst (dCons (dC (.str "other")) (dCons (dC (.str "sizes")) dNil)))) (dFn int1 (dCons (dCallH (r q1l) (dCons (dVar 5) (dCons (dC (.int 1)) dNil))) dNil)))))
  (dRet (dC (.str "none"))))
noncomputable def q6g(K:PySem.W.Frag)(a:Adr)(r:Nat->List W->FR):Den W:=
 (dOp ixW (dVar 0) (dC (.int 1)))
noncomputable def q4f(K:PySem.W.Frag)(a:Adr)(r:Nat->List W->FR):List S->SR:=
 (dSeq (dSetO 3 (dList (dCons (dOp ixW (dVar 0) (dC (.int 1))) dNil)))
  (dSeq (dSetO 4 (dList (dCons (dOp ixW (dVar 0) (dC (.int 2))) dNil)))
  (dSeq (dSet 5 (dTup (dCons (dC (.str "at")) (dCons (dOp addX (dOp addX (dOp ixW (dVar 0) (dC (.int 0))) (dFn len1 (dCons (dOp ixW (dVar 0) (dC (.int 1))) dNil))) (dOp ixW (dVar 2) (dC (.int 0)))) dNil))))
  (dSeq (dSet 6 (dThaw (dOp ixW (dOp addX (dFz (dComp [] (dVar 3) dYes (q6g K a r))) (dVar 4)) (dVar 1))))
  (dSeq (dSet 7 (dFz (dLst (dCons (dTup (dCons (dC (.str "and")) (dCons (dTup (dCons (dC (.str "is")) (dCons (dC (.bl false)) dNil))) (dCons (dTup (dCons (dC (.str "not")) (dCons (dVar 5) dNil))) dNil)))) (dCons (dTup (dCons (dC (.str "and")) (dCons (dVar 5) (dCons (dTup (dCons (dC (.str "is")) (dCons (dC (.bl false)) dNil))) dNil)))) (dCons (dTup (dCons (dC (.str "or")) (dCons (dTup (dCons (dC (.str "not")) (dCons (dVar 5) dNil))) (dCons (dVar 6) dNil)))) dNil))))))
  (dSeq (dSet 8 (dOp ixW (dOp addX (dVar 7) (dFz (dLst (dCons (dTup (dCons (dC (.str "odd")) (dCons (dTup (dCons (dC (.str "and")) (dCons (dVar 6) (dCons (dVar 5) dNil)))) (dCons (dVar 6) dNil)))) dNil)))) (dOp ixW (dVar 2) (dC (.int 1)))))
  (dSeq (dIfS (dTest (dOp ltW (dVar 1) (dFnV 3 len1)))
  (dPut 3 (dTup (dCons (dOp ixW (dIxV 3 (dVar 1)) (dC (.int 0))) (dCons (dVar 8) dNil))) (dVar 1))
  (dPut 4 (dVar 8) (dOp subW (dVar 1) (dFnV 3 len1))))
  (dRet (dTup (dCons (dOp ixW (dVar 0) (dC (.int 0))) (dCons (dFn tup1 (dCons (dVar 3) dNil)) (dCons (dFn tup1 (dCons (dVar 4) dNil)) dNil))))))))))))
noncomputable def q4x(K:PySem.W.Frag)(a:Adr)(r:Nat->List W->FR):List S->SR:=
 (dSeq (dIfS (dAnd (dTest (dOp eq2 (dOp modW (dVar 1) (dC (.int 2))) (dC (.int 1)))) (dTest (dOp gtW (dFn len1 (dCons (dVar 0) dNil)) (dC (.int 0)))))
  (dRet (dSl (dVar 0) (dPart (dC (.int 1))) dNoPart))
  dNx)
  (dRet (dOp addX (dVar 0) (dTup (dCons (dC (.bl true)) dNil)))))
noncomputable def x0c(K:PySem.W.Frag)(a:Adr)(r:Nat->List W->FR):Den W:=
 (dCall (r q0t) (dCons (dVar 1) (dCons (dVar 2) (dCons (dVar 3) (dCons (dVar 4) (dCons (dVar 0) dNil))))))
noncomputable def q77(K:PySem.W.Frag)(a:Adr)(r:Nat->List W->FR):Den W:=
 (dCall (r q17) (dCons (dVar 0) (dCons (dOp ixW (dVar 1) (dC (.int 0))) dNil)))
noncomputable def x1z(K:PySem.W.Frag)(a:Adr)(r:Nat->List W->FR):List S->SR:=
 (dSeq (dSet 1 (dCall (r q2d) (dCons (dVar 0) dNil)))
  (dSeq (dSet 2 (dFn len1 (dCons (dOp ixW (dVar 1) (dC (.int 1))) dNil)))
  (dSeq (dSet 3 (dOp addX (dVar 2) (dFn len1 (dCons (dOp ixW (dVar 1) (dC (.int 2))) dNil))))
  (dSeq (dSet 4 (dCall (r q0r) (dCons (dVar 0) (dCons (dC (.int 14)) dNil))))
  (dSeq (dSet 5 (dAndV (dOp gtW (dOp modW (dVar 4) (dC (.int 3))) (dC (.int 0))) (dOp gtW (dVar 3) (dC (.int 0)))))
  (dSeq (dIfS (dTru (dVar 5))
  (dSet 1 (dCall (r q2p) (dCons (dVar 1) (dCons (dOp modW (dOp fdivW (dVar 4) (dC (.int 3))) (dVar 3)) (dCons (dTup (dCons (dOp ixW (dFz (dLst (dCons (dC (.int 0)) (dCons (dC (.int 1)) (dCons (dOp powW (dC (.int 10)) (dC (.int 12))) dNil))))) (dOp modW (dOp fdivW (dVar 4) (dC (.int 90))) (dC (.int 3)))) (dCons (dOp modW (dOp fdivW (dVar 4) (dC (.int 270))) (dC (.int 4))) dNil))) dNil)))))
  dNx)
  (dSeq (dSet 6 (dCall (r q17) (dCons (dCall (r q0r) (dCons (dVar 0) (dCons (dC (.int 15)) dNil))) (dCons (dVar 2) dNil))))
  (dSeq (dSet 7 (dCall (r q17) (dCons (dCall (r q0r) (dCons (dVar 0) (dCons (dC (.int 16)) dNil))) (dCons (dOp ixW (dVar 1) (dC (.int 0))) dNil))))
  (dSeq (dSet 8 (dCall (r q0r) (dCons (dVar 0) (dCons (dC (.int 17)) dNil))))
  (dSeq (dIfS (dTest (dOp eq2 (dOp modW (dVar 8) (dC (.int 4))) (dC (.int 1))))
  (dSet 6 (dCall (r q10) (dCons (dVar 6) (dCons (dOp fdivW (dVar 8) (dC (.int 4))) dNil))))
  dNx)
  (dSeq (dIfS (dTest (dOp eq2 (dOp modW (dVar 8) (dC (.int 4))) (dC (.int 2))))
  (dSet 7 (dCall (r q10) (dCons (dVar 7) (dCons (dOp fdivW (dVar 8) (dC (.int 4))) dNil))))
  dNx)
  (dSeq (dSetO 9 (dCompR rng1 [1] (dCons (dOp modW (dOp fdivW (dVar 8) (dC (.int 8))) (dC (.int 7))) dNil) dYes (q77 K a r)))
  (dSeq (dIns 9 (dCons (dOp modW (dOp fdivW (dVar 8) (dC (.int 56))) (dOp addX (dFnV 9 len1) (dC (.int 1)))) (dCons (dVar 7) dNil)))
  (dSeq (dSetO 10 (dLst (dCons (dC (.str "none")) (dCons (dC (.str "none")) (dCons (dC (.str "none")) dNil)))))
  (dSeq (dIfS (dOr (dTest (dOp eq2 (dOp modW (dVar 8) (dC (.int 4))) (dC (.int 1)))) (dTest (dOp eq2 (dOp modW (dVar 8) (dC (.int 4))) (dC (.int 2)))))
  (dPut 10 (dC (.str "sizes")) (dC (.int 0)))
  dNx)
  (dSeq (dIfS (dTest (dOp eq2 (dOp modW (dVar 8) (dC (.int 4))) (dC (.int 2))))
  (dPut 10 (dC (.str "sizes")) (dC (.int 1)))
  dNx)
  (dSeq (dIfS (dTru (dVar 5))
  (dSetO 10 (dLst (dCons (dC (.str "place")) (dCons (dC (.str "place")) (dCons (dC (.str "place")) dNil)))))
  dNx)
  (dSeq (dIfS (dTest (dOp ne2 (dCall (r q0t) (dCons (dVar 1) (dCons (dVar 6) (dCons (dVar 7) (dCons (dFz (dLst dNil)) (dCons (dC (.int 1)) dNil)))))) (dIxV 10 (dC (.int 2)))))
  (dRet (dC (.bl false)))
  dNx)
  (dRet (dBorrow (dOp eq2 (dFz (dCompR rng1 [1,6,7,9] (dCons (dC (.int 3)) dNil) dYes (x0c K a r))) (dVar 10))))))))))))))))))))))
noncomputable def body(K:PySem.W.Frag)(a:Adr)(r:Nat->List W->FR)(ws:List W):Nat->FR
 |0=>if ws.length=2 then(q2q K a r (init 5 ws)).fn else .no
 |1=>if ws.length=2 then(q4t K a r (init 2 ws)).fn else .no
 |2=>if ws.length=1 then(q4b K a r (init 4 ws)).fn else .no
 |3=>if ws.length=3 then(q4o K a r (init 3 ws)).fn else .no
 |4=>if ws.length=2 then(q6o K a r (init 6 ws)).fn else .no
 |5=>if ws.length=1 then(q2u K a r (init 3 ws)).fn else .no
 |6=>if ws.length=2 then(q22 K a r (init 2 ws)).fn else .no
 |7=>if ws.length=1 then(q3c K a r (init 1 ws)).fn else .no
 |8=>if ws.length=1 then(q3q K a r (init 1 ws)).fn else .no
 |9=>if ws.length=3 then(q6p K a r (init 5 ws)).fn else .no
 |10=>if ws.length=2 then(q66 K a r (init 5 ws)).fn else .no
 |11=>if ws.length=1 then(q5h K a r (init 3 ws)).fn else .no
 |12=>if ws.length=1 then(q5x K a r (init 1 ws)).fn else .no
 |13=>if ws.length=1 then(q3r K a r (init 3 ws)).fn else .no
 |14=>if ws.length=2 then(q5p K a r (init 9 ws)).fn else .no
 |15=>if ws.length=2 then(q31 K a r (init 2 ws)).fn else .no
 |16=>if ws.length=2 then(q4v K a r (init 3 ws)).fn else .no
 |17=>if ws.length=2 then(q5y K a r (init 4 ws)).fn else .no
 |18=>if ws.length=3 then(q4c K a r (init 6 ws)).fn else .no
 |19=>if ws.length=3 then(q3l K a r (init 5 ws)).fn else .no
 |20=>if ws.length=3 then(q4e K a r (init 4 ws)).fn else .no
 |21=>if ws.length=1 then(q32 K a r (init 12 ws)).fn else .no
 |22=>if ws.length=2 then(q23 K a r (init 4 ws)).fn else .no
 |23=>if ws.length=5 then(q1y K a r (init 6 ws)).fn else .no
 |24=>if ws.length=3 then(q4f K a r (init 9 ws)).fn else .no
 |25=>if ws.length=2 then(q4x K a r (init 2 ws)).fn else .no
 |26=>if ws.length=1 then(x1z K a r (init 11 ws)).fn else .no
 |27=>if ws.length=3 then exprFR (q12 K a r (ws.map .fr))else .no
 |_=>.no
noncomputable def run(K:PySem.W.Frag)(a:Adr):Nat->Nat->List W->FR
 |0,_,_=>.no
 |n+1,i,ws=>body K a (run K a n) ws i
theorem q13:run K a (n+1) q2c ws=if ws.length=2 then(q2q K a (run K a n) (init 5 ws)).fn else .no:=rfl
theorem q4y:run K a (n+1) q3y ws=if ws.length=2 then(q4t K a (run K a n) (init 2 ws)).fn else .no:=rfl
theorem q4g:run K a (n+1) q3f ws=if ws.length=1 then(q4b K a (run K a n) (init 4 ws)).fn else .no:=rfl
theorem q4d:run K a (n+1) q2a ws=if ws.length=3 then(q4o K a (run K a n) (init 3 ws)).fn else .no:=rfl
theorem q6c:run K a (n+1) q39 ws=if ws.length=2 then(q6o K a (run K a n) (init 6 ws)).fn else .no:=rfl
theorem q20:run K a (n+1) q1k ws=if ws.length=1 then(q2u K a (run K a n) (init 3 ws)).fn else .no:=rfl
theorem q29:run K a (n+1) q1c ws=if ws.length=2 then(q22 K a (run K a n) (init 2 ws)).fn else .no:=rfl
theorem q3m:run K a (n+1) q14 ws=if ws.length=1 then(q3c K a (run K a n) (init 1 ws)).fn else .no:=rfl
theorem q33:run K a (n+1) q2g ws=if ws.length=1 then(q3q K a (run K a n) (init 1 ws)).fn else .no:=rfl
theorem q6h:run K a (n+1) q4m ws=if ws.length=3 then(q6p K a (run K a n) (init 5 ws)).fn else .no:=rfl
theorem q67:run K a (n+1) q48 ws=if ws.length=2 then(q66 K a (run K a n) (init 5 ws)).fn else .no:=rfl
theorem q5t:run K a (n+1) q4a ws=if ws.length=1 then(q5h K a (run K a n) (init 3 ws)).fn else .no:=rfl
theorem q6d:run K a (n+1) q4s ws=if ws.length=1 then(q5x K a (run K a n) (init 1 ws)).fn else .no:=rfl
theorem q34:run K a (n+1) q1z ws=if ws.length=1 then(q3r K a (run K a n) (init 3 ws)).fn else .no:=rfl
theorem q5i:run K a (n+1) q4n ws=if ws.length=2 then(q5p K a (run K a n) (init 9 ws)).fn else .no:=rfl
theorem q4j:run K a (n+1) q0r ws=if ws.length=2 then(q31 K a (run K a n) (init 2 ws)).fn else .no:=rfl
theorem q5b:run K a (n+1) q1h ws=if ws.length=2 then(q4v K a (run K a n) (init 3 ws)).fn else .no:=rfl
theorem q6e:run K a (n+1) q17 ws=if ws.length=2 then(q5y K a (run K a n) (init 4 ws)).fn else .no:=rfl
theorem q4h:run K a (n+1) q1j ws=if ws.length=3 then(q4c K a (run K a n) (init 6 ws)).fn else .no:=rfl
theorem q36:run K a (n+1) q2s ws=if ws.length=3 then(q3l K a (run K a n) (init 5 ws)).fn else .no:=rfl
theorem q4z:run K a (n+1) q09 ws=if ws.length=3 then(q4e K a (run K a n) (init 4 ws)).fn else .no:=rfl
theorem q4k:run K a (n+1) q2d ws=if ws.length=1 then(q32 K a (run K a n) (init 12 ws)).fn else .no:=rfl
theorem q2e:run K a (n+1) q1l ws=if ws.length=2 then(q23 K a (run K a n) (init 4 ws)).fn else .no:=rfl
theorem q1r:run K a (n+1) q0t ws=if ws.length=5 then(q1y K a (run K a n) (init 6 ws)).fn else .no:=rfl
theorem q40:run K a (n+1) q2p ws=if ws.length=3 then(q4f K a (run K a n) (init 9 ws)).fn else .no:=rfl
theorem q5c:run K a (n+1) q10 ws=if ws.length=2 then(q4x K a (run K a n) (init 2 ws)).fn else .no:=rfl
theorem q6q:run K a (n+1) q76 ws=if ws.length=1 then(x1z K a (run K a n) (init 11 ws)).fn else .no:=rfl
theorem q19:run K a (n+1) q0p ws=if ws.length=3 then exprFR (q12 K a (run K a n) (ws.map .fr))else .no:=rfl
section
variable{P:Program}{w:World}{base:Heap}
structure Mks(K:PySem.W.Frag)(mg:Str->Option Value):Prop where
 machine_of:∀f oc od fd sl,mg "machine_of"=some (.ref f)->K.lookup f=some ⟨oc,od,.func fd,sl⟩->MakK K "machine_of" fd.code
structure Ats(K:PySem.W.Frag)(mg:Str->Option Value):Prop where
 value:At K mg "value" q49 ["form", "row"]
 thing_at:At K mg "thing_at" q27 ["things", "place"]
 places_in:At K mg "places_in" q2v ["form"]
 stepped:At K mg "stepped" q3o ["circuit", "state", "row"]
 gone:At K mg "gone" q6a ["circuit", "rows"]
 check_circuit:At K mg "check_circuit" q1f ["circuit"]
 check_length:At K mg "check_length" q1s ["truths", "length"]
 first_state:At K mg "first_state" q1o ["circuit"]
 next_forms:At K mg "next_forms" q11 ["circuit"]
 moved:At K mg "moved" q3z ["circuit", "state", "row"]
 row_of:At K mg "row_of" q4i ["number", "many"]
 rows_many:At K mg "rows_many" q2w ["many"]
 all_rows:At K mg "all_rows" q2t ["many"]
 machine_of:At K mg "machine_of" q1m ["circuit"]
 come_to:At K mg "come_to" q3p ["begin", "pairs_of"]
 _law_cell_at:At K mg "_law_cell_at" q1t ["_law_script", "_law_k"]
 _law_mixed:At K mg "_law_mixed" q2h ["_law_cell", "_law_k"]
 _law_row:At K mg "_law_row" q28 ["_law_number", "_law_many"]
 _law_form:At K mg "_law_form" q2x ["_law_cell", "_law_places", "_law_deep"]
 _law_counting:At K mg "_law_counting" q1n ["_law_many", "_law_size", "_law_k"]
 _law_taller:At K mg "_law_taller" q15 ["_law_form_here", "_law_many", "_law_places"]
 _law_circuit:At K mg "_law_circuit" q1u ["_law_script"]
 _law_alone:At K mg "_law_alone" q2i ["_law_e", "_law_due"]
 _law_word:At K mg "_law_word" q2y ["_law_circuit_here", "_law_state", "_law_row_here", "_law_rows", "_law_way"]
 _law_spoilt:At K mg "_law_spoilt" q1p ["_law_circuit_here", "_law_at", "_law_more"]
 _law_sized:At K mg "_law_sized" q2j ["_law_row_here", "_law_cell"]
 law:At K mg "law" q3k ["_law_script"]
structure Cals(P:Program)(w:World)(K:PySem.W.Frag)(mg:Str->Option Value)(base:Heap)(a:Adr)(n:Nat):Prop where
 value:Cal P w K mg base n "value" ["form", "row"] (spF K (run K a n q2c))
 thing_at:Cal P w K mg base n "thing_at" ["things", "place"] (spF K (run K a n q3y))
 places_in:Cal P w K mg base n "places_in" ["form"] (spF K (run K a n q3f))
 stepped:Cal P w K mg base n "stepped" ["circuit", "state", "row"] (spF K (run K a n q2a))
 gone:Cal P w K mg base n "gone" ["circuit", "rows"] (spF K (run K a n q39))
 check_circuit:Cal P w K mg base n "check_circuit" ["circuit"] (spF K (run K a n q1k))
 check_length:Cal P w K mg base n "check_length" ["truths", "length"] (spF K (run K a n q1c))
 first_state:Cal P w K mg base n "first_state" ["circuit"] (spF K (run K a n q14))
 next_forms:Cal P w K mg base n "next_forms" ["circuit"] (spF K (run K a n q2g))
 moved:Cal P w K mg base n "moved" ["circuit", "state", "row"] (spF K (run K a n q4m))
 row_of:Cal P w K mg base n "row_of" ["number", "many"] (spF K (run K a n q48))
 rows_many:Cal P w K mg base n "rows_many" ["many"] (spF K (run K a n q4a))
 all_rows:Cal P w K mg base n "all_rows" ["many"] (spF K (run K a n q4s))
 machine_of:Cal P w K mg base n "machine_of" ["circuit"] (spF K (run K a n q1z))
 come_to:Cal P w K mg base n "come_to" ["begin", "pairs_of"] (spF K (run K a n q4n))
 _law_cell_at:Cal P w K mg base n "_law_cell_at" ["_law_script", "_law_k"] (spF K (run K a n q0r))
 _law_mixed:Cal P w K mg base n "_law_mixed" ["_law_cell", "_law_k"] (spF K (run K a n q1h))
 _law_row:Cal P w K mg base n "_law_row" ["_law_number", "_law_many"] (spF K (run K a n q17))
 _law_form:Cal P w K mg base n "_law_form" ["_law_cell", "_law_places", "_law_deep"] (spF K (run K a n q1j))
 _law_counting:Cal P w K mg base n "_law_counting" ["_law_many", "_law_size", "_law_k"] (spF K (run K a n q2s))
 _law_taller:Cal P w K mg base n "_law_taller" ["_law_form_here", "_law_many", "_law_places"] (spF K (run K a n q09))
 _law_circuit:Cal P w K mg base n "_law_circuit" ["_law_script"] (spF K (run K a n q2d))
 _law_alone:Cal P w K mg base n "_law_alone" ["_law_e", "_law_due"] (spF K (run K a n q1l))
 _law_word:Cal P w K mg base n "_law_word" ["_law_circuit_here", "_law_state", "_law_row_here", "_law_rows", "_law_way"] (spF K (run K a n q0t))
 _law_spoilt:Cal P w K mg base n "_law_spoilt" ["_law_circuit_here", "_law_at", "_law_more"] (spF K (run K a n q2p))
 _law_sized:Cal P w K mg base n "_law_sized" ["_law_row_here", "_law_cell"] (spF K (run K a n q10))
 law:Cal P w K mg base n "law" ["_law_script"] (spF K (run K a n q76))
 lam:FnV P w K mg base (CX1 P w) n (spVX K lams (run K a n))
structure CalsH(P:Program)(w:World)(K:PySem.W.Frag)(mg:Str->Option Value)(base:Heap)(a:Adr)(n:Nat):Prop where
 z:True
 _law_alone:CalH P w K mg base n "_law_alone" ["_law_e", "_law_due"] (spF K (run K a n q1l))
theorem x0d(A:Ats K mg)(B:Blt mg)(M:Exs K mg a):CalH P w K mg base (n+1) "_law_alone" ["_law_e", "_law_due"] (spF K (run K a (n+1) q1l)):=by
 refine conH A._law_alone sc__law_alone (fun ws hw=>?_) (fun ws hw f cdv A outer s H Z hr=>⟨q23 K a (run K a n),(q0d (q0k 2 sc__law_alone.nd (q6f (q1d (c0:=.ref _) rfl (q1b M.m_NoName) B.b_isinstance (dv 0)) (q6f (q1d (c0:=.ref _) rfl (q1b M.m_BadText) B.b_isinstance (dv 0)) (q6f (q1d (c0:=.ref _) rfl (q1b M.m_NoRow) B.b_isinstance (dv 0)) (q5l (q1d (c0:=.ref _) rfl (q1b M.m_NoTable) B.b_isinstance (dv 0)))))))
  (q0d (q02 (dt_w (q5f (q4q (dv 2)) (q5f (q4q (q1d (c0:=.ref _) rfl (q1b M.m_TooGreat) B.b_isinstance (dv 0))) (q5k (q4q (q1d (c0:=.ref _) rfl (q1b M.m_BadSheet) B.b_isinstance (dv 0)))))))
  (q0f (q0y q6v))
  q0z)
  (q0d (q0k 3 sc__law_alone.nd (q1x (q08 (q0a (q1d (c0:=.ref _) rfl (q1b M.m_NoPlace) B.b_isinstance (dv 0)) (q0a (q1d (c0:=.ref _) rfl (q1b M.m_UnlikeSizes) B.b_isinstance (dv 0)) (q0a (q1d (c0:=.ref _) rfl (q1b M.m_NoMachine) B.b_isinstance (dv 0)) q0c))))))
  (q0f (q0y (q6l (q3j (q60 hr) (dv 3) (q1x (q08 (q0a (q3j (q60 hr) (dv 1) q0b) (q0a (q3j (q60 hr) (dv 1) q0b) (q0a (q3j (q60 hr) (dv 1) q0b) q0c)))))) (q6l (q1d (c0:=.ref _) rfl (q1b M.m_CircuitError) B.b_isinstance (dv 0)) (q5l (q1d (c0:=.ty _) rfl (x4b PyProof.Rows.Boot.«ValueError» B.b_ValueError) B.b_isinstance (dv 0)))))))))),?_⟩)
 ·rw[q2e]at hw;split at hw
  ·assumption
  ·exact absurd rfl hw
 ·rw[q2e]at hw |-;split at hw
  ·rename_i hl;rw[if_pos hl];rfl
  ·exact absurd rfl hw
section
variable(B:Blt mg)(M:Exs K mg a)(C:Cals P w K mg base a n)(CH:CalsH P w K mg base a n)(BM:BMain base mg)(MK:Mks K mg)
theorem lof{c:Prop} [Decidable c]{x r:FR}(e:r=if c then x else .no)(h:r≠.no):c/\x=r:=by
 rw[e]at h |-;split at h
 ·rename_i hl;rw[if_pos hl];exact⟨hl,rfl⟩
 ·exact absurd rfl h
include B M C CH BM MK
theorem y1c  (A:Ats K mg):Cal P w K mg base (n+1) "value" ["form", "row"] (spF K (run K a (n+1) q2c)):=
 con A.value sc_value (fun ws hw=>(lof q13 hw).1) fun ws hw f cdv A outer s H E Z hr=>⟨q2q K a (run K a n),(q0d (q0k 2 sc_value.nd (q0u (dv 0) q0b))
  (q0d (q02 (q1i (q0n hr) (dv 2) q0m)
  (q0f (q0y (q0u (dv 0) q0b)))
  q0z)
  (q0d (q02 (q1i (q0n hr) (dv 2) q0m)
  (q0f (q0y (q0l C.thing_at hr pass1 (q0a (dv 1) (q0a (q0u (dv 0) q0b) q0c)))))
  q0z)
  (q0d (q02 (q1i (q0n hr) (dv 2) q0m)
  (q0f (q0y (y6a (q0l C.value hr pass1 (q0a (q0u (dv 0) q0b) (q0a (dv 1) q0c))))))
  q0z)
  (q0d (q0k 3 sc_value.nd (q0l C.value hr pass1 (q0a (q0u (dv 0) q0b) (q0a (dv 1) q0c))))
  (q0d (q0k 4 sc_value.nd (q0l C.value hr pass1 (q0a (q0u (dv 0) q0b) (q0a (dv 1) q0c))))
  (q0d (q02 (q1i (q0n hr) (dv 2) q0m)
  (q0f (q0y (q6l (dv 3) (q5l (dv 4)))))
  q0z)
  (q0d (q02 (q1i (q0n hr) (dv 2) q0m)
  (q0f (q0y (q6f (dv 3) (q5l (dv 4)))))
  q0z)
  (q0f (q0y (y8y (q0n hr) (dv 3) (dv 4)))))))))))),(lof q13 hw).2⟩
theorem x3s  (A:Ats K mg):Cal P w K mg base (n+1) "thing_at" ["things", "place"] (spF K (run K a (n+1) q3y)):=
 con A.thing_at x3q (fun ws hw=>(lof q4y hw).1) fun ws hw f cdv A outer s H E Z hr=>⟨q4t K a (run K a n),(q0d (q02 (dt_w (q5f (q6z (dv 1) q0b) (q5k (y8z (dv 1) (q38 B.b_len (q0a (dv 0) q0c))))))
  (q0f (q6y rais1 M.e_NoPlace M.m_NoPlace rfl (q0a q0m q0c)))
  q0z)
  (q0f (q0y (q0u (dv 0) (dv 1))))),(lof q4y hw).2⟩
theorem x22  (A:Ats K mg):Cal P w K mg base (n+1) "places_in" ["form"] (spF K (run K a (n+1) q3f)):=
 con A.places_in sc_places_in (fun ws hw=>(lof q4g hw).1) fun ws hw f cdv A outer s H E Z hr=>⟨q4b K a (run K a n),(q0d (q2f 1 sc_places_in.nd (q08 q0c))
  (q0d (q2f 2 sc_places_in.nd (q08 (q0a (dv 0) q0c)))
  (q0d (x2c 1000000 PassesOwn.leaving (q9g (q3e 2 B.b_len) q0b)
  (q0d (q0k 3 sc_places_in.nd (y6g 2))
  (q0f (q02 (q1i (q0n hr) (q0u (dv 3) q0b) q0m)
  (q0f (q4r 1 (q0a (q0u (dv 3) q0b) q0c)))
  (q0f (q02 (q9h (q0n hr) (q0u (dv 3) q0b) q0m)
  (q0f (y7v 2 (q0a (x2j (dv 3) (x4a q0b) x39) q0c)))
  q0z))))))
  (q0f (q93 (x5q rfl B.b_sorted B.b_set (q0a (dv 1) q0c))))))),(lof q4g hw).2⟩
theorem x51  (A:Ats K mg):Cal P w K mg base (n+1) "stepped" ["circuit", "state", "row"] (spF K (run K a (n+1) q2a)):=
 con A.stepped x50 (fun ws hw=>(lof q4d hw).1) fun ws hw f cdv A outer s H E Z hr=>⟨q4o K a (run K a n),(q0d (q4l (q0l C.check_circuit hr pass1 (q0a (dv 0) q0c)))
  (q0d (q4l (q0l C.check_length hr pass1 (q0a (dv 1) (q0a (q38 B.b_len (q0a (q0u (dv 0) q0b) q0c)) q0c))))
  (q0d (q4l (q0l C.check_length hr pass1 (q0a (dv 2) (q0a (q0u (dv 0) q0b) q0c))))
  (q0f (q0y (q0l C.moved hr pass1 (q0a (dv 0) (q0a (dv 1) (q0a (dv 2) q0c))))))))),(lof q4d hw).2⟩
theorem y47  (A:Ats K mg):Cal P w K mg base (n+1) "gone" ["circuit", "rows"] (spF K (run K a (n+1) q39)):=
 con A.gone sc_gone (fun ws hw=>(lof q6c hw).1) fun ws hw f cdv A outer s H E Z hr=>⟨q6o K a (run K a n),(q0d (q4l (q0l C.check_circuit hr pass1 (q0a (dv 0) q0c)))
  (q0d (q0k 2 sc_gone.nd (q0l C.first_state hr pass1 (q0a (dv 0) q0c)))
  (q0d (q2f 3 sc_gone.nd (q08 q0c))
  (q0d (x6t 4 sc_gone.nd PassesOwn.leaving rfl (dv 1)
  (q0d (q4l (q0l C.check_length hr pass1 (q0a (dv 4) (q0a (q0u (dv 0) q0b) q0c))))
  (q0d (q0k 5 sc_gone.nd (q0l C.moved hr pass1 (q0a (dv 0) (q0a (dv 2) (q0a (dv 4) q0c)))))
  (q0d (q4r 3 (q0a (q0u (dv 5) q0b) q0c))
  (q0f (q0k 2 sc_gone.nd (q0u (dv 5) q0b)))))))
  (q0f (y2y 3)))))),(lof q6c hw).2⟩
theorem q8x  (A:Ats K mg):Cal P w K mg base (n+1) "check_circuit" ["circuit"] (spF K (run K a (n+1) q1k)):=
 con A.check_circuit sc_check_circuit (fun ws hw=>(lof q20 hw).1) fun ws hw f cdv A outer s H E Z hr=>⟨q2u K a (run K a n),(q0d (q0k 1 sc_check_circuit.nd (q00 (q0u (dv 0) q0b) (q38 B.b_len (q0a (q0u (dv 0) q0b) q0c))))
  (q0f (x6t 2 sc_check_circuit.nd PassesOwn.leaving rfl (q00 (q0l C.next_forms hr pass1 (q0a (dv 0) q0c)) (q1x (q96 B.b_list (q0a (q0u (dv 0) q0b) q0c))))
  (q0f (q02 (q4q (y74 rfl B.b_any (q0a (q1x (x37 (x:="place") (Nf:=["many"]) (js:=[1]) (sc:=defScope q1f) (N:=["circuit", "many", "form"]) rfl (q0l C.places_in hr pass1 (q0a (dv 2) q0c)) (by decide +kernel)
   (fun _ _ _ _ _ _=>q3d)
   (fun _ _ _ _ _ _=>(q6f (y8w (dv 0) q0b) (q5l (y8x (dv 0) (dv 1)))))
   (fun _ _ _ _ _=>q2r 0 (show(["place", "many"]:List Str).Nodup by decide +kernel)))) q0c)))
  (q0f (q6y rais1 M.e_NoPlace M.m_NoPlace rfl (q0a q0m q0c)))
  q0z))))),(lof q20 hw).2⟩
theorem q9t  (A:Ats K mg):Cal P w K mg base (n+1) "check_length" ["truths", "length"] (spF K (run K a (n+1) q1c)):=
 con A.check_length q9r (fun ws hw=>(lof q29 hw).1) fun ws hw f cdv A outer s H E Z hr=>⟨q22 K a (run K a n),(q0f (q02 (q9h (q0n hr) (q38 B.b_len (q0a (dv 0) q0c)) (dv 1))
  (q0f (q6y rais1 M.e_UnlikeSizes M.m_UnlikeSizes rfl (q0a q0m q0c)))
  q0z)),(lof q29 hw).2⟩
theorem x0e  (A:Ats K mg):Cal P w K mg base (n+1) "first_state" ["circuit"] (spF K (run K a (n+1) q14)):=
 con A.first_state x0b (fun ws hw=>(lof q3m hw).1) fun ws hw f cdv A outer s H E Z hr=>⟨q3c K a (run K a n),(q0f (q0y (q3n B.b_tuple (q0a (q1x (x2k (x:="first") (y:="form") (Nf:=[]) (js:=[]) (sc:=defScope q1o) (N:=["circuit"]) rfl (q8p (q0u (dv 0) q0b)) (by decide +kernel)
   (fun _ _ _ _ _ _=>q3d)
   (fun _ _ _ _ _ _=>(dv 0))
   (fun _ _ _ _ _=>x7m (show(["first", "form"]:List Str).Nodup by decide +kernel) rfl))) q0c)))),(lof q3m hw).2⟩
theorem x1s  (A:Ats K mg):Cal P w K mg base (n+1) "next_forms" ["circuit"] (spF K (run K a (n+1) q2g)):=
 con A.next_forms x1q (fun ws hw=>(lof q33 hw).1) fun ws hw f cdv A outer s H E Z hr=>⟨q3q K a (run K a n),(q0f (q93 (x2k (x:="first") (y:="form") (Nf:=[]) (js:=[]) (sc:=defScope q11) (N:=["circuit"]) rfl (q8p (q0u (dv 0) q0b)) (by decide +kernel)
   (fun _ _ _ _ _ _=>q3d)
   (fun _ _ _ _ _ _=>(dv 1))
   (fun _ _ _ _ _=>x7m (show(["first", "form"]:List Str).Nodup by decide +kernel) rfl)))),(lof q33 hw).2⟩
theorem y1d  (A:Ats K mg):Cal P w K mg base (n+1) "moved" ["circuit", "state", "row"] (spF K (run K a (n+1) q4m)):=
 con A.moved sc_moved (fun ws hw=>(lof q6h hw).1) fun ws hw f cdv A outer s H E Z hr=>⟨q6p K a (run K a n),(q0d (q0k 3 sc_moved.nd (q00 (dv 2) (dv 1)))
  (q0d (q0k 4 sc_moved.nd (q3n B.b_tuple (q0a (q1x (q8r (x:="form") (Nf:=["truths"]) (js:=[3]) (sc:=defScope q3z) (N:=["circuit", "state", "row", "truths", "told"]) passA1 rfl (q0u (dv 0) q0b) (by decide +kernel)
   (fun _ _ _ _ _ _ _ _ hxc=>q3d)
   (fun _ _ _ _ _ _ _ _ hxc=>(q0l C.value hr hxc (q0a (dv 0) (q0a (dv 1) q0c))))
   (fun _ _ _ _ _ _=>q2r 0 (show(["form", "truths"]:List Str).Nodup by decide +kernel)))) q0c)))
  (q0f (q0y (q0x (q0a (dv 4) (q0a (q3n B.b_tuple (q0a (q1x (q8r (x:="form") (Nf:=["truths"]) (js:=[3]) (sc:=defScope q3z) (N:=["circuit", "state", "row", "truths", "told"]) passA1 rfl (q0l C.next_forms hr pass1 (q0a (dv 0) q0c)) (by decide +kernel)
   (fun _ _ _ _ _ _ _ _ hxc=>q3d)
   (fun _ _ _ _ _ _ _ _ hxc=>(q0l C.value hr hxc (q0a (dv 0) (q0a (dv 1) q0c))))
   (fun _ _ _ _ _ _=>q2r 0 (show(["form", "truths"]:List Str).Nodup by decide +kernel)))) q0c)) q0c))))))),(lof q6h hw).2⟩
theorem x8e  (A:Ats K mg):Cal P w K mg base (n+1) "row_of" ["number", "many"] (spF K (run K a (n+1) q48)):=
 con A.row_of sc_row_of (fun ws hw=>(lof q67 hw).1) fun ws hw f cdv A outer s H E Z hr=>⟨q66 K a (run K a n),(q0d (q2f 2 sc_row_of.nd (q08 q0c))
  (q0d (q0k 3 sc_row_of.nd (dv 0))
  (q0d (q52 4 sc_row_of.nd PassesOwn.leaving rfl B.b_range (q0a (dv 1) q0c)
  (q0d (q4r 2 (q0a (q3j (q0n hr) (q0v (dv 3) q0b) q0b) q0c))
  (q0f (q0k 3 sc_row_of.nd (q1a (dv 3) q0b)))))
  (q0d (q02 (q9h (q0n hr) (dv 3) q0b)
  (q0f (q6y rais1 M.e_NoRow M.m_NoRow rfl (q0a q0m q0c)))
  q0z)
  (q0f (q0y (x7e rfl B.b_tuple B.b_reversed (dv 2)))))))),(lof q67 hw).2⟩
theorem x23  (A:Ats K mg):Cal P w K mg base (n+1) "rows_many" ["many"] (spF K (run K a (n+1) q4a)):=
 con A.rows_many sc_rows_many (fun ws hw=>(lof q5t hw).1) fun ws hw f cdv A outer s H E Z hr=>⟨q5h K a (run K a n),(q0d (q0k 1 sc_rows_many.nd q0b)
  (q0d (q52 2 sc_rows_many.nd PassesOwn.leaving rfl B.b_range (q0a (dv 0) q0c)
  (q0f (q0k 1 sc_rows_many.nd (q7n q0b (dv 1)))))
  (q0f (q0y (dv 1))))),(lof q5t hw).2⟩
theorem x3t  (A:Ats K mg):Cal P w K mg base (n+1) "all_rows" ["many"] (spF K (run K a (n+1) q4s)):=
 con A.all_rows x3r (fun ws hw=>(lof q6d hw).1) fun ws hw f cdv A outer s H E Z hr=>⟨q5x K a (run K a n),(q0f (q93 (q8m (x:="number") (Nf:=["many"]) (js:=[0]) (sc:=defScope q2t) (N:=["many"]) rfl B.b_range (q0a (q0l C.rows_many hr pass1 (q0a (dv 0) q0c)) q0c) (by decide +kernel)
   (fun _ _ _ _ _ _=>q3d)
   (fun _ _ _ _ _ _=>(q0l C.row_of hr passE (q0a (dv 0) (q0a (dv 1) q0c))))
   (fun _ _ _ _ _=>q2r 0 (show(["number", "many"]:List Str).Nodup by decide +kernel))))),(lof q6d hw).2⟩
theorem x1t  (A:Ats K mg):Cal P w K mg base (n+1) "machine_of" ["circuit"] (spF K (run K a (n+1) q1z)):=
 conM A.machine_of MK.machine_of sc_machine_of (fun ws hw=>(lof q34 hw).1) fun ws hw f cdv A outer s H E Z hr hmk=>⟨q3r K a (run K a n),(q0d (q0k 1 sc_machine_of.nd (q0l C.all_rows hr pass1 (q0a (q0u (dv 0) q0b) q0c)))
  (q0d (q0k 2 sc_machine_of.nd (x3p 27 q0s C.come_to hr pass1 (y95 hmk BM) (fun _=>rfl) (q0l C.first_state hr pass1 (q0a (dv 0) q0c)) (sc:=defScope q1m) (N:=["circuit", "rows", "found"]) (nf:=["circuit", "rows"]) (by decide +kernel)))
  (q0f (q0y (q0x (q0a (q0x (q0a (q0u (dv 0) q0b) (q0a (q38 B.b_len (q0a (q0u (dv 0) q0b) q0c)) (q0a (q0u (dv 2) q0b) q0c)))) (q0a (q0u (dv 2) q0b) q0c))))))),(lof q34 hw).2⟩
theorem x52  (A:Ats K mg):Cal P w K mg base (n+1) "come_to" ["begin", "pairs_of"] (spF K (run K a (n+1) q4n)):=
 con A.come_to sc_come_to (fun ws hw=>(lof q5i hw).1) fun ws hw f cdv A outer s H E Z hr=>⟨q5p K a (run K a n),(q0d (q2f 2 sc_come_to.nd (q08 (q0a (dv 0) q0c)))
  (q0d (y02 3 0 (.many .bl) (w:=(.int 0)) M.nt (hu1 (q0n hr)) sc_come_to.nd x6a rfl)
  (q0d (q2f 4 sc_come_to.nd (q08 q0c))
  (q0d (x2c 1000000 PassesOwn.leaving (q6z (q3e 4 B.b_len) (q3e 2 B.b_len))
  (q0d (q0k 5 sc_come_to.nd (q7l 2 (q3e 4 B.b_len)))
  (q0d (q2f 6 sc_come_to.nd (q08 q0c))
  (q0d (y35 7 8 sc_come_to.nd PassesOwn.leaving rfl (q8p (x8a 1 C.lam hr pass1 (q0a (dv 5) q0c) (pv 1)))
  (q0d (q02 (x01 fun _=>(y4w M.nt (q0n hr) (dv 8) (dv 3)))
  (q0d (y4x 3 M.nt (q0n hr) (q3e 2 B.b_len) (dv 8))
  (q0f (q4r 2 (q0a (dv 8) q0c))))
  q0z)
  (q0f (q4r 6 (q0a (q0x (q0a (dv 7) (q0a (x00 fun _=>(y8e M.nt (q0n hr) (dv 3) (dv 8))) q0c))) q0c)))))
  (q0f (q4r 4 (q0a (dv 6) q0c)))))))
  (q0f (q0y (q0x (q0a (dv 4) (q0a (dv 2) q0c))))))))),(lof q5i hw).2⟩
theorem q9u  (A:Ats K mg):Cal P w K mg base (n+1) "_law_cell_at" ["_law_script", "_law_k"] (spF K (run K a (n+1) q0r)):=
 con A._law_cell_at q9s (fun ws hw=>(lof q4j hw).1) fun ws hw f cdv A outer s H E Z hr=>⟨q31 K a (run K a n),(q0d (q02 (q6z (dv 1) (q38 B.b_len (q0a (dv 0) q0c)))
  (q0f (q0y (q0u (dv 0) (dv 1))))
  q0z)
  (q0f (q0y q0b))),(lof q4j hw).2⟩
theorem x1u  (A:Ats K mg):Cal P w K mg base (n+1) "_law_mixed" ["_law_cell", "_law_k"] (spF K (run K a (n+1) q1h)):=
 con A._law_mixed sc__law_mixed (fun ws hw=>(lof q5b hw).1) fun ws hw f cdv A outer s H E Z hr=>⟨q4v K a (run K a n),(q0d (q0k 2 sc__law_mixed.nd (q0v (q7n (q00 (dv 0) (q7n q0b (dv 1))) q0b) q0b))
  (q0f (q0y (q0v (q00 (q00 (q7n (dv 2) (dv 2)) (q7n q0b (dv 2))) (dv 1)) q0b)))),(lof q5b hw).2⟩
theorem x3u  (A:Ats K mg):Cal P w K mg base (n+1) "_law_row" ["_law_number", "_law_many"] (spF K (run K a (n+1) q17)):=
 con A._law_row sc__law_row (fun ws hw=>(lof q6e hw).1) fun ws hw f cdv A outer s H E Z hr=>⟨q5y K a (run K a n),(q0d (q2f 2 sc__law_row.nd (q08 q0c))
  (q0d (q52 3 sc__law_row.nd PassesOwn.leaving rfl B.b_range (q0a (dv 1) q0c)
  (q0d (q4r 2 (q0a (q3j (q0n hr) (q0v (dv 0) q0b) q0b) q0c))
  (q0f (q0k 0 sc__law_row.nd (q1a (dv 0) q0b)))))
  (q0d (y7z 2)
  (q0f (q0y (q3n B.b_tuple (q0a (dv 2) q0c))))))),(lof q6e hw).2⟩
theorem x24  (A:Ats K mg):Cal P w K mg base (n+1) "_law_form" ["_law_cell", "_law_places", "_law_deep"] (spF K (run K a (n+1) q1j)):=
 con A._law_form sc__law_form (fun ws hw=>(lof q4h hw).1) fun ws hw f cdv A outer s H E Z hr=>⟨q4c K a (run K a n),(q0d (q0k 3 sc__law_form.nd (q0v (dv 0) q0b))
  (q0d (q0k 4 sc__law_form.nd (q1a (dv 0) q0b))
  (q0d (q02 (dt_w (q5f (q1i (q0n hr) (dv 3) q0b) (q5k (dt_w (q6k (q1i (q0n hr) (dv 1) q0b) (q73 (dt_w (q5f (q1i (q0n hr) (dv 2) q0b) (q5k (q1i (q0n hr) (dv 3) q0b))))))))))
  (q0f (q0y (q0x (q0a q0m (q0a (q3j (q0n hr) (q0v (dv 4) q0b) q0b) q0c)))))
  q0z)
  (q0d (q02 (dt_w (q5f (q1i (q0n hr) (dv 2) q0b) (q5k (q1i (q0n hr) (dv 3) q0b))))
  (q0f (q0y (q0x (q0a q0m (q0a (q0v (dv 4) (dv 1)) q0c)))))
  q0z)
  (q0d (q0k 5 sc__law_form.nd (q0l C._law_form hr pass1 (q0a (q0l C._law_mixed hr pass1 (q0a (dv 4) (q0a q0b q0c))) (q0a (dv 1) (q0a (q9f (dv 2) q0b) q0c)))))
  (q0d (q02 (q1i (q0n hr) (dv 3) q0b)
  (q0f (q0y (q0x (q0a q0m (q0a (dv 5) q0c)))))
  q0z)
  (q0f (q0y (q0x (q0a (q0u (q1x (q08 (q0a q0m (q0a q0m (q0a q0m (q0a q0m q0c)))))) (q9f (dv 3) q0b)) (q0a (dv 5) (q0a (q0l C._law_form hr pass1 (q0a (q0l C._law_mixed hr pass1 (q0a (dv 4) (q0a q0b q0c))) (q0a (dv 1) (q0a (q9f (dv 2) q0b) q0c)))) q0c)))))))))))),(lof q4h hw).2⟩
theorem q8y  (A:Ats K mg):Cal P w K mg base (n+1) "_law_counting" ["_law_many", "_law_size", "_law_k"] (spF K (run K a (n+1) q2s)):=
 con A._law_counting sc__law_counting (fun ws hw=>(lof q36 hw).1) fun ws hw f cdv A outer s H E Z hr=>⟨q3l K a (run K a n),(q0d (q0k 3 sc__law_counting.nd (q0x (q0a q0m (q0a q6v q0c))))
  (q0d (q02 (q9g (dv 0) q0b)
  (q0f (q0k 3 sc__law_counting.nd (q0x (q0a q0m (q0a q0b q0c)))))
  q0z)
  (q0d (y2z 4 sc__law_counting.nd PassesOwn.leaving rfl B.b_range (q0a (q00 (dv 2) q0b) (q0a (dv 1) q0c))
  (q0f (q0k 3 sc__law_counting.nd (q0x (q0a q0m (q0a (dv 3) (q0a (q0x (q0a q0m (q0a (q00 (dv 0) (dv 4)) q0c))) q0c)))))))
  (q0f (q0y (q0x (q0a q0m (q0a (q0x (q0a q0m (q0a (q00 (dv 0) (dv 2)) q0c))) (q0a (dv 3) q0c))))))))),(lof q36 hw).2⟩
theorem x0f  (A:Ats K mg):Cal P w K mg base (n+1) "_law_taller" ["_law_form_here", "_law_many", "_law_places"] (spF K (run K a (n+1) q09)):=
 con A._law_taller sc__law_taller (fun ws hw=>(lof q4z hw).1) fun ws hw f cdv A outer s H E Z hr=>⟨q4e K a (run K a n),(q0d (q52 3 sc__law_taller.nd PassesOwn.leaving rfl B.b_range (q0a (dv 1) q0c)
  (q0f (q02 (dt_w (q5f (q6z (q0v (dv 3) q0b) q0b) (q5k (q1i (q0n hr) (dv 2) q0b))))
  (q0f (q0k 0 sc__law_taller.nd (q0x (q0a q0m (q0a (dv 0) q0c)))))
  (q0f (q0k 0 sc__law_taller.nd (q0x (q0a (q0u (q1x (q08 (q0a q0m (q0a q0m q0c)))) (q0v (dv 3) q0b)) (q0a (dv 0) (q0a (q0x (q0a q0m (q0a (q0x (q0a q0m (q0a (q0v (dv 3) (dv 2)) q0c))) (q0a (q0x (q0a q0m (q0a (q3j (q0n hr) (q0v (dv 3) q0b) q0b) q0c))) q0c)))) q0c)))))))))
  (q0f (q0y (dv 0)))),(lof q4z hw).2⟩
theorem q9v  (A:Ats K mg):Cal P w K mg base (n+1) "_law_circuit" ["_law_script"] (spF K (run K a (n+1) q2d)):=
 con A._law_circuit sc__law_circuit (fun ws hw=>(lof q4k hw).1) fun ws hw f cdv A outer s H E Z hr=>⟨q32 K a (run K a n),(q0d (q0k 1 sc__law_circuit.nd (q0l C._law_cell_at hr pass1 (q0a (dv 0) (q0a q0b q0c))))
  (q0d (q0k 2 sc__law_circuit.nd (q0v (dv 1) q0b))
  (q0d (q0k 3 sc__law_circuit.nd (q0v (q1a (dv 1) q0b) q0b))
  (q0d (q0k 4 sc__law_circuit.nd (q0v (q1a (dv 1) q0b) q0b))
  (q0d (q02 (q9g (q00 (dv 2) (dv 3)) q0b)
  (q0f (q0k 4 sc__law_circuit.nd (q0v (dv 4) q0b)))
  q0z)
  (q0d (q2f 5 sc__law_circuit.nd (q08 q0c))
  (q0d (q52 6 sc__law_circuit.nd PassesOwn.leaving rfl B.b_range (q0a (dv 3) q0c)
  (q0d (q0k 7 sc__law_circuit.nd (q0l C._law_mixed hr pass1 (q0a (q0l C._law_cell_at hr pass1 (q0a (dv 0) (q0a (q00 q0b (dv 6)) q0c))) (q0a (dv 6) q0c))))
  (q0d (q0k 8 sc__law_circuit.nd (q0l C._law_form hr pass1 (q0a (q1a (dv 7) q0b) (q0a (q00 (dv 2) (dv 3)) (q0a (dv 4) q0c)))))
  (q0d (q02 (q1i (q0n hr) (q0v (q0l C._law_cell_at hr pass1 (q0a (dv 0) (q0a q0b q0c))) q0b) q0b)
  (q0f (q0k 8 sc__law_circuit.nd (q0l C._law_counting hr pass1 (q0a (dv 2) (q0a (dv 3) (q0a (dv 6) q0c))))))
  q0z)
  (q0f (q4r 5 (q0a (q0x (q0a (q3j (q0n hr) (q0v (dv 7) q0b) q0b) (q0a (dv 8) q0c))) q0c)))))))
  (q0d (q2f 9 sc__law_circuit.nd (q08 q0c))
  (q0d (q52 6 sc__law_circuit.nd PassesOwn.leaving rfl B.b_range (q0a (q0v (q1a (dv 1) q0b) q0b) q0c)
  (q0f (q4r 9 (q0a (q0l C._law_form hr pass1 (q0a (q0l C._law_mixed hr pass1 (q0a (q0l C._law_cell_at hr pass1 (q0a (dv 0) (q0a (q00 q0b (dv 6)) q0c))) (q0a (q00 q0b (dv 6)) q0c))) (q0a (q00 (dv 2) (dv 3)) (q0a (dv 4) q0c)))) q0c))))
  (q0d (q0k 10 sc__law_circuit.nd (q1a (q0l C._law_cell_at hr pass1 (q0a (dv 0) (q0a q0b q0c))) q0b))
  (q0d (q02 (dt_w (q6k (q1i (q0n hr) (q0v (dv 10) q0b) q0b) (q6k (q6z (q00 (dv 2) (dv 3)) q0b) (q73 (x01 fun _=>(q9h (q0n hr) (dv 9) (q1x (q08 q0c))))))))
  (q0f (q6n 9 (q0l C._law_taller hr pass1 (q0a (q7l 9 (q0v (q1a (dv 10) q0b) (q3e 9 B.b_len))) (q0a (q0v (q1a (dv 10) q0b) q0b) (q0a (q00 (dv 2) (dv 3)) q0c)))) (q0v (q1a (dv 10) q0b) (q3e 9 B.b_len))))
  q0z)
  (q0d (q02 (dt_w (q6k (q1i (q0n hr) (q0v (dv 10) q0b) q0b) (q6k (q6z (q00 (dv 2) (dv 3)) q0b) (q73 (q9g (dv 3) q0b)))))
  (q0d (y37 11 8 sc__law_circuit.nd rfl (q7l 5 (q0v (q1a (dv 10) q0b) (dv 3))))
  (q0f (q6n 5 (q0x (q0a (dv 11) (q0a (q0l C._law_taller hr pass1 (q0a (dv 8) (q0a (q0v (q1a (dv 10) q0b) q0b) (q0a (q00 (dv 2) (dv 3)) q0c)))) q0c))) (q0v (q1a (dv 10) q0b) (dv 3)))))
  q0z)
  (q0f (q0y (q0x (q0a (dv 2) (q0a (q3n B.b_tuple (q0a (dv 5) q0c)) (q0a (q3n B.b_tuple (q0a (dv 9) q0c)) q0c)))))))))))))))))),(lof q4k hw).2⟩
theorem x1v  (A:Ats K mg):Cal P w K mg base (n+1) "_law_alone" ["_law_e", "_law_due"] (spF K (run K a (n+1) q1l)):=
 con A._law_alone sc__law_alone (fun ws hw=>(lof q2e hw).1) fun ws hw f cdv A outer s H E Z hr=>⟨q23 K a (run K a n),(q0d (q0k 2 sc__law_alone.nd (q6f (q1d (c0:=.ref _) rfl (q1b M.m_NoName) B.b_isinstance (dv 0)) (q6f (q1d (c0:=.ref _) rfl (q1b M.m_BadText) B.b_isinstance (dv 0)) (q6f (q1d (c0:=.ref _) rfl (q1b M.m_NoRow) B.b_isinstance (dv 0)) (q5l (q1d (c0:=.ref _) rfl (q1b M.m_NoTable) B.b_isinstance (dv 0)))))))
  (q0d (q02 (dt_w (q5f (q4q (dv 2)) (q5f (q4q (q1d (c0:=.ref _) rfl (q1b M.m_TooGreat) B.b_isinstance (dv 0))) (q5k (q4q (q1d (c0:=.ref _) rfl (q1b M.m_BadSheet) B.b_isinstance (dv 0)))))))
  (q0f (q0y q6v))
  q0z)
  (q0d (q0k 3 sc__law_alone.nd (q1x (q08 (q0a (q1d (c0:=.ref _) rfl (q1b M.m_NoPlace) B.b_isinstance (dv 0)) (q0a (q1d (c0:=.ref _) rfl (q1b M.m_UnlikeSizes) B.b_isinstance (dv 0)) (q0a (q1d (c0:=.ref _) rfl (q1b M.m_NoMachine) B.b_isinstance (dv 0)) q0c))))))
  (q0f (q0y (q6l (q3j (q0n hr) (dv 3) (q1x (q08 (q0a (q3j (q0n hr) (dv 1) q0b) (q0a (q3j (q0n hr) (dv 1) q0b) (q0a (q3j (q0n hr) (dv 1) q0b) q0c)))))) (q6l (q1d (c0:=.ref _) rfl (q1b M.m_CircuitError) B.b_isinstance (dv 0)) (q5l (q1d (c0:=.ty _) rfl (x4b PyProof.Rows.Boot.«ValueError» B.b_ValueError) B.b_isinstance (dv 0)))))))))),(lof q2e hw).2⟩
theorem x25  (A:Ats K mg):Cal P w K mg base (n+1) "_law_word" ["_law_circuit_here", "_law_state", "_law_row_here", "_law_rows", "_law_way"] (spF K (run K a (n+1) q0t)):=
 con A._law_word sc__law_word (fun ws hw=>(lof q1r hw).1) fun ws hw f cdv A outer s H E Z hr=>⟨q1y K a (run K a n),(q0d (y4r M.m_NoPlace M.m_UnlikeSizes sc__law_word.nd (i:=5) rfl rfl (i2:=5) rfl rfl (fun EE pn xe hx1=>(q0f (q02 (q1i (q0n hr) (dv 4) q0b)
  (q0f (q4l (q0l C.stepped hr hx1 (q0a (dv 0) (q0a (dv 1) (q0a (dv 2) q0c))))))
  (q0f (q02 (q1i (q0n hr) (dv 4) q0b)
  (q0f (q4l (q0l C.gone hr hx1 (q0a (dv 0) (q0a (dv 3) q0c)))))
  (q0f (q4l (q0l C.machine_of hr hx1 (q0a (dv 0) q0c)))))))))
  (fun e=>(q0f (q0y (q0u (q1x (q08 (q0a q0m (q0a q0m q0c)))) (x4c B.b_int (q0a (x36 CH._law_alone (hr.hm _) (q0a (dv 5) (q0a q0b q0c))) q0c))))))
  (fun e=>(q0f (q0y (q0u (q1x (q08 (q0a q0m (q0a q0m q0c)))) (x4c B.b_int (q0a (x36 CH._law_alone (hr.hm _) (q0a (dv 5) (q0a q0b q0c))) q0c)))))))
  (q0f (q0y q0m))),(lof q1r hw).2⟩
theorem x0g  (A:Ats K mg):Cal P w K mg base (n+1) "_law_spoilt" ["_law_circuit_here", "_law_at", "_law_more"] (spF K (run K a (n+1) q2p)):=
 con A._law_spoilt sc__law_spoilt (fun ws hw=>(lof q40 hw).1) fun ws hw f cdv A outer s H E Z hr=>⟨q4f K a (run K a n),(q0d (q2f 3 sc__law_spoilt.nd (q96 B.b_list (q0a (q0u (dv 0) q0b) q0c)))
  (q0d (q2f 4 sc__law_spoilt.nd (q96 B.b_list (q0a (q0u (dv 0) q0b) q0c)))
  (q0d (q0k 5 sc__law_spoilt.nd (q0x (q0a q0m (q0a (q00 (q00 (q0u (dv 0) q0b) (q38 B.b_len (q0a (q0u (dv 0) q0b) q0c))) (q0u (dv 2) q0b)) q0c))))
  (q0d (q0k 6 sc__law_spoilt.nd (y44 fun _=>(q0u (q00 (q1x (x37 (x:="_law_cell") (Nf:=[]) (js:=[]) (sc:=defScope q1p) (N:=["_law_circuit_here", "_law_at", "_law_more", "_law_cells", "_law_outs", "_law_bad", "_law_old", "_law_some", "_law_form_here"]) rfl (dv 3) (by decide +kernel)
   (fun _ _ _ _ _ _=>q3d)
   (fun _ _ _ _ _ _=>(q0u (dv 0) q0b))
   (fun _ _ _ _ _=>q2r 0 (show(["_law_cell"]:List Str).Nodup by decide +kernel)))) (dv 4)) (dv 1))))
  (q0d (q0k 7 sc__law_spoilt.nd (q1x (q08 (q0a (q0x (q0a q0m (q0a (q0x (q0a q0m (q0a q6v q0c))) (q0a (q0x (q0a q0m (q0a (dv 5) q0c))) q0c)))) (q0a (q0x (q0a q0m (q0a (dv 5) (q0a (q0x (q0a q0m (q0a q6v q0c))) q0c)))) (q0a (q0x (q0a q0m (q0a (q0x (q0a q0m (q0a (dv 5) q0c))) (q0a (dv 6) q0c)))) q0c))))))
  (q0d (q0k 8 sc__law_spoilt.nd (q0u (q00 (dv 7) (q1x (q08 (q0a (q0x (q0a q0m (q0a (q0x (q0a q0m (q0a (dv 6) (q0a (dv 5) q0c)))) (q0a (dv 6) q0c)))) q0c)))) (q0u (dv 2) q0b)))
  (q0d (q02 (q6z (dv 1) (q3e 3 B.b_len))
  (q0f (q6n 3 (q0x (q0a (q0u (q7l 3 (dv 1)) q0b) (q0a (dv 8) q0c))) (dv 1)))
  (q0f (q6n 4 (dv 8) (q9f (dv 1) (q3e 3 B.b_len)))))
  (q0f (q0y (q0x (q0a (q0u (dv 0) q0b) (q0a (q3n B.b_tuple (q0a (dv 3) q0c)) (q0a (q3n B.b_tuple (q0a (dv 4) q0c)) q0c))))))))))))),(lof q40 hw).2⟩
theorem x1w  (A:Ats K mg):Cal P w K mg base (n+1) "_law_sized" ["_law_row_here", "_law_cell"] (spF K (run K a (n+1) q10)):=
 con A._law_sized x1r (fun ws hw=>(lof q5c hw).1) fun ws hw f cdv A outer s H E Z hr=>⟨q4x K a (run K a n),(q0d (q02 (dt_w (q6k (q1i (q0n hr) (q0v (dv 1) q0b) q0b) (q73 (q9g (q38 B.b_len (q0a (dv 0) q0c)) q0b))))
  (q0f (q0y (x2j (dv 0) (x4a q0b) x39)))
  q0z)
  (q0f (q0y (q00 (dv 0) (q0x (q0a q6v q0c)))))),(lof q5c hw).2⟩
theorem y17  {f:Addr}{cdv:Value}{A:Around}{outer:List Env}{s:Shared}{H:Hp}{E:XK}{Z:Zt}(hr:Room n (A.deeper (PyProof.Rows.envOfC "law" (defScope q3k) s.heap.objs.size f cdv))):
  DSs Z (cxOf (CX1 P w) P w K mg base ["_law_script", "_law_circuit_here", "_law_size", "_law_many", "_law_cell", "_law_place", "_law_state", "_law_row_here", "_law_sized_here", "_law_rows", "_law_due"] "law" (defScope q3k) f cdv A outer s H E) (fun _=>E) (defBody q3k) (x1z K a (run K a n)):=
 (q0d (q0k 1 sc_law.nd (q0l C._law_circuit hr pass1 (q0a (dv 0) q0c)))
  (q0d (q0k 2 sc_law.nd (q38 B.b_len (q0a (q0u (dv 1) q0b) q0c)))
  (q0d (q0k 3 sc_law.nd (q00 (dv 2) (q38 B.b_len (q0a (q0u (dv 1) q0b) q0c))))
  (q0d (q0k 4 sc_law.nd (q0l C._law_cell_at hr pass1 (q0a (dv 0) (q0a q0b q0c))))
  (q0d (q0k 5 sc_law.nd (q6l (y12 (q0v (dv 4) q0b) q0b) (q5l (y12 (dv 3) q0b))))
  (q0d (q02 (q4q (dv 5))
  (q0f (q0k 1 sc_law.nd (q0l C._law_spoilt hr pass1 (q0a (dv 1) (q0a (q0v (q1a (dv 4) q0b) (dv 3)) (q0a (q0x (q0a (q0u (q1x (q08 (q0a q0b (q0a q0b (q0a (y6i q0b q0b) q0c))))) (q0v (q1a (dv 4) q0b) q0b)) (q0a (q0v (q1a (dv 4) q0b) q0b) q0c))) q0c))))))
  q0z)
  (q0d (q0k 6 sc_law.nd (q0l C._law_row hr pass1 (q0a (q0l C._law_cell_at hr pass1 (q0a (dv 0) (q0a q0b q0c))) (q0a (dv 2) q0c))))
  (q0d (q0k 7 sc_law.nd (q0l C._law_row hr pass1 (q0a (q0l C._law_cell_at hr pass1 (q0a (dv 0) (q0a q0b q0c))) (q0a (q0u (dv 1) q0b) q0c))))
  (q0d (q0k 8 sc_law.nd (q0l C._law_cell_at hr pass1 (q0a (dv 0) (q0a q0b q0c))))
  (q0d (q02 (q1i (q0n hr) (q0v (dv 8) q0b) q0b)
  (q0f (q0k 6 sc_law.nd (q0l C._law_sized hr pass1 (q0a (dv 6) (q0a (q1a (dv 8) q0b) q0c)))))
  q0z)
  (q0d (q02 (q1i (q0n hr) (q0v (dv 8) q0b) q0b)
  (q0f (q0k 7 sc_law.nd (q0l C._law_sized hr pass1 (q0a (dv 7) (q0a (q1a (dv 8) q0b) q0c)))))
  q0z)
  (q0d (q2f 9 sc_law.nd (q8m (x:="_law_k") (Nf:=["_law_circuit_here"]) (js:=[1]) (sc:=defScope q3k) (N:=["_law_script", "_law_circuit_here", "_law_size", "_law_many", "_law_cell", "_law_place", "_law_state", "_law_row_here", "_law_sized_here", "_law_rows", "_law_due"]) rfl B.b_range (q0a (q0v (q1a (dv 8) q0b) q0b) q0c) (by decide +kernel)
   (fun _ _ _ _ _ _=>q3d)
   (fun _ _ _ _ _ _=>(q0l C._law_row hr passE (q0a (dv 0) (q0a (q0u (dv 1) q0b) q0c))))
   (fun _ _ _ _ _=>q2r 0 (show(["_law_k", "_law_circuit_here"]:List Str).Nodup by decide +kernel))))
  (q0d (y76 9 (q0a (q0v (q1a (dv 8) q0b) (q00 (q3e 9 B.b_len) q0b)) (q0a (dv 7) q0c)))
  (q0d (q2f 10 sc_law.nd (q08 (q0a q0m (q0a q0m (q0a q0m q0c)))))
  (q0d (q02 (dt_w (q5f (q1i (q0n hr) (q0v (dv 8) q0b) q0b) (q5k (q1i (q0n hr) (q0v (dv 8) q0b) q0b))))
  (q0f (q6n 10 q0m q0b))
  q0z)
  (q0d (q02 (q1i (q0n hr) (q0v (dv 8) q0b) q0b)
  (q0f (q6n 10 q0m q0b))
  q0z)
  (q0d (q02 (q4q (dv 5))
  (q0f (q2f 10 sc_law.nd (q08 (q0a q0m (q0a q0m (q0a q0m q0c))))))
  q0z)
  (q0d (q02 (q9h (q0n hr) (q0l C._law_word hr pass1 (q0a (dv 1) (q0a (dv 6) (q0a (dv 7) (q0a (q1x (q08 q0c)) (q0a q0b q0c)))))) (q7l 10 q0b))
  (q0f (q0y q6v))
  q0z)
  (q0f (q0y (x00 fun _=>(q3j (q0n hr) (q1x (q8m (x:="_law_way") (Nf:=["_law_circuit_here", "_law_state", "_law_row_here", "_law_rows"]) (js:=[1,6,7,9]) (sc:=defScope q3k) (N:=["_law_script", "_law_circuit_here", "_law_size", "_law_many", "_law_cell", "_law_place", "_law_state", "_law_row_here", "_law_sized_here", "_law_rows", "_law_due"]) rfl B.b_range (q0a q0b q0c) (by decide +kernel)
   (fun _ _ _ _ _ _=>q3d)
   (fun _ _ _ _ _ _=>(q0l C._law_word hr passE (q0a (dv 1) (q0a (dv 2) (q0a (dv 3) (q0a (dv 4) (q0a (dv 0) q0c)))))))
   (fun _ _ _ _ _=>q2r 0 (show(["_law_way", "_law_circuit_here", "_law_state", "_law_row_here", "_law_rows"]:List Str).Nodup by decide +kernel)))) (dv 10)))))))))))))))))))))))
theorem y8h  (A:Ats K mg):Cal P w K mg base (n+1) "law" ["_law_script"] (spF K (run K a (n+1) q76)):=
 con A.law sc_law (fun ws hw=>(lof q6q hw).1) fun ws hw f cdv A outer s H E Z hr=>⟨_,y17 B M C CH BM MK hr,(lof q6q hw).2⟩
end
theorem allH(A:Ats K mg)(B:Blt mg)(M:Exs K mg a):∀n,CalsH P w K mg base a n
 |0=>⟨trivial,con0H A._law_alone⟩
 |n+1=>⟨trivial,x0d A B M⟩
theorem q8z(B:Blt mg)(M:Exs K mg a)(C:Cals P w K mg base a n)(CH:CalsH P w K mg base a n):LamOkCX P w K mg base n q0s "state" (run K a (n+1) q0p) where
 sc:=⟨rfl,rfl,rfl,rfl,fun _ _=>rfl,fun _=>rfl,by decide +kernel,by decide +kernel⟩
 bind:=fun cl pm c' ctv u=>rfl
 len:=fun ws h=>by
  rw[q19]at h;split at h
  ·assumption
  ·exact absurd rfl h
 body:=fun ws h Z f cd cl A outer s H E hr=>⟨q12 K a (run K a n),(q1x (q8r (x:="row") (Nf:=["state", "circuit"]) (js:=[0,1]) (sc:=lamScope q30) (N:=["state", "circuit", "rows"]) passLA1 rfl (dv 2) (by decide +kernel)
   (fun _ _ _ _ _ _ _ _ hxc=>q3d)
   (fun _ _ _ _ _ _ _ _ hxc=>(q0l C.moved hr hxc (q0a (dv 2) (q0a (dv 1) (q0a (dv 0) q0c)))))
   (fun _ _ _ _ _ _=>q2r 0 (show(["row", "state", "circuit"]:List Str).Nodup by decide +kernel)))),by
  rw[q19]at h |-;split at h
  ·rename_i hl;rw[if_pos hl]
  ·exact absurd rfl h⟩
theorem okl(B:Blt mg)(M:Exs K mg a)(C:Cals P w K mg base a n)(CH:CalsH P w K mg base a n):FnV P w K mg base (CX1 P w) (n+1) (spVX K lams (run K a (n+1))):=y07 fun i l h=>by
 unfold lams at h;split at h
 ·cases h;exact⟨_,q8z B M C CH⟩
 ·cases h
theorem all(A:Ats K mg)(B:Blt mg)(M:Exs K mg a)(BM:BMain base mg)(MK:Mks K mg):∀n,Cals P w K mg base a n
 |0=>⟨con0 A.value,con0 A.thing_at,con0 A.places_in,con0 A.stepped,con0 A.gone,con0 A.check_circuit,con0 A.check_length,con0 A.first_state,con0 A.next_forms,con0 A.moved,con0 A.row_of,con0 A.rows_many,con0 A.all_rows,con0 A.machine_of,con0 A.come_to,con0 A._law_cell_at,con0 A._law_mixed,con0 A._law_row,con0 A._law_form,con0 A._law_counting,con0 A._law_taller,con0 A._law_circuit,con0 A._law_alone,con0 A._law_word,con0 A._law_spoilt,con0 A._law_sized,con0 A.law,fnV0X⟩
 |n+1=>⟨y1c B M (all A B M BM MK n) (allH A B M n) BM MK A,x3s B M (all A B M BM MK n) (allH A B M n) BM MK A,x22 B M (all A B M BM MK n) (allH A B M n) BM MK A,x51 B M (all A B M BM MK n) (allH A B M n) BM MK A,y47 B M (all A B M BM MK n) (allH A B M n) BM MK A,q8x B M (all A B M BM MK n) (allH A B M n) BM MK A,q9t B M (all A B M BM MK n) (allH A B M n) BM MK A,x0e B M (all A B M BM MK n) (allH A B M n) BM MK A,x1s B M (all A B M BM MK n) (allH A B M n) BM MK A,y1d B M (all A B M BM MK n) (allH A B M n) BM MK A,x8e B M (all A B M BM MK n) (allH A B M n) BM MK A,x23 B M (all A B M BM MK n) (allH A B M n) BM MK A,x3t B M (all A B M BM MK n) (allH A B M n) BM MK A,x1t B M (all A B M BM MK n) (allH A B M n) BM MK A,x52 B M (all A B M BM MK n) (allH A B M n) BM MK A,q9u B M (all A B M BM MK n) (allH A B M n) BM MK A,x1u B M (all A B M BM MK n) (allH A B M n) BM MK A,x3u B M (all A B M BM MK n) (allH A B M n) BM MK A,x24 B M (all A B M BM MK n) (allH A B M n) BM MK A,q8y B M (all A B M BM MK n) (allH A B M n) BM MK A,x0f B M (all A B M BM MK n) (allH A B M n) BM MK A,q9v B M (all A B M BM MK n) (allH A B M n) BM MK A,x1v B M (all A B M BM MK n) (allH A B M n) BM MK A,x25 B M (all A B M BM MK n) (allH A B M n) BM MK A,x0g B M (all A B M BM MK n) (allH A B M n) BM MK A,x1w B M (all A B M BM MK n) (allH A B M n) BM MK A,y8h B M (all A B M BM MK n) (allH A B M n) BM MK A,okl B M (all A B M BM MK n) (allH A B M n)⟩
theorem law_fn{f:Addr}{fd:FuncData}(A:Ats K mg)(B:Blt mg)(M:Exs K mg a)(BM:BMain base mg)(MK:Mks K mg)(F:Fun K "law" "law" q3k f fd)(n:Nat):FnOk P w K mg base (CX1 P w) (n+1) f fd ["_law_script"] (spF K (run K a (n+1) q76)):=
 conF F sc_law (fun ws hw=>(lof q6q hw).1) fun ws hw cdv A' outer s H E Z hr=>⟨_,y17 B M (all A B M BM MK n) (allH A B M n) BM MK hr,(lof q6q hw).2⟩
end
theorem mk{l:PySem.W.OpenLaw}{w:World}{h:Heap}{fa:Addr}(X:K.In h)(G:h.Ns mainGlobals mg)(hfa:mg "law"=some (.ref fa))
  {f0:Addr}{od0 an0:Option Addr}{sl0:Array (Option Value)}{oc0 kV0 dc0 pm0 cd0 ct0:Value}
  {f1:Addr}{od1 an1:Option Addr}{sl1:Array (Option Value)}{oc1 kV1 dc1 pm1 cd1 ct1:Value}
  {f2:Addr}{od2 an2:Option Addr}{sl2:Array (Option Value)}{oc2 kV2 dc2 pm2 cd2 ct2:Value}
  {f3:Addr}{od3 an3:Option Addr}{sl3:Array (Option Value)}{oc3 kV3 dc3 pm3 cd3 ct3:Value}
  {f4:Addr}{od4 an4:Option Addr}{sl4:Array (Option Value)}{oc4 kV4 dc4 pm4 cd4 ct4:Value}
  {f5:Addr}{od5 an5:Option Addr}{sl5:Array (Option Value)}{oc5 kV5 dc5 pm5 cd5 ct5:Value}
  {f6:Addr}{od6 an6:Option Addr}{sl6:Array (Option Value)}{oc6 kV6 dc6 pm6 cd6 ct6:Value}
  {f7:Addr}{od7 an7:Option Addr}{sl7:Array (Option Value)}{oc7 kV7 dc7 pm7 cd7 ct7:Value}
  {f8:Addr}{od8 an8:Option Addr}{sl8:Array (Option Value)}{oc8 kV8 dc8 pm8 cd8 ct8:Value}
  {f9:Addr}{od9 an9:Option Addr}{sl9:Array (Option Value)}{oc9 kV9 dc9 pm9 cd9 ct9:Value}
  {f10:Addr}{od10 an10:Option Addr}{sl10:Array (Option Value)}{oc10 kV10 dc10 pm10 cd10 ct10:Value}
  {f11:Addr}{od11 an11:Option Addr}{sl11:Array (Option Value)}{oc11 kV11 dc11 pm11 cd11 ct11:Value}
  {f12:Addr}{od12 an12:Option Addr}{sl12:Array (Option Value)}{oc12 kV12 dc12 pm12 cd12 ct12:Value}
  {f13:Addr}{od13 an13:Option Addr}{sl13:Array (Option Value)}{oc13 kV13 dc13 pm13 cd13 ct13:Value}
  {f14:Addr}{od14 an14:Option Addr}{sl14:Array (Option Value)}{oc14 kV14 dc14 pm14 cd14 ct14:Value}
  {f15:Addr}{od15 an15:Option Addr}{sl15:Array (Option Value)}{oc15 kV15 dc15 pm15 cd15 ct15:Value}
  {f16:Addr}{od16 an16:Option Addr}{sl16:Array (Option Value)}{oc16 kV16 dc16 pm16 cd16 ct16:Value}
  {f17:Addr}{od17 an17:Option Addr}{sl17:Array (Option Value)}{oc17 kV17 dc17 pm17 cd17 ct17:Value}
  {f18:Addr}{od18 an18:Option Addr}{sl18:Array (Option Value)}{oc18 kV18 dc18 pm18 cd18 ct18:Value}
  {f19:Addr}{od19 an19:Option Addr}{sl19:Array (Option Value)}{oc19 kV19 dc19 pm19 cd19 ct19:Value}
  {f20:Addr}{od20 an20:Option Addr}{sl20:Array (Option Value)}{oc20 kV20 dc20 pm20 cd20 ct20:Value}
  {f21:Addr}{od21 an21:Option Addr}{sl21:Array (Option Value)}{oc21 kV21 dc21 pm21 cd21 ct21:Value}
  {f22:Addr}{od22 an22:Option Addr}{sl22:Array (Option Value)}{oc22 kV22 dc22 pm22 cd22 ct22:Value}
  {f23:Addr}{od23 an23:Option Addr}{sl23:Array (Option Value)}{oc23 kV23 dc23 pm23 cd23 ct23:Value}
  {f24:Addr}{od24 an24:Option Addr}{sl24:Array (Option Value)}{oc24 kV24 dc24 pm24 cd24 ct24:Value}
  {f25:Addr}{od25 an25:Option Addr}{sl25:Array (Option Value)}{oc25 kV25 dc25 pm25 cd25 ct25:Value}
  {f26:Addr}{od26 an26:Option Addr}{sl26:Array (Option Value)}{oc26 kV26 dc26 pm26 cd26 ct26:Value}
  {A_CircuitError:Addr}
  {A_NoPlace:Addr}
  {A_NoName:Addr}
  {A_BadText:Addr}
  {A_NoRow:Addr}
  {A_NoTable:Addr}
  {A_UnlikeSizes:Addr}
  {A_TooGreat:Addr}
  {A_NoMachine:Addr}
  {A_BadSheet:Addr}
  {cc13 PP13:Addr}
  (a0:PySem.W.nsIn K mainGlobals "value"=some (some (.ref f0)))
  (l0:K.lookup f0=some ⟨oc0,od0,.func (PySem.W.fnOf "value" "value" (defArgs q49) (defBody q49) (defScope q49) .none kV0 dc0 pm0 an0 cd0 ct0),sl0⟩)
  (c0:PySem.W.codeIn K cd0 "value"=true)
  (k0:keepIn K (.ref f0)=true)
  (a1:PySem.W.nsIn K mainGlobals "thing_at"=some (some (.ref f1)))
  (l1:K.lookup f1=some ⟨oc1,od1,.func (PySem.W.fnOf "thing_at" "thing_at" (defArgs q27) (defBody q27) (defScope q27) .none kV1 dc1 pm1 an1 cd1 ct1),sl1⟩)
  (c1:PySem.W.codeIn K cd1 "thing_at"=true)
  (k1:keepIn K (.ref f1)=true)
  (a2:PySem.W.nsIn K mainGlobals "places_in"=some (some (.ref f2)))
  (l2:K.lookup f2=some ⟨oc2,od2,.func (PySem.W.fnOf "places_in" "places_in" (defArgs q2v) (defBody q2v) (defScope q2v) .none kV2 dc2 pm2 an2 cd2 ct2),sl2⟩)
  (c2:PySem.W.codeIn K cd2 "places_in"=true)
  (k2:keepIn K (.ref f2)=true)
  (a3:PySem.W.nsIn K mainGlobals "stepped"=some (some (.ref f3)))
  (l3:K.lookup f3=some ⟨oc3,od3,.func (PySem.W.fnOf "stepped" "stepped" (defArgs q3o) (defBody q3o) (defScope q3o) .none kV3 dc3 pm3 an3 cd3 ct3),sl3⟩)
  (c3:PySem.W.codeIn K cd3 "stepped"=true)
  (k3:keepIn K (.ref f3)=true)
  (a4:PySem.W.nsIn K mainGlobals "gone"=some (some (.ref f4)))
  (l4:K.lookup f4=some ⟨oc4,od4,.func (PySem.W.fnOf "gone" "gone" (defArgs q6a) (defBody q6a) (defScope q6a) .none kV4 dc4 pm4 an4 cd4 ct4),sl4⟩)
  (c4:PySem.W.codeIn K cd4 "gone"=true)
  (k4:keepIn K (.ref f4)=true)
  (a5:PySem.W.nsIn K mainGlobals "check_circuit"=some (some (.ref f5)))
  (l5:K.lookup f5=some ⟨oc5,od5,.func (PySem.W.fnOf "check_circuit" "check_circuit" (defArgs q1f) (defBody q1f) (defScope q1f) .none kV5 dc5 pm5 an5 cd5 ct5),sl5⟩)
  (c5:PySem.W.codeIn K cd5 "check_circuit"=true)
  (k5:keepIn K (.ref f5)=true)
  (a6:PySem.W.nsIn K mainGlobals "check_length"=some (some (.ref f6)))
  (l6:K.lookup f6=some ⟨oc6,od6,.func (PySem.W.fnOf "check_length" "check_length" (defArgs q1s) (defBody q1s) (defScope q1s) .none kV6 dc6 pm6 an6 cd6 ct6),sl6⟩)
  (c6:PySem.W.codeIn K cd6 "check_length"=true)
  (k6:keepIn K (.ref f6)=true)
  (a7:PySem.W.nsIn K mainGlobals "first_state"=some (some (.ref f7)))
  (l7:K.lookup f7=some ⟨oc7,od7,.func (PySem.W.fnOf "first_state" "first_state" (defArgs q1o) (defBody q1o) (defScope q1o) .none kV7 dc7 pm7 an7 cd7 ct7),sl7⟩)
  (c7:PySem.W.codeIn K cd7 "first_state"=true)
  (k7:keepIn K (.ref f7)=true)
  (a8:PySem.W.nsIn K mainGlobals "next_forms"=some (some (.ref f8)))
  (l8:K.lookup f8=some ⟨oc8,od8,.func (PySem.W.fnOf "next_forms" "next_forms" (defArgs q11) (defBody q11) (defScope q11) .none kV8 dc8 pm8 an8 cd8 ct8),sl8⟩)
  (c8:PySem.W.codeIn K cd8 "next_forms"=true)
  (k8:keepIn K (.ref f8)=true)
  (a9:PySem.W.nsIn K mainGlobals "moved"=some (some (.ref f9)))
  (l9:K.lookup f9=some ⟨oc9,od9,.func (PySem.W.fnOf "moved" "moved" (defArgs q3z) (defBody q3z) (defScope q3z) .none kV9 dc9 pm9 an9 cd9 ct9),sl9⟩)
  (c9:PySem.W.codeIn K cd9 "moved"=true)
  (k9:keepIn K (.ref f9)=true)
  (a10:PySem.W.nsIn K mainGlobals "row_of"=some (some (.ref f10)))
  (l10:K.lookup f10=some ⟨oc10,od10,.func (PySem.W.fnOf "row_of" "row_of" (defArgs q4i) (defBody q4i) (defScope q4i) .none kV10 dc10 pm10 an10 cd10 ct10),sl10⟩)
  (c10:PySem.W.codeIn K cd10 "row_of"=true)
  (k10:keepIn K (.ref f10)=true)
  (a11:PySem.W.nsIn K mainGlobals "rows_many"=some (some (.ref f11)))
  (l11:K.lookup f11=some ⟨oc11,od11,.func (PySem.W.fnOf "rows_many" "rows_many" (defArgs q2w) (defBody q2w) (defScope q2w) .none kV11 dc11 pm11 an11 cd11 ct11),sl11⟩)
  (c11:PySem.W.codeIn K cd11 "rows_many"=true)
  (k11:keepIn K (.ref f11)=true)
  (a12:PySem.W.nsIn K mainGlobals "all_rows"=some (some (.ref f12)))
  (l12:K.lookup f12=some ⟨oc12,od12,.func (PySem.W.fnOf "all_rows" "all_rows" (defArgs q2t) (defBody q2t) (defScope q2t) .none kV12 dc12 pm12 an12 cd12 ct12),sl12⟩)
  (c12:PySem.W.codeIn K cd12 "all_rows"=true)
  (k12:keepIn K (.ref f12)=true)
  (a13:PySem.W.nsIn K mainGlobals "machine_of"=some (some (.ref f13)))
  (l13:K.lookup f13=some ⟨oc13,od13,.func (PySem.W.fnOf "machine_of" "machine_of" (defArgs q1m) (defBody q1m) (defScope q1m) .none kV13 dc13 pm13 an13 cd13 ct13),sl13⟩)
  (c13:PySem.W.codeIn K cd13 "machine_of"=true)
  (k13:keepIn K (.ref f13)=true)
  (a14:PySem.W.nsIn K mainGlobals "come_to"=some (some (.ref f14)))
  (l14:K.lookup f14=some ⟨oc14,od14,.func (PySem.W.fnOf "come_to" "come_to" (defArgs q3p) (defBody q3p) (defScope q3p) .none kV14 dc14 pm14 an14 cd14 ct14),sl14⟩)
  (c14:PySem.W.codeIn K cd14 "come_to"=true)
  (k14:keepIn K (.ref f14)=true)
  (a15:PySem.W.nsIn K mainGlobals "_law_cell_at"=some (some (.ref f15)))
  (l15:K.lookup f15=some ⟨oc15,od15,.func (PySem.W.fnOf "_law_cell_at" "_law_cell_at" (defArgs q1t) (defBody q1t) (defScope q1t) .none kV15 dc15 pm15 an15 cd15 ct15),sl15⟩)
  (c15:PySem.W.codeIn K cd15 "_law_cell_at"=true)
  (k15:keepIn K (.ref f15)=true)
  (a16:PySem.W.nsIn K mainGlobals "_law_mixed"=some (some (.ref f16)))
  (l16:K.lookup f16=some ⟨oc16,od16,.func (PySem.W.fnOf "_law_mixed" "_law_mixed" (defArgs q2h) (defBody q2h) (defScope q2h) .none kV16 dc16 pm16 an16 cd16 ct16),sl16⟩)
  (c16:PySem.W.codeIn K cd16 "_law_mixed"=true)
  (k16:keepIn K (.ref f16)=true)
  (a17:PySem.W.nsIn K mainGlobals "_law_row"=some (some (.ref f17)))
  (l17:K.lookup f17=some ⟨oc17,od17,.func (PySem.W.fnOf "_law_row" "_law_row" (defArgs q28) (defBody q28) (defScope q28) .none kV17 dc17 pm17 an17 cd17 ct17),sl17⟩)
  (c17:PySem.W.codeIn K cd17 "_law_row"=true)
  (k17:keepIn K (.ref f17)=true)
  (a18:PySem.W.nsIn K mainGlobals "_law_form"=some (some (.ref f18)))
  (l18:K.lookup f18=some ⟨oc18,od18,.func (PySem.W.fnOf "_law_form" "_law_form" (defArgs q2x) (defBody q2x) (defScope q2x) .none kV18 dc18 pm18 an18 cd18 ct18),sl18⟩)
  (c18:PySem.W.codeIn K cd18 "_law_form"=true)
  (k18:keepIn K (.ref f18)=true)
  (a19:PySem.W.nsIn K mainGlobals "_law_counting"=some (some (.ref f19)))
  (l19:K.lookup f19=some ⟨oc19,od19,.func (PySem.W.fnOf "_law_counting" "_law_counting" (defArgs q1n) (defBody q1n) (defScope q1n) .none kV19 dc19 pm19 an19 cd19 ct19),sl19⟩)
  (c19:PySem.W.codeIn K cd19 "_law_counting"=true)
  (k19:keepIn K (.ref f19)=true)
  (a20:PySem.W.nsIn K mainGlobals "_law_taller"=some (some (.ref f20)))
  (l20:K.lookup f20=some ⟨oc20,od20,.func (PySem.W.fnOf "_law_taller" "_law_taller" (defArgs q15) (defBody q15) (defScope q15) .none kV20 dc20 pm20 an20 cd20 ct20),sl20⟩)
  (c20:PySem.W.codeIn K cd20 "_law_taller"=true)
  (k20:keepIn K (.ref f20)=true)
  (a21:PySem.W.nsIn K mainGlobals "_law_circuit"=some (some (.ref f21)))
  (l21:K.lookup f21=some ⟨oc21,od21,.func (PySem.W.fnOf "_law_circuit" "_law_circuit" (defArgs q1u) (defBody q1u) (defScope q1u) .none kV21 dc21 pm21 an21 cd21 ct21),sl21⟩)
  (c21:PySem.W.codeIn K cd21 "_law_circuit"=true)
  (k21:keepIn K (.ref f21)=true)
  (a22:PySem.W.nsIn K mainGlobals "_law_alone"=some (some (.ref f22)))
  (l22:K.lookup f22=some ⟨oc22,od22,.func (PySem.W.fnOf "_law_alone" "_law_alone" (defArgs q2i) (defBody q2i) (defScope q2i) .none kV22 dc22 pm22 an22 cd22 ct22),sl22⟩)
  (c22:PySem.W.codeIn K cd22 "_law_alone"=true)
  (k22:keepIn K (.ref f22)=true)
  (a23:PySem.W.nsIn K mainGlobals "_law_word"=some (some (.ref f23)))
  (l23:K.lookup f23=some ⟨oc23,od23,.func (PySem.W.fnOf "_law_word" "_law_word" (defArgs q2y) (defBody q2y) (defScope q2y) .none kV23 dc23 pm23 an23 cd23 ct23),sl23⟩)
  (c23:PySem.W.codeIn K cd23 "_law_word"=true)
  (k23:keepIn K (.ref f23)=true)
  (a24:PySem.W.nsIn K mainGlobals "_law_spoilt"=some (some (.ref f24)))
  (l24:K.lookup f24=some ⟨oc24,od24,.func (PySem.W.fnOf "_law_spoilt" "_law_spoilt" (defArgs q1p) (defBody q1p) (defScope q1p) .none kV24 dc24 pm24 an24 cd24 ct24),sl24⟩)
  (c24:PySem.W.codeIn K cd24 "_law_spoilt"=true)
  (k24:keepIn K (.ref f24)=true)
  (a25:PySem.W.nsIn K mainGlobals "_law_sized"=some (some (.ref f25)))
  (l25:K.lookup f25=some ⟨oc25,od25,.func (PySem.W.fnOf "_law_sized" "_law_sized" (defArgs q2j) (defBody q2j) (defScope q2j) .none kV25 dc25 pm25 an25 cd25 ct25),sl25⟩)
  (c25:PySem.W.codeIn K cd25 "_law_sized"=true)
  (k25:keepIn K (.ref f25)=true)
  (a26:PySem.W.nsIn K mainGlobals "law"=some (some (.ref f26)))
  (l26:K.lookup f26=some ⟨oc26,od26,.func (PySem.W.fnOf "law" "law" (defArgs q3k) (defBody q3k) (defScope q3k) .none kV26 dc26 pm26 an26 cd26 ct26),sl26⟩)
  (c26:PySem.W.codeIn K cd26 "law"=true)
  (k26:keepIn K (.ref f26)=true)
  (v13:cd13=.ref cc13)
  (h13:codeHdIn K cc13 PP13=true)
  (m13:(mainGlobals,markO PP13 (("machine_of"++".<locals>.")++"<lambda>"))∈K)
  (n_CircuitError:PySem.W.nsIn K mainGlobals "CircuitError"=some (some (.ref A_CircuitError)))
  (n_NoPlace:PySem.W.nsIn K mainGlobals "NoPlace"=some (some (.ref A_NoPlace)))
  (n_NoName:PySem.W.nsIn K mainGlobals "NoName"=some (some (.ref A_NoName)))
  (n_BadText:PySem.W.nsIn K mainGlobals "BadText"=some (some (.ref A_BadText)))
  (n_NoRow:PySem.W.nsIn K mainGlobals "NoRow"=some (some (.ref A_NoRow)))
  (n_NoTable:PySem.W.nsIn K mainGlobals "NoTable"=some (some (.ref A_NoTable)))
  (n_UnlikeSizes:PySem.W.nsIn K mainGlobals "UnlikeSizes"=some (some (.ref A_UnlikeSizes)))
  (n_TooGreat:PySem.W.nsIn K mainGlobals "TooGreat"=some (some (.ref A_TooGreat)))
  (n_NoMachine:PySem.W.nsIn K mainGlobals "NoMachine"=some (some (.ref A_NoMachine)))
  (n_BadSheet:PySem.W.nsIn K mainGlobals "BadSheet"=some (some (.ref A_BadSheet)))
  (z_ValueError:PySem.W.nsIn K mainGlobals "ValueError"=some none)
  (z_any:PySem.W.nsIn K mainGlobals "any"=some none)
  (z_int:PySem.W.nsIn K mainGlobals "int"=some none)
  (z_isinstance:PySem.W.nsIn K mainGlobals "isinstance"=some none)
  (z_len:PySem.W.nsIn K mainGlobals "len"=some none)
  (z_list:PySem.W.nsIn K mainGlobals "list"=some none)
  (z_range:PySem.W.nsIn K mainGlobals "range"=some none)
  (z_reversed:PySem.W.nsIn K mainGlobals "reversed"=some none)
  (z_set:PySem.W.nsIn K mainGlobals "set"=some none)
  (z_sorted:PySem.W.nsIn K mainGlobals "sorted"=some none)
  (z_tuple:PySem.W.nsIn K mainGlobals "tuple"=some none)
  (e_NoPlace:excIn K A_NoPlace A_CircuitError=true)
  (e_NoRow:excIn K A_NoRow A_CircuitError=true)
  (e_UnlikeSizes:excIn K A_UnlikeSizes A_CircuitError=true)
  (c_NoPlace:excClsIn K A_NoPlace=true)
  (x_NoPlace_NoPlace:exmOne K (.ref A_NoPlace) (.ref A_NoPlace)=some true)
  (x_NoPlace_UnlikeSizes:exmOne K (.ref A_NoPlace) (.ref A_UnlikeSizes)=some false)
  (k_NoPlace_NoName:kitOne K (.ref A_NoPlace) (.ref A_NoName)=some false)
  (k_NoPlace_BadText:kitOne K (.ref A_NoPlace) (.ref A_BadText)=some false)
  (k_NoPlace_NoRow:kitOne K (.ref A_NoPlace) (.ref A_NoRow)=some false)
  (k_NoPlace_NoTable:kitOne K (.ref A_NoPlace) (.ref A_NoTable)=some false)
  (k_NoPlace_TooGreat:kitOne K (.ref A_NoPlace) (.ref A_TooGreat)=some false)
  (k_NoPlace_BadSheet:kitOne K (.ref A_NoPlace) (.ref A_BadSheet)=some false)
  (k_NoPlace_NoPlace:kitOne K (.ref A_NoPlace) (.ref A_NoPlace)=some true)
  (k_NoPlace_UnlikeSizes:kitOne K (.ref A_NoPlace) (.ref A_UnlikeSizes)=some false)
  (k_NoPlace_NoMachine:kitOne K (.ref A_NoPlace) (.ref A_NoMachine)=some false)
  (k_NoPlace_CircuitError:kitOne K (.ref A_NoPlace) (.ref A_CircuitError)=some true)
  (k_NoPlace_ValueError:kitOne K (.ref A_NoPlace) (.type "ValueError")=some true)
  (c_NoRow:excClsIn K A_NoRow=true)
  (x_NoRow_NoPlace:exmOne K (.ref A_NoRow) (.ref A_NoPlace)=some false)
  (x_NoRow_UnlikeSizes:exmOne K (.ref A_NoRow) (.ref A_UnlikeSizes)=some false)
  (k_NoRow_NoName:kitOne K (.ref A_NoRow) (.ref A_NoName)=some false)
  (k_NoRow_BadText:kitOne K (.ref A_NoRow) (.ref A_BadText)=some false)
  (k_NoRow_NoRow:kitOne K (.ref A_NoRow) (.ref A_NoRow)=some true)
  (k_NoRow_NoTable:kitOne K (.ref A_NoRow) (.ref A_NoTable)=some false)
  (k_NoRow_TooGreat:kitOne K (.ref A_NoRow) (.ref A_TooGreat)=some false)
  (k_NoRow_BadSheet:kitOne K (.ref A_NoRow) (.ref A_BadSheet)=some false)
  (k_NoRow_NoPlace:kitOne K (.ref A_NoRow) (.ref A_NoPlace)=some false)
  (k_NoRow_UnlikeSizes:kitOne K (.ref A_NoRow) (.ref A_UnlikeSizes)=some false)
  (k_NoRow_NoMachine:kitOne K (.ref A_NoRow) (.ref A_NoMachine)=some false)
  (k_NoRow_CircuitError:kitOne K (.ref A_NoRow) (.ref A_CircuitError)=some true)
  (k_NoRow_ValueError:kitOne K (.ref A_NoRow) (.type "ValueError")=some true)
  (c_UnlikeSizes:excClsIn K A_UnlikeSizes=true)
  (x_UnlikeSizes_NoPlace:exmOne K (.ref A_UnlikeSizes) (.ref A_NoPlace)=some false)
  (x_UnlikeSizes_UnlikeSizes:exmOne K (.ref A_UnlikeSizes) (.ref A_UnlikeSizes)=some true)
  (k_UnlikeSizes_NoName:kitOne K (.ref A_UnlikeSizes) (.ref A_NoName)=some false)
  (k_UnlikeSizes_BadText:kitOne K (.ref A_UnlikeSizes) (.ref A_BadText)=some false)
  (k_UnlikeSizes_NoRow:kitOne K (.ref A_UnlikeSizes) (.ref A_NoRow)=some false)
  (k_UnlikeSizes_NoTable:kitOne K (.ref A_UnlikeSizes) (.ref A_NoTable)=some false)
  (k_UnlikeSizes_TooGreat:kitOne K (.ref A_UnlikeSizes) (.ref A_TooGreat)=some false)
  (k_UnlikeSizes_BadSheet:kitOne K (.ref A_UnlikeSizes) (.ref A_BadSheet)=some false)
  (k_UnlikeSizes_NoPlace:kitOne K (.ref A_UnlikeSizes) (.ref A_NoPlace)=some false)
  (k_UnlikeSizes_UnlikeSizes:kitOne K (.ref A_UnlikeSizes) (.ref A_UnlikeSizes)=some true)
  (k_UnlikeSizes_NoMachine:kitOne K (.ref A_UnlikeSizes) (.ref A_NoMachine)=some false)
  (k_UnlikeSizes_CircuitError:kitOne K (.ref A_UnlikeSizes) (.ref A_CircuitError)=some true)
  (k_UnlikeSizes_ValueError:kitOne K (.ref A_UnlikeSizes) (.type "ValueError")=some true)
  (nt:NoTup K)
  (n:Nat)(hL:∀a:Adr,Exs K mg a->∀ns:List Int,ns.length<=63->run K a (n+1) q76 [.lst (ns.map .int)]=.ok (.fr (.bl true))):
  ∃fd:FuncData,(∀(s:Shared)(v:Value),BindsTo s fd ⟨[v],[]⟩ [("_law_script", v)])/\∀base:Heap,K.In base->base.Ns mainGlobals mg->BMain base mg->FnOk l.prog w K mg base (CX1 l.prog w) (n+1) fa fd ["_law_script"] (spLaw K):=by
 have e:=hfa.symm.trans (mg_of X G a26);cases e
 have A:Ats K mg:=⟨⟨⟨_,_,q0j (st:=q49) l0 c0 k0,mg_of X G a0,(q0j (st:=q49) l0 c0 k0).binds (ps:=["form", "row"]) fun _ _ _ _ _ _=>us2 fun _ _=>rfl⟩⟩,
  ⟨⟨_,_,q0j (st:=q27) l1 c1 k1,mg_of X G a1,(q0j (st:=q27) l1 c1 k1).binds (ps:=["things", "place"]) fun _ _ _ _ _ _=>us2 fun _ _=>rfl⟩⟩,
  ⟨⟨_,_,q0j (st:=q2v) l2 c2 k2,mg_of X G a2,(q0j (st:=q2v) l2 c2 k2).binds (ps:=["form"]) fun _ _ _ _ _ _=>us1 fun _=>rfl⟩⟩,
  ⟨⟨_,_,q0j (st:=q3o) l3 c3 k3,mg_of X G a3,(q0j (st:=q3o) l3 c3 k3).binds (ps:=["circuit", "state", "row"]) fun _ _ _ _ _ _=>us3 fun _ _ _=>rfl⟩⟩,
  ⟨⟨_,_,q0j (st:=q6a) l4 c4 k4,mg_of X G a4,(q0j (st:=q6a) l4 c4 k4).binds (ps:=["circuit", "rows"]) fun _ _ _ _ _ _=>us2 fun _ _=>rfl⟩⟩,
  ⟨⟨_,_,q0j (st:=q1f) l5 c5 k5,mg_of X G a5,(q0j (st:=q1f) l5 c5 k5).binds (ps:=["circuit"]) fun _ _ _ _ _ _=>us1 fun _=>rfl⟩⟩,
  ⟨⟨_,_,q0j (st:=q1s) l6 c6 k6,mg_of X G a6,(q0j (st:=q1s) l6 c6 k6).binds (ps:=["truths", "length"]) fun _ _ _ _ _ _=>us2 fun _ _=>rfl⟩⟩,
  ⟨⟨_,_,q0j (st:=q1o) l7 c7 k7,mg_of X G a7,(q0j (st:=q1o) l7 c7 k7).binds (ps:=["circuit"]) fun _ _ _ _ _ _=>us1 fun _=>rfl⟩⟩,
  ⟨⟨_,_,q0j (st:=q11) l8 c8 k8,mg_of X G a8,(q0j (st:=q11) l8 c8 k8).binds (ps:=["circuit"]) fun _ _ _ _ _ _=>us1 fun _=>rfl⟩⟩,
  ⟨⟨_,_,q0j (st:=q3z) l9 c9 k9,mg_of X G a9,(q0j (st:=q3z) l9 c9 k9).binds (ps:=["circuit", "state", "row"]) fun _ _ _ _ _ _=>us3 fun _ _ _=>rfl⟩⟩,
  ⟨⟨_,_,q0j (st:=q4i) l10 c10 k10,mg_of X G a10,(q0j (st:=q4i) l10 c10 k10).binds (ps:=["number", "many"]) fun _ _ _ _ _ _=>us2 fun _ _=>rfl⟩⟩,
  ⟨⟨_,_,q0j (st:=q2w) l11 c11 k11,mg_of X G a11,(q0j (st:=q2w) l11 c11 k11).binds (ps:=["many"]) fun _ _ _ _ _ _=>us1 fun _=>rfl⟩⟩,
  ⟨⟨_,_,q0j (st:=q2t) l12 c12 k12,mg_of X G a12,(q0j (st:=q2t) l12 c12 k12).binds (ps:=["many"]) fun _ _ _ _ _ _=>us1 fun _=>rfl⟩⟩,
  ⟨⟨_,_,q0j (st:=q1m) l13 c13 k13,mg_of X G a13,(q0j (st:=q1m) l13 c13 k13).binds (ps:=["circuit"]) fun _ _ _ _ _ _=>us1 fun _=>rfl⟩⟩,
  ⟨⟨_,_,q0j (st:=q3p) l14 c14 k14,mg_of X G a14,(q0j (st:=q3p) l14 c14 k14).binds (ps:=["begin", "pairs_of"]) fun _ _ _ _ _ _=>us2 fun _ _=>rfl⟩⟩,
  ⟨⟨_,_,q0j (st:=q1t) l15 c15 k15,mg_of X G a15,(q0j (st:=q1t) l15 c15 k15).binds (ps:=["_law_script", "_law_k"]) fun _ _ _ _ _ _=>us2 fun _ _=>rfl⟩⟩,
  ⟨⟨_,_,q0j (st:=q2h) l16 c16 k16,mg_of X G a16,(q0j (st:=q2h) l16 c16 k16).binds (ps:=["_law_cell", "_law_k"]) fun _ _ _ _ _ _=>us2 fun _ _=>rfl⟩⟩,
  ⟨⟨_,_,q0j (st:=q28) l17 c17 k17,mg_of X G a17,(q0j (st:=q28) l17 c17 k17).binds (ps:=["_law_number", "_law_many"]) fun _ _ _ _ _ _=>us2 fun _ _=>rfl⟩⟩,
  ⟨⟨_,_,q0j (st:=q2x) l18 c18 k18,mg_of X G a18,(q0j (st:=q2x) l18 c18 k18).binds (ps:=["_law_cell", "_law_places", "_law_deep"]) fun _ _ _ _ _ _=>us3 fun _ _ _=>rfl⟩⟩,
  ⟨⟨_,_,q0j (st:=q1n) l19 c19 k19,mg_of X G a19,(q0j (st:=q1n) l19 c19 k19).binds (ps:=["_law_many", "_law_size", "_law_k"]) fun _ _ _ _ _ _=>us3 fun _ _ _=>rfl⟩⟩,
  ⟨⟨_,_,q0j (st:=q15) l20 c20 k20,mg_of X G a20,(q0j (st:=q15) l20 c20 k20).binds (ps:=["_law_form_here", "_law_many", "_law_places"]) fun _ _ _ _ _ _=>us3 fun _ _ _=>rfl⟩⟩,
  ⟨⟨_,_,q0j (st:=q1u) l21 c21 k21,mg_of X G a21,(q0j (st:=q1u) l21 c21 k21).binds (ps:=["_law_script"]) fun _ _ _ _ _ _=>us1 fun _=>rfl⟩⟩,
  ⟨⟨_,_,q0j (st:=q2i) l22 c22 k22,mg_of X G a22,(q0j (st:=q2i) l22 c22 k22).binds (ps:=["_law_e", "_law_due"]) fun _ _ _ _ _ _=>us2 fun _ _=>rfl⟩⟩,
  ⟨⟨_,_,q0j (st:=q2y) l23 c23 k23,mg_of X G a23,(q0j (st:=q2y) l23 c23 k23).binds (ps:=["_law_circuit_here", "_law_state", "_law_row_here", "_law_rows", "_law_way"]) fun _ _ _ _ _ _=>us5 fun _ _ _ _ _=>rfl⟩⟩,
  ⟨⟨_,_,q0j (st:=q1p) l24 c24 k24,mg_of X G a24,(q0j (st:=q1p) l24 c24 k24).binds (ps:=["_law_circuit_here", "_law_at", "_law_more"]) fun _ _ _ _ _ _=>us3 fun _ _ _=>rfl⟩⟩,
  ⟨⟨_,_,q0j (st:=q2j) l25 c25 k25,mg_of X G a25,(q0j (st:=q2j) l25 c25 k25).binds (ps:=["_law_row_here", "_law_cell"]) fun _ _ _ _ _ _=>us2 fun _ _=>rfl⟩⟩,
  ⟨⟨_,_,q0j (st:=q3k) l26 c26 k26,mg_of X G a26,(q0j (st:=q3k) l26 c26 k26).binds (ps:=["_law_script"]) fun _ _ _ _ _ _=>us1 fun _=>rfl⟩⟩⟩
 have B:Blt mg:=⟨mg_none_of X G z_ValueError,mg_none_of X G z_any,mg_none_of X G z_int,mg_none_of X G z_isinstance,mg_none_of X G z_len,mg_none_of X G z_list,mg_none_of X G z_range,mg_none_of X G z_reversed,mg_none_of X G z_set,mg_none_of X G z_sorted,mg_none_of X G z_tuple⟩;have M:Exs K mg ⟨A_CircuitError,A_NoPlace,A_NoName,A_BadText,A_NoRow,A_NoTable,A_UnlikeSizes,A_TooGreat,A_NoMachine,A_BadSheet⟩:=⟨trivial,mg_of X G n_CircuitError,mg_of X G n_NoPlace,mg_of X G n_NoName,mg_of X G n_BadText,mg_of X G n_NoRow,mg_of X G n_NoTable,mg_of X G n_UnlikeSizes,mg_of X G n_TooGreat,mg_of X G n_NoMachine,mg_of X G n_BadSheet,e_NoPlace,e_NoRow,e_UnlikeSizes,c_NoPlace,x_NoPlace_NoPlace,x_NoPlace_UnlikeSizes,k_NoPlace_NoName,k_NoPlace_BadText,k_NoPlace_NoRow,k_NoPlace_NoTable,k_NoPlace_TooGreat,k_NoPlace_BadSheet,k_NoPlace_NoPlace,k_NoPlace_UnlikeSizes,k_NoPlace_NoMachine,k_NoPlace_CircuitError,k_NoPlace_ValueError,c_NoRow,x_NoRow_NoPlace,x_NoRow_UnlikeSizes,k_NoRow_NoName,k_NoRow_BadText,k_NoRow_NoRow,k_NoRow_NoTable,k_NoRow_TooGreat,k_NoRow_BadSheet,k_NoRow_NoPlace,k_NoRow_UnlikeSizes,k_NoRow_NoMachine,k_NoRow_CircuitError,k_NoRow_ValueError,c_UnlikeSizes,x_UnlikeSizes_NoPlace,x_UnlikeSizes_UnlikeSizes,k_UnlikeSizes_NoName,k_UnlikeSizes_BadText,k_UnlikeSizes_NoRow,k_UnlikeSizes_NoTable,k_UnlikeSizes_TooGreat,k_UnlikeSizes_BadSheet,k_UnlikeSizes_NoPlace,k_UnlikeSizes_UnlikeSizes,k_UnlikeSizes_NoMachine,k_UnlikeSizes_CircuitError,k_UnlikeSizes_ValueError,nt⟩
 have MK:Mks K mg:=⟨fun f oc od fd sl e1 e2=>by
  have z:=(mg_of X G a13).symm.trans e1;cases z;rw[l13]at e2;cases e2;exact⟨cc13,PP13,_,v13,h13,m13⟩⟩
 exact⟨_,fun s v=>.of_eq rfl,fun base _ _ BM=>(law_fn A B M BM MK (q0j (st:=q3k) l26 c26 k26) n).imp fun vs H Q E q=>x9o (hL _ M) q⟩
local macro_rules | `(tactic| walk_at "den") => do
 let l:=(("y03 y04 y05 y45 y46 x8b x5w x76 x5v q5r y01 y0z y4y y4z y41 x5s x5t y77 y78 y79 y4s y4t y4u x71 y0v x9q y4h y4i y4j y4k y93 y0n x2o x3l x7t x7u x7o x5f x7p x7q x5g x5h x5i x3k y0k x7r y0l y4a y4b y38 y0i y39 y70 y7w x94 x95 x7h y34 x7i x7j x96 y7x x97 x98 x7k y36 y0a y0b y0c y0d y0e y0f x7n y7y x5d y0g y0h y6o y6p y6q y6r y6s y6t y6u y28 y24 y25 y26 x9p y6l y6m y6n y27 y80 y81 y82 y83 y6v x48 x49 x64 y6w y6x y29 dC_s y84 y85 y3a y3b y6y y6z y86 y3c y60 y61 y87 y3d y62 y63 y3e y64 y65 y88 y89 y3f y9a y3g y66 y3h y3i y3j y67 y68 y69 y3k y3l y3m x9s y3n y3o x9t x65 x9u x66 x9v x9w x67 y7a y3p x68 q97 y3q y3r y3s y3t y3u x9x y7b x69 y9b y7c y7d y7e y3v y7f y9c y9d y7g y3w x9y y9e x7a y3x x9z y7h y7i y3y y3z y30 y31 x90 x5a x5b y7j x91 x7b y32 x92 y7k y7l y7m y7n y7o y33 y7p y7q y9f y9g y9h y9i y9j y9k y9l y9m y9n ix_t ix_l y9o y9p y9q y9r y9s y9t y9u y9v y9w y9x y9y y9z y90 sc_i sc_b sc_s sc_n sl_l at0 at1 at2 y7s rng1 rng2 init Option.map_some Option.bind_some List.map_cons List.map_nil List.length_cons List.length_nil List.replicate_succ List.replicate_zero List.cons_append List.nil_append List.getElem?_cons_zero List.getElem?_cons_succ List.set_cons_zero List.set_cons_succ if_true if_false decide_eq_true_eq reduceIte Bool.false_eq_true ite_true ite_false Nat.reduceSub Nat.reduceAdd Nat.reduceLeDiff Nat.zero_add Nat.le_refl Int.reduceLT Int.reduceLE Int.reduceNeg true_and and_true true_or or_true false_and and_false false_or or_false not_true_eq_false not_false_eq_true decide_true decide_false Bool.not_true Bool.not_false String.reduceEq Nat.reduceEqDiff x93 y91 y92 Int.reduceToNat Int.reducePow Nat.reduceLT cast0 cast1 Int.reduceEq Int.reduceMod Int.reduceDiv Int.reduceAdd Int.reduceSub Int.reduceMul x9r True.intro".splitOn " ").map fun s=>Lean.mkIdent s.toName).toArray
 `(tactic| try simp only [$[$l:ident],*])
section
theorem q3a(n:Nat)(ns:List Int)(hk:0<=k):run K a (n+1) q0r [.lst (ns.map .int),.int k]=.ok (.fr (.int (ns.getD k.toNat 0))):=by
 rw[q4j];unfold q31;walk_at "den"
 by_cases h:k<ns.length
 ·rw[if_pos (by simpa using h),y7r hk]
  have e:(ns.map W.int)[k.toNat]?=some (.int (ns.getD k.toNat 0)):=by
   have:k.toNat<ns.length:=by omega
   simp[List.getD,this]
  rw[e];walk_at "den"
 ·rw[if_neg (by simpa using h)]
  have:ns.getD k.toNat 0=0:=by
   have:¬k.toNat<ns.length:=by omega
   simp[List.getD,this]
  rw[this]
set_option genInjectivity true in
inductive Fm where
 |is (b:Bool)|at (p:Nat)|not (f:Fm)|and (f g:Fm)|or (f g:Fm)|odd (f g:Fm)
noncomputable def enc:Fm->W
 |.is b=>.tup [.str "is", .bl b]
 |.at p=>.tup [.str "at", .int p]
 |.not f=>.tup [.str "not", enc f]
 |.and f g=>.tup [.str "and", enc f,enc g]
 |.or f g=>.tup [.str "or", enc f,enc g]
 |.odd f g=>.tup [.str "odd", enc f,enc g]
noncomputable def Fm.depth:Fm->Nat
 |.is _=>1
 |.at _=>1
 |.not f=>f.depth+1
 |.and f g=>max f.depth g.depth+1
 |.or f g=>max f.depth g.depth+1
 |.odd f g=>max f.depth g.depth+1
def Fm.inb(m:Nat):Fm->Prop
 |.is _=>True
 |.at p=>p<m
 |.not f=>f.inb m
 |.and f g=>f.inb m/\g.inb m
 |.or f g=>f.inb m/\g.inb m
 |.odd f g=>f.inb m/\g.inb m
noncomputable def Fm.val(row:List Bool):Fm->Bool
 |.is b=>b
 |.at p=>row.getD p false
 |.not f=>!f.val row
 |.and f g=>f.val row&&g.val row
 |.or f g=>f.val row||g.val row
 |.odd f g=>f.val row != g.val row
theorem Fm.depth_pos:∀f:Fm,1<=f.depth
 |.is _=>w0e _
 |.at _=>w0e _
 |.not f=>by simp only[Fm.depth];omega
 |.and f g=>by simp only[Fm.depth];omega
 |.or f g=>by simp only[Fm.depth];omega
 |.odd f g=>by simp only[Fm.depth];omega
theorem y8i(h:p<row.length):atI (row.map W.bl) (p:Int)=some (.bl (row.getD p false)):=by
 refine q3x ?_;simp[List.getD,h]
theorem x53(n:Nat)(h:p<row.length):run K a (n+1) q3y [.tup (row.map .bl),.int p]=.ok (.fr (.bl (row.getD p false))):=by
 rw[q4y];unfold q4t;walk_at "den";rw[if_neg (by omega),if_neg (by simpa using h)];walk_at "den";rw[y8i h];walk_at "den"
theorem q2b:∀(f:Fm)(n:Nat){row:List Bool},f.depth<=n->f.inb row.length->run K a (n+1) q2c [enc f,.tup (row.map .bl)]=.ok (.fr (.bl (f.val row)))
 |.is b,n,row,hd,hb=>by
  rw[q13];unfold q2q;simp only[enc];walk_at "den";rfl
 |.at p,n,row,hd,hb=>by
  rw[q13];unfold q2q;simp only[enc];walk_at "den";obtain⟨n,rfl⟩:∃k,n=k+1:=⟨n-1,by simp only[Fm.depth]at hd;omega⟩;rw[x53 n hb];walk_at "den";rfl
 |.not f,n,row,hd,hb=>by
  rw[q13];unfold q2q;simp only[enc];walk_at "den";obtain⟨n,rfl⟩:∃k,n=k+1:=⟨n-1,by simp only[Fm.depth]at hd;omega⟩;rw[q2b f n (by simp only[Fm.depth]at hd;omega) hb];walk_at "den";rfl
 |.and f g,n,row,hd,hb=>by
  rw[q13];unfold q2q;simp only[enc];walk_at "den";obtain⟨n,rfl⟩:∃k,n=k+1:=⟨n-1,by simp only[Fm.depth]at hd;omega⟩;rw[q2b f n (by simp only[Fm.depth]at hd;omega) hb.1];walk_at "den";rw[q2b g n (by simp only[Fm.depth]at hd;omega) hb.2];walk_at "den";simp only[Fm.val];cases f.val row<;>simp
 |.or f g,n,row,hd,hb=>by
  rw[q13];unfold q2q;simp only[enc];walk_at "den";obtain⟨n,rfl⟩:∃k,n=k+1:=⟨n-1,by simp only[Fm.depth]at hd;omega⟩;rw[q2b f n (by simp only[Fm.depth]at hd;omega) hb.1];walk_at "den";rw[q2b g n (by simp only[Fm.depth]at hd;omega) hb.2];walk_at "den";simp only[Fm.val];cases f.val row<;>simp
 |.odd f g,n,row,hd,hb=>by
  rw[q13];unfold q2q;simp only[enc];walk_at "den";obtain⟨n,rfl⟩:∃k,n=k+1:=⟨n-1,by simp only[Fm.depth]at hd;omega⟩;rw[q2b f n (by simp only[Fm.depth]at hd;omega) hb.1];walk_at "den";rw[q2b g n (by simp only[Fm.depth]at hd;omega) hb.2];walk_at "den";simp only[Fm.val];cases f.val row<;>cases g.val row<;>rfl
noncomputable def Fm.size:Fm->Nat
 |.is _=>1
 |.at _=>1
 |.not f=>f.size+1
 |.and f g=>f.size+g.size+1
 |.or f g=>f.size+g.size+1
 |.odd f g=>f.size+g.size+1
theorem Fm.size_pos:∀f:Fm,1<=f.size
 |.is _=>w0e _
 |.at _=>w0e _
 |.not f=>by simp only[Fm.size];omega
 |.and f g=>by simp only[Fm.size];omega
 |.or f g=>by simp only[Fm.size];omega
 |.odd f g=>by simp only[Fm.size];omega
theorem x4i{i:Nat}{b:List S->SR}(I:Nat->List S->Prop):∀(ws:List W)(k:Nat)(e:List S),I k e->(∀(j:Nat)(w:W)(e:List S),w∈ws->I j e->∃e',b (e.set i (.fr w))=.nx e'/\I (j+1) e')->∃e',forD i b ws e=.nx e'/\I (k+ws.length) e'
 |[],k,e,h0,_=>⟨e,rfl,h0⟩
 |w::ws,k,e,h0,h=>by
  obtain⟨e1,h1,h2⟩:=h k w e (by simp) h0;obtain⟨e2,h3,h4⟩:=x4i I ws (k+1) e1 h2 fun j u e hu=>h j u e (by simp[hu])
  refine⟨e2,?_,?_⟩
  ·rw[q57,h1,q97,h3]
  ·rw[w1l];have:k+1+ws.length=k+(ws.length+1):=by omega
   rw[<- this];exact h4
theorem mem_range{lo hi:Int}(h:w∈rangeW lo hi):∃k:Nat,w=.int (lo+k)/\(k:Int)<hi-lo:=by
 unfold rangeW at h;obtain⟨k,h1,rfl⟩:=w0n.mp h;rw[w1m]at h1;exact⟨k,rfl,by omega⟩
theorem len_range{lo hi:Int}:(rangeW lo hi).length=(hi-lo).toNat:=by simp[rangeW]
theorem q6r(st:List Fm):(st.map enc).length=st.length:=w0a ..
theorem q41{a b:String}(h:a≠b):Str.ofString a≠Str.ofString b:=fun z=>h (q7p z)
noncomputable def Fm.has(p:Nat):Fm->Bool
 |.is _=>false
 |.at q=>decide (q=p)
 |.not f=>f.has p
 |.and f g=>f.has p||g.has p
 |.or f g=>f.has p||g.has p
 |.odd f g=>f.has p||g.has p
noncomputable def nW(p:Nat):W:=.int (p:Int)
noncomputable def pl(f:Fm):List Nat:=(List.range 12).filter f.has
noncomputable def plW(f:Fm):List W:=(pl f).map nW
theorem x26(f:Fm):(pl f).length<=12:=by
 unfold pl;exact w0w (List.length_filter_le _ _) (by simp)
theorem q1v:∀(f:Fm)(m:Nat),f.inb m↔∀p,f.has p=true->p<m
 |.is b,m=>⟨fun _ p h=>(by cases h),fun _=>trivial⟩
 |.at q,m=>⟨fun h p e=>(of_decide_eq_true e) ▸ h,fun h=>h q (by simp[Fm.has])⟩
 |.not f,m=>q1v f m
 |.and f g,m=>by
  show f.inb m/\g.inb m↔∀p,(f.has p||g.has p)=true->p<m;rw[q1v f m,q1v g m];exact⟨fun h p e=>((w2f _ _).mp e).elim (h.1 p) (h.2 p),fun h=>⟨fun p e=>h p (by rw[e];rfl),fun p e=>h p (by rw[e,w4o])⟩⟩
 |.or f g,m=>by
  show f.inb m/\g.inb m↔∀p,(f.has p||g.has p)=true->p<m;rw[q1v f m,q1v g m];exact⟨fun h p e=>((w2f _ _).mp e).elim (h.1 p) (h.2 p),fun h=>⟨fun p e=>h p (by rw[e];rfl),fun p e=>h p (by rw[e,w4o])⟩⟩
 |.odd f g,m=>by
  show f.inb m/\g.inb m↔∀p,(f.has p||g.has p)=true->p<m;rw[q1v f m,q1v g m];exact⟨fun h p e=>((w2f _ _).mp e).elim (h.1 p) (h.2 p),fun h=>⟨fun p e=>h p (by rw[e];rfl),fun p e=>h p (by rw[e,w4o])⟩⟩
theorem q3s:∀(f:Fm),depW (enc f)<=f.depth
 |.is b=>by simp[enc,depW,depWs,Fm.depth]
 |.at p=>by simp[enc,depW,depWs,Fm.depth]
 |.not f=>by have:=q3s f;simp[enc,depW,depWs,Fm.depth];omega
 |.and f g=>by have:=q3s f;have:=q3s g;simp[enc,depW,depWs,Fm.depth];omega
 |.or f g=>by have:=q3s f;have:=q3s g;simp[enc,depW,depWs,Fm.depth];omega
 |.odd f g=>by have:=q3s f;have:=q3s g;simp[enc,depW,depWs,Fm.depth];omega
theorem q9w:∀(fs:List Fm)(d:Nat),(∀f∈fs,f.depth<=d)->depWs (fs.map enc)<=d
 |[],d,_=>w1f _
 |f::fs,d,h=>by
  have h1:=q3s f;have h2:=h f (by simp);have h3:=q9w fs d fun x hx=>h x (by simp[hx])
  show max (depW (enc f)) (depWs (fs.map enc))<=d;omega
theorem sl2{x y:W}:slW (.tup [x,y]) (some 1) none=some (.tup [y]):=rfl
theorem sl3{x y z:W}:slW (.tup [x,y,z]) (some 1) none=some (.tup [y,z]):=rfl
noncomputable def sumZ(st:List Fm):Nat:=(st.map Fm.size).sum
theorem q3t(s:List Fm)(f:Fm):sumZ (s++[f])=sumZ s+f.size:=by simp[sumZ]
theorem q80:∀st:List Fm,st.length<=sumZ st
 |[]=>w0e _
 |f::st=>by
  have h1:=q80 st;have h2:=f.size_pos;show st.length+1<=(((f::st).map Fm.size).sum);simp only[w0u,List.sum_cons];unfold sumZ at h1;omega
theorem q8g(n:Nat)(w0:W):∀(Z fuel:Nat)(st:List Fm)(ps:List Nat)(z:S),sumZ st<=Z->Z<fuel->ps.length+Z<4000 ->
  ∃(ps':List Nat)(y:S),whileD (q16 K a (run K a n)) (q3b K a (run K a n)) fuel [.fr w0,.own none (ps.map nW),.own none (st.map enc),z]=.nx [.fr w0,.own none (ps'.map nW),.own none [],y]/\(∀p,p∈ps'↔p∈ps\/∃f∈st,f.has p=true)/\ps'.length<=ps.length+Z:=by
 intro Z
 induction Z with
 |zero=>
  intro fuel st ps z hz hf hl;have h0:st=[]:=w2r.mp (by have:=q80 st;omega);subst h0;obtain⟨fuel,rfl⟩:∃k,fuel=k+1:=⟨fuel-1,by omega⟩;rw[q6m];unfold q16;walk_at "den";exact⟨ps,z,rfl,fun p=>⟨.inl,fun h=>h.elim id fun⟨f,hf,_⟩=>by cases hf⟩,by omega⟩
 |succ Z ih=>
  intro fuel st ps z hz hf hl;obtain⟨fuel,rfl⟩:∃k,fuel=k+1:=⟨fuel-1,by omega⟩;rcases List.eq_nil_or_concat st with rfl|⟨s,f,h0⟩
  ·rw[q6m];unfold q16;walk_at "den";exact⟨ps,z,rfl,fun p=>⟨.inl,fun h=>h.elim id fun⟨f,hf,_⟩=>by cases hf⟩,by omega⟩
  ·have h0:st=s++[f]:=by simpa using h0
   subst h0;rw[q3t]at hz;have hs:=q80 s;rw[q6m];unfold q16;walk_at "den";rw[if_pos (by rw[q6r,w0q];simp)];unfold q3b;rw[w0i];walk_at "den"
   have mem:∀(gs:List Fm),(∀p,f.has p=true↔∃g∈gs,g.has p=true)->∀p,(∃g∈s++gs,g.has p=true)↔∃g∈s++[f],g.has p=true:=fun gs hg p=>by
    constructor
    ·rintro⟨g,h1,h2⟩;rcases w1a.mp h1 with h1|h1
     ·exact⟨g,by simp[h1],h2⟩
     ·exact⟨f,by simp,(hg p).mpr ⟨g,h1,h2⟩⟩
    ·rintro⟨g,h1,h2⟩;rcases w1a.mp h1 with h1|h1
     ·exact⟨g,by simp[h1],h2⟩
     ·rw[w0g.mp h1]at h2;obtain⟨g',h3,h4⟩:=(hg p).mp h2;exact⟨g',by simp[h3],h4⟩
   cases f with
   | «is» b=>
    simp only[enc];walk_at "den";simp only[Fm.size]at hz;obtain⟨ps',y,k1,k2,k3⟩:=ih fuel s ps (.fr (.tup [.str "is", .bl b])) (by omega) (by omega) (by omega);have m:=mem [] (fun p=>⟨fun h=>(by cases h),fun⟨g,h,_⟩=>(by cases h)⟩)
    refine⟨ps',y,k1,fun p=>?_,by omega⟩
    rw[k2 p,<- m p,w0x]
   | «at» q=>
    simp only[enc];walk_at "den";simp only[Fm.size]at hz;rw[if_pos (by rw[w0a];omega)];walk_at "den";obtain⟨ps',y,k1,k2,k3⟩:=ih fuel s (ps++[q]) (.fr (.tup [.str "at", .int (q:Int)])) (by omega) (by omega) (by rw[w0q];simp;omega);rw[w0i]at k1;refine⟨ps',y,k1,fun p=>?_,by rw[w0q]at k3;simp at k3;omega⟩
    rw[k2 p];constructor
    ·rintro(h|⟨g,h1,h2⟩)
     ·rcases w1a.mp h with h|h
      ·exact .inl h
      ·rw[w0g.mp h];exact .inr ⟨.at q,by simp,by simp[Fm.has]⟩
     ·exact .inr ⟨g,by simp[h1],h2⟩
    ·rintro(h|⟨g,h1,h2⟩)
     ·exact .inl (by simp[h])
     ·rcases w1a.mp h1 with h1|h1
      ·exact .inr ⟨g,h1,h2⟩
      ·rw[w0g.mp h1]at h2;have:q=p:=of_decide_eq_true h2;subst this;exact .inl (by simp)
   |not g=>
    simp only[enc];walk_at "den";simp only[Fm.size]at hz;rw[sl2];walk_at "den";rw[if_pos (by rw[q6r];omega)];walk_at "den";obtain⟨ps',y,k1,k2,k3⟩:=ih fuel (s++[g]) ps (.fr (.tup [.str "not", enc g])) (by rw[q3t];omega) (by omega) (by omega);rw[w0i]at k1;have m:=mem [g] (fun p=>⟨fun h=>⟨g,by simp,h⟩,fun⟨g',h,h2⟩=>by rw[w0g.mp h]at h2;exact h2⟩)
    exact⟨ps',y,k1,fun p=>by rw[k2 p,<- m p],by omega⟩
   |and g h=>
    simp only[enc];walk_at "den";simp only[Fm.size]at hz;rw[sl3];walk_at "den";rw[if_pos (by rw[q6r];omega)];walk_at "den";obtain⟨ps',y,k1,k2,k3⟩:=ih fuel (s++[g,h]) ps (.fr (.tup [.str "and", enc g,enc h])) (by rw[show s++[g,h]=(s++[g])++[h] by simp,q3t,q3t];omega) (by omega) (by omega);rw[w0i]at k1;have m:=mem [g,h] (fun p=>by simp[Fm.has])
    exact⟨ps',y,k1,fun p=>by rw[k2 p,<- m p],by omega⟩
   |or g h=>
    simp only[enc];walk_at "den";simp only[Fm.size]at hz;rw[sl3];walk_at "den";rw[if_pos (by rw[q6r];omega)];walk_at "den";obtain⟨ps',y,k1,k2,k3⟩:=ih fuel (s++[g,h]) ps (.fr (.tup [.str "or", enc g,enc h])) (by rw[show s++[g,h]=(s++[g])++[h] by simp,q3t,q3t];omega) (by omega) (by omega);rw[w0i]at k1;have m:=mem [g,h] (fun p=>by simp[Fm.has])
    exact⟨ps',y,k1,fun p=>by rw[k2 p,<- m p],by omega⟩
   |odd g h=>
    simp only[enc];walk_at "den";simp only[Fm.size]at hz;rw[sl3];walk_at "den";rw[if_pos (by rw[q6r];omega)];walk_at "den";obtain⟨ps',y,k1,k2,k3⟩:=ih fuel (s++[g,h]) ps (.fr (.tup [.str "odd", enc g,enc h])) (by rw[show s++[g,h]=(s++[g])++[h] by simp,q3t,q3t];omega) (by omega) (by omega);rw[w0i]at k1;have m:=mem [g,h] (fun p=>by simp[Fm.has])
    exact⟨ps',y,k1,fun p=>by rw[k2 p,<- m p],by omega⟩
theorem q78(l:List Nat):l.map nW=(l.map fun(p:Nat)=>(p:Int)).map W.int:=by rw[w0y];rfl
theorem x4j(f:Fm):((pl f).map fun(p:Nat)=>(p:Int)).Pairwise (·<·):=by
 have hs:(pl f).Pairwise (·<·):=List.Pairwise.filter _ w2t;exact List.Pairwise.map _ (fun a b h=>by omega) hs
theorem x27(n:Nat)(f:Fm)(hb:f.inb 12)(hz:f.size<=3000):run K a (n+1) q3f [enc f]=.ok (.own none (plW f)):=by
 rw[q4g];unfold q4b;walk_at "den";obtain⟨ps,y,h1,h2,h3⟩:=q8g (K:=K) (a:=a) n (enc f) 3000 1000000 [f] [] .no (by simpa [sumZ]using hz) (by decide) (by simp);have h1:whileD (q16 K a (run K a n)) (q3b K a (run K a n)) 1000000 [.fr (enc f),.own none [],.own none [enc f],.no]=.nx [.fr (enc f),.own none (ps.map nW),.own none [],y]:=h1;rw[h1];walk_at "den"
 have mem:∀x:Int,x∈(pl f).map (fun(p:Nat)=>(p:Int))↔x∈ps.map (fun(p:Nat)=>(p:Int)):=by
  intro x;constructor
  ·intro hx;obtain⟨p,hp,rfl⟩:=w0n.mp hx;exact w0n.mpr ⟨p,(h2 p).mpr (.inr ⟨f,by simp,(w1w.mp hp).2⟩),rfl⟩
  ·intro hx;obtain⟨p,hp,rfl⟩:=w0n.mp hx;rcases(h2 p).mp hp with z|⟨g,hg,hh⟩
   ·cases z
   ·rw[w0g.mp hg]at hh;exact w0n.mpr ⟨p,w1w.mpr ⟨w1m.mpr ((q1v f 12).mp hb p hh),hh⟩,rfl⟩
 have e:=q9q (x4j f) mem;rw[q78,x06 (by rw[w0a];simp at h3;omega) (by rw[<- (q26 _).length_eq,e,w0a];have:=x26 f;omega),e];walk_at "den";unfold plW;rw[q78]
structure Cc where
 m:Nat
 cells:List (Bool×Fm)
 outs:List Fm
noncomputable def encP(p:Bool×Fm):W:=.tup [.bl p.1,enc p.2]
noncomputable def encC(c:Cc):W:=.tup [.int (c.m:Int),.tup (c.cells.map encP),.tup (c.outs.map enc)]
def okF(q:Nat)(f:Fm):Prop:=f.inb q/\f.depth<=100/\f.size<=1000
structure Cc.Ok(c:Cc):Prop where
 few:c.m+c.cells.length<=12
 mm:c.m<=3
 cc:c.cells.length<=4
 oo:c.outs.length<=10
 outs:c.outs.length<=100
 cf:∀p∈c.cells,okF (c.m+c.cells.length) p.2
 of:∀f∈c.outs,okF (c.m+c.cells.length) f
 cd:∀p∈c.cells,p.2.depth<=80/\p.2.size<=300
 od:∀f∈c.outs,f.depth<=80/\f.size<=300
theorem q5z(l:List (Bool×Fm)):pairsW (l.map encP)=some (l.map fun p=>(W.bl p.1,enc p.2)):=by
 induction l with
 |nil=>rfl
 |cons p l ih=>
  show(pairsW (l.map encP)).map ((W.bl p.1,enc p.2)::·)=_;rw[ih];rfl
theorem q6s(n:Nat)(c:Cc)(hc:c.Ok):run K a (n+1) q2g [encC c]=.ok (.own none ((c.cells.map Prod.snd).map enc)):=by
 have:=hc.few;rw[q33];unfold q3q encC;walk_at "den";rw[q5z];walk_at "den";rw[if_pos (by rw[w0a];omega),D.q5o (q:=fun _=>true) (g:=fun p=>p.2)]
 ·walk_at "den";rw[w2o.mpr (fun _ _=>rfl),w0y,w0y]
  rfl
 ·intro p hp;unfold q5a;walk_at "den";exact⟨_,rfl,fun _=>⟨_,rfl⟩⟩
theorem y8j{f:Fm}(h:okF q f)(hq:q<=12):f.inb 12:=(q1v f 12).mpr fun p hp=>by have:=(q1v f q).mp h.1 p hp;omega
theorem x1b(n:Nat)(q:Nat)(hq:q<=12)(f:Fm)(hf:okF q f)(w0:W):q1e K a (run K a (n+1)) [.fr w0,.fr (.int (q:Int)),.fr (enc f)]=.nx [.fr w0,.fr (.int (q:Int)),.fr (enc f)]:=by
 have hp:=x26 f;unfold q1e;walk_at "den";rw[x27 n f (y8j hf hq) (by have:=hf.2.2;omega)];walk_at "den";rw[if_pos (by unfold plW;rw[w0a];omega)];simp only[frz1,pj1,w0h,w0s];rw[D.q47 (g:=fun _=>W.bl false)]
 ·walk_at "den";have e:(plW f).map (fun _=>W.bl false)=((pl f).map fun _=>false).map W.bl:=by unfold plW;rw[w0y,w0y];rfl
  rw[e,y13];have e2:((pl f).map fun _=>false).any id=false:=by simp
  rw[e2];walk_at "den"
 ·intro w hw;obtain⟨p,hp,rfl⟩:=w0n.mp hw;have hlt:=(q1v f q).mp hf.1 p (w1w.mp hp).2;unfold q35 nW;walk_at "den";rw[if_neg (by omega)];have h2:decide ((q:Int)<=(p:Int))=false:=by rw[decide_eq_false_iff_not];omega
  rw[h2];exact⟨_,rfl⟩
theorem q21(n:Nat)(c:Cc)(hc:c.Ok):run K a (n+2) q1k [encC c]=.ok (.fr .non):=by
 have h1:=hc.few;have h2:=hc.outs;rw[q20];unfold q2u;have hix0:ixW (encC c) (.int 0)=some (.int (c.m:Int)):=rfl;have hix1:ixW (encC c) (.int 1)=some (.tup (c.cells.map encP)):=rfl;have hix2:ixW (encC c) (.int 2)=some (.tup (c.outs.map enc)):=rfl;walk_at "den";rw[hix0];walk_at "den";rw[hix1];walk_at "den";rw[q6s n c hc];walk_at "den";rw[hix2];walk_at "den";rw[if_pos (by simp only[w0a];omega)];walk_at "den";have eq:(c.m:Int)+(((c.cells.map encP).length:Nat):Int)=((c.m+c.cells.length:Nat):Int):=by rw[w0a];omega
 rw[eq]
 obtain⟨e',k1,z,k2⟩:=x4i (i:=2) (b:=q1e K a (run K a (n+1))) (fun _ e=>∃z,e=[.fr (encC c),.fr (.int ((c.m+c.cells.length:Nat):Int)),z]) ((c.cells.map Prod.snd).map enc++c.outs.map enc) 0 [.fr (encC c),.fr (.int ((c.m+c.cells.length:Nat):Int)),.no] ⟨_,rfl⟩ (by
  rintro j w e hw ⟨z,rfl⟩
  have:∃f,w=enc f/\okF (c.m+c.cells.length) f:=by
   rcases w1a.mp hw with hw|hw
   ·obtain⟨f,hf,rfl⟩:=w0n.mp hw;obtain⟨p,hp,rfl⟩:=w0n.mp hf;exact⟨_,rfl,hc.cf p hp⟩
   ·obtain⟨f,hf,rfl⟩:=w0n.mp hw;exact⟨_,rfl,hc.of f hf⟩
  obtain⟨f,rfl,hf⟩:=this;exact⟨_,x1b n _ h1 f hf _,_,rfl⟩)
 rw[k1];subst k2;rfl
theorem q2n(n:Nat)(bs:List Bool):run K a (n+1) q1c [.tup (bs.map .bl),.int (bs.length:Int)]=.ok (.fr .non):=by
 rw[q29];unfold q22;walk_at "den";rw[w0a,if_neg (by simp)];walk_at "den"
noncomputable def movedW(c:Cc)(st row:List Bool):W:=.tup [.tup ((c.outs.map fun f=>f.val (row++st)).map .bl),.tup ((c.cells.map fun p=>p.2.val (row++st)).map .bl)]
theorem q6i(n:Nat)(c:Cc)(hc:c.Ok)(st row:List Bool)(hs:st.length=c.cells.length)(hr:row.length=c.m):run K a (n+102) q4m [encC c,.tup (st.map .bl),.tup (row.map .bl)]=.ok (.fr (movedW c st row)):=by
 have h1:=hc.few;have h2:=hc.outs;rw[q6h];unfold q6p;have hix2:ixW (encC c) (.int 2)=some (.tup (c.outs.map enc)):=rfl;walk_at "den";rw[if_pos (by simp only[w0a];omega)];walk_at "den";rw[hix2];walk_at "den";rw[if_pos (by rw[w0a];omega)];simp only[frz1,pj1,w0h,w0s];rw[<- w0i]
 have val:∀(l:List Fm),(∀f∈l,okF (c.m+c.cells.length) f)->compX dYes (q1q K a (run K a (n+101))) [.fr (.tup ((row++st).map .bl))] (l.map enc)=some (.inr ((l.map fun f=>f.val (row++st)).map .bl)):=by
  intro l
  induction l with
  |nil=>intro _;rfl
  |cons f l ih=>
   intro h;have hf:=h f (by simp)
   have e1:q1q K a (run K a (n+101)) [.fr (enc f),.fr (.tup ((row++st).map .bl))]=.ok (.bl (f.val (row++st))) [.fr (enc f),.fr (.tup ((row++st).map .bl))]:=by
    unfold q1q;walk_at "den";rw[q2b f (n+100) (by have:=hf.2.1;omega) (by rw[w0q,hr,hs];exact hf.1)];walk_at "den"
   rw[w0u,q8q e1,ih fun g hg=>h g (by simp[hg])]
   rfl
 have e01:q7u K a (run K a (n+101))=q1q K a (run K a (n+101)):=rfl;rw[val _ hc.of];walk_at "den";rw[q6s (n+100) c hc];walk_at "den";rw[if_pos (by simp only[w0a];omega)];simp only[frz1,pj1,w0h,w0s];rw[e01,val _ (fun f hf=>by obtain⟨p,hp,rfl⟩:=w0n.mp hf;exact hc.cf p hp)]
 walk_at "den";unfold movedW;simp only[w0y];rfl
theorem x3v(n:Nat)(c:Cc)(hc:c.Ok)(st row:List Bool)(hs:st.length=c.cells.length)(hr:row.length=c.m):run K a (n+103) q2a [encC c,.tup (st.map .bl),.tup (row.map .bl)]=.ok (.fr (movedW c st row)):=by
 rw[q4d];unfold q4o;have hix0:ixW (encC c) (.int 0)=some (.int (c.m:Int)):=rfl;have hix1:ixW (encC c) (.int 1)=some (.tup (c.cells.map encP)):=rfl;walk_at "den";rw[q21 (n+100) c hc];walk_at "den";rw[hix1];walk_at "den";rw[w0a,<- hs,q2n (n+101) st];walk_at "den";rw[hix0];walk_at "den";rw[<- hr,q2n (n+101) row];walk_at "den";rw[q6i n c hc st row hs hr];walk_at "den"
noncomputable def mix2(c k:Int):Int:=((c+7919*k)*48271%2147483647*((c+7919*k)*48271%2147483647)+7*((c+7919*k)*48271%2147483647)+k)%2147483629
theorem q68(n:Nat)(c k:Int):run K a (n+1) q1h [.int c,.int k]=.ok (.fr (.int (mix2 c k))):=by
 rw[q5b];unfold q4v;walk_at "den";rw[if_pos (by omega)];rfl
theorem words4{j:Int}(h:j=0\/j=1\/j=2\/j=3):atI [W.str "and", W.str "or", W.str "odd", W.str "odd"] j=some (.str (if j=0 then "and" else if j=1 then "or" else "odd")):=by
 rcases h with rfl|rfl|rfl|rfl<;>rfl
noncomputable def bin4(j:Int)(f g:Fm):Fm:=if j=0 then .and f g else if j=1 then .or f g else .odd f g
theorem y48{j:Int}(f g:Fm):(W.tup [.str (if j=0 then "and" else if j=1 then "or" else "odd"),enc f,enc g])=enc (bin4 j f g)/\(bin4 j f g).depth=max f.depth g.depth+1/\(bin4 j f g).size=f.size+g.size+1/\∀m,f.inb m->g.inb m->(bin4 j f g).inb m:=by
 unfold bin4;split
 ·exact⟨rfl,rfl,rfl,fun m h1 h2=>⟨h1,h2⟩⟩
 ·split<;>exact⟨rfl,rfl,rfl,fun m h1 h2=>⟨h1,h2⟩⟩
theorem x1c : ∀ (d n : Nat) (c : Int) (q : Nat), q <= 12 -> ∃ f : Fm, run K a (n + d + 2) q1j [.int c, .int (q : Int), .int (d : Int)] = .ok (.fr (enc f)) /\ f.inb q /\ f.depth <= d + 1 /\ f.size + 1 <= 2 ^ (d + 1) := by
 intro d
 induction d with
 | zero =>
  intro n c q hq;rw [q4h];unfold q4c;walk_at "den"
  by_cases h0 : c % 7 = 0
  ·rw [if_pos h0];exact ⟨.is _, rfl, trivial, w0e _, by show 1 + 1 <= 2 ^ (0 + 1); decide⟩
  ·rw [if_neg h0]
   by_cases hq0 : (q : Int) = 0
   ·rw [if_pos hq0];exact ⟨.is _, rfl, trivial, w0e _, by show 1 + 1 <= 2 ^ (0 + 1); decide⟩
   ·rw [if_neg hq0, if_pos (by omega)];walk_at "den";have hm := w1q (c / 7) hq0;have hm2 := w1k (c / 7) (show (0 : Int) < q by omega);obtain ⟨p, hp⟩ : ∃ p : Nat, c / 7 % (q : Int) = (p : Int) := ⟨(c / 7 % (q : Int)).toNat, by omega⟩;rw [hp];exact ⟨.at p, rfl, by show p < q; omega, w0e _, by show 1 + 1 <= 2 ^ (0 + 1); decide⟩
 | succ d ih =>
  intro n c q hq
  have hpw : 2 <= 2 ^ (d + 1) := by
   have : 2 ^ 1 <= 2 ^ (d + 1) := w1i (by decide) (by omega)
   simpa using this
  have hpw2 : 2 ^ (d + 1 + 1) = 2 ^ (d + 1) * 2 := w4p ..;rw [q4h];unfold q4c;walk_at "den";have hd0 : ¬ ((d + 1 : Nat) : Int) = 0 := by omega
  have is_ok : ∀ b : Bool, ∃ f : Fm, (FR.ok (S.fr (W.tup [.str "is", .bl b]))) = .ok (.fr (enc f)) /\ f.inb q /\ f.depth <= d + 1 + 1 /\ f.size + 1 <= 2 ^ (d + 1 + 1) := fun b => ⟨.is b, rfl, trivial, by show 1 <= _; omega, by show 1 + 1 <= _; omega⟩
  by_cases h0 : c % 7 = 0
  ·rw [if_pos h0];exact is_ok _
  ·rw [if_neg h0]
   by_cases h1 : c % 7 = 1
   ·by_cases hq0 : (q : Int) = 0
    ·rw [if_pos hq0, if_neg hd0, if_pos h1];exact is_ok _
    ·rw [if_neg hq0, if_neg hd0, if_pos h1, if_pos (by omega)];walk_at "den";have hm := w1q (c / 7) hq0;have hm2 := w1k (c / 7) (show (0 : Int) < q by omega);obtain ⟨p, hp⟩ : ∃ p : Nat, c / 7 % (q : Int) = (p : Int) := ⟨(c / 7 % (q : Int)).toNat, by omega⟩;rw [hp];exact ⟨.at p, rfl, by show p < q; omega, by show 1 <= _; omega, by show 1 + 1 <= _; omega⟩
   ·have hsub : ((d + 1 : Nat) : Int) - 1 = (d : Int) := by omega
    obtain ⟨f, f1, f2, f3, f4⟩ := ih n (mix2 (c / 7) 1) q hq;obtain ⟨g, g1, g2, g3, g4⟩ := ih n (mix2 (c / 7) 2) q hq;have rest : ∃ f : Fm, ((dSeq (dSet 5 (dCall (run K a (n + d + 2) q1j) (dCons (dCall (run K a (n + d + 2) q1h) (dCons (dVar 4) (dCons (dC (.int 1)) dNil))) (dCons (dVar 1) (dCons (dOp subW (dVar 2) (dC (.int 1))) dNil)))))
  (dSeq (dIfS (dTest (dOp eq2 (dVar 3) (dC (.int 2))))
  (dRet (dTup (dCons (dC (.str "not")) (dCons (dVar 5) dNil))))
  dNx)
  (dRet (dTup (dCons (dOp ixW (dFz (dLst (dCons (dC (.str "and")) (dCons (dC (.str "or")) (dCons (dC (.str "odd")) (dCons (dC (.str "odd")) dNil)))))) (dOp subW (dVar 3) (dC (.int 3)))) (dCons (dVar 5) (dCons (dCall (run K a (n + d + 2) q1j) (dCons (dCall (run K a (n + d + 2) q1h) (dCons (dVar 4) (dCons (dC (.int 2)) dNil))) (dCons (dVar 1) (dCons (dOp subW (dVar 2) (dC (.int 1))) dNil)))) dNil))))))) [.fr (.int c), .fr (.int (q : Int)), .fr (.int ((d + 1 : Nat) : Int)), .fr (.int (c % 7)), .fr (.int (c / 7)), .no]).fn = .ok (.fr (enc f)) /\ f.inb q /\ f.depth <= d + 1 + 1 /\ f.size + 1 <= 2 ^ (d + 1 + 1) := by
     walk_at "den";rw [q68 (n + d + 1)];walk_at "den";rw [hsub, f1];walk_at "den"
     by_cases h2 : c % 7 = 2
     ·rw [if_pos h2];exact ⟨.not f, rfl, f2, by show f.depth + 1 <= _; omega, by show f.size + 1 + 1 <= _; omega⟩
     ·rw [if_neg h2, words4 (by omega)];walk_at "den";rw [q68 (n + d + 1)];walk_at "den";rw [hsub, g1];walk_at "den";obtain ⟨b1, b2, b3, b4⟩ := y48 (j := c % 7 - 3) f g;rw [b1];exact ⟨_, rfl, b4 q f2 g2, by rw [b2]; omega, by rw [b3]; omega⟩
    revert rest;walk_at "den";intro rest
    by_cases hq0 : (q : Int) = 0
    ·rw [if_pos hq0, if_neg hd0, if_neg h1, if_neg hd0, if_neg h1];exact rest
    ·rw [if_neg hq0, if_neg hd0, if_neg h1];exact rest
theorem x28(n:Nat)(m s k:Nat)(hk:k<s)(hs:s<=12):∃f:Fm,run K a (n+1) q2s [.int (m:Int),.int (s:Int),.int (k:Int)]=.ok (.fr (enc f))/\f.inb (m+s)/\f.depth<=20/\f.size<=40:=by
 rw[q36];unfold q3l
 have rest:∀f0:Fm,f0.inb (m+s)->f0.depth=1->f0.size=1->∃f:Fm,((dSeq (dForR 4 rng2 (dCons (dOp addX (dVar 2) (dC (.int 1))) (dCons (dVar 1) dNil))
  (q2z K a (run K a n)))
  (dRet (dTup (dCons (dC (.str "odd")) (dCons (dTup (dCons (dC (.str "at")) (dCons (dOp addX (dVar 0) (dVar 2)) dNil))) (dCons (dVar 3) dNil)))))) [.fr (.int (m:Int)),.fr (.int (s:Int)),.fr (.int (k:Int)),.fr (enc f0),.no]).fn=.ok (.fr (enc f))/\f.inb (m+s)/\f.depth<=20/\f.size<=40:=by
  intro f0 hf0 hd0 hz0;walk_at "den";rw[if_pos ⟨q37 (by omega) (by omega),q37 (by omega) (by omega)⟩];walk_at "den"
  obtain⟨e',h2,f,z,rfl,hf,hfd,hfz⟩:=q25 (b:=q2z K a (run K a n)) (i:=4) (lo:=(k:Int)+1) (hi:=(s:Int)) (s-(k+1)) (by omega) (fun j e=>∃(f:Fm)(z:S),e=[.fr (.int (m:Int)),.fr (.int (s:Int)),.fr (.int (k:Int)),.fr (enc f),z]/\f.inb (m+s)/\f.depth<=j+1/\f.size<=2*j+1) [.fr (.int (m:Int)),.fr (.int (s:Int)),.fr (.int (k:Int)),.fr (enc f0),.no] ⟨f0,_,rfl,hf0,by omega,by omega⟩ (by
   rintro j e hj ⟨f,z,rfl,hf,hfd,hfz⟩;unfold q2z;walk_at "den";obtain⟨p,hp⟩:∃p:Nat,(m:Int)+((k:Int)+1+(j:Int))=(p:Int):=⟨m+(k+1+j),by omega⟩;rw[hp];exact⟨_,rfl,.and f (.at p),_,rfl,⟨hf,by show p<m+s;omega⟩,by show max f.depth 1+1<=_;omega,by show f.size+1+1<=_;omega⟩)
  rw[h2];walk_at "den";obtain⟨p,hp⟩:∃p:Nat,(m:Int)+(k:Int)=(p:Int):=⟨m+k,by omega⟩;rw[hp];exact⟨.odd (.at p) f,rfl,⟨by show p<m+s;omega,hf⟩,by show max 1 f.depth+1<=_;omega,by show 1+f.size+1<=_;omega⟩
 revert rest;walk_at "den";intro rest
 by_cases hm:(m:Int)>0
 ·rw[if_pos hm];exact rest (.at 0) (by show 0<m+s;omega) rfl rfl
 ·rw[if_neg hm];exact rest (.is true) trivial rfl rfl
theorem two2{j:Int}(h:j=0\/j=1):atI [W.str "odd", W.str "and"] j=some (.str (if j=0 then "odd" else "and")):=by
 rcases h with rfl|rfl<;>rfl
theorem q9x(n:Nat)(f0:Fm)(t:Int)(h0:0<=t)(ht:t<50)(q:Nat)(hq:q<=12)(hb:f0.inb q):∃f:Fm,run K a (n+1) q09 [enc f0,.int t,.int (q:Int)]=.ok (.fr (enc f))/\f.inb q/\f.depth<=f0.depth+52/\f.size<=f0.size+200:=by
 rw[q4z];unfold q4e;walk_at "den";rw[if_pos (q37 (by omega) (by omega))];walk_at "den"
 obtain⟨e',h2,f,z,rfl,hf,hfd,hfz⟩:=q25 (b:=q4w K a (run K a n)) (i:=3) (lo:=0) (hi:=t) t.toNat (by omega) (fun j e=>∃(f:Fm)(z:S),e=[.fr (enc f),.fr (.int t),.fr (.int (q:Int)),z]/\f.inb q/\f.depth<=f0.depth+2+j/\f.size<=f0.size+4*j) [.fr (enc f0),.fr (.int t),.fr (.int (q:Int)),.no] ⟨f0,_,rfl,hb,by omega,by omega⟩ (by
  rintro j e hj ⟨f,z,rfl,hf,hfd,hfz⟩;unfold q4w;walk_at "den";rw[w3x]
  by_cases h3:(j:Int)%3<2
  ·rw[if_pos h3];exact⟨_,rfl,.not f,_,rfl,hf,by show f.depth+1<=_;omega,by show f.size+1<=_;omega⟩
  ·rw[if_neg h3]
   by_cases hq0:(q:Int)=0
   ·rw[if_pos hq0];exact⟨_,rfl,.not f,_,rfl,hf,by show f.depth+1<=_;omega,by show f.size+1<=_;omega⟩
   ·rw[if_neg hq0,two2 (by omega)];walk_at "den";rw[if_pos (by omega)];walk_at "den";have hm:=w1q (j:Int) hq0;have hm2:=w1k (j:Int) (show(0:Int)<q by omega);obtain⟨p,hp⟩:∃p:Nat,(j:Int)%(q:Int)=(p:Int):=⟨((j:Int)%(q:Int)).toNat,by omega⟩;rw[hp]
    by_cases h2:(j:Int)%2=0
    ·rw[if_pos h2];exact⟨_,rfl,.odd f (.or (.at p) (.is _)),_,rfl,⟨hf,by show p<q;omega,trivial⟩,by show max f.depth (max 1 1+1)+1<=_;have:=f.depth_pos;have:=f0.depth_pos;omega,by show f.size+(1+1+1)+1<=_;omega⟩
    ·rw[if_neg h2];exact⟨_,rfl,.and f (.or (.at p) (.is _)),_,rfl,⟨hf,by show p<q;omega,trivial⟩,by show max f.depth (max 1 1+1)+1<=_;have:=f.depth_pos;have:=f0.depth_pos;omega,by show f.size+(1+1+1)+1<=_;omega⟩)
 rw[h2];walk_at "den";exact⟨f,rfl,hf,by omega,by omega⟩
theorem q81(n:Nat)(c:Int)(m:Nat)(hm:m<=1000):∃bs:List Bool,run K a (n+1) q17 [.int c,.int (m:Int)]=.ok (.fr (.tup (bs.map .bl)))/\bs.length=m:=by
 rw[q6e];unfold q5y;walk_at "den";rw[if_pos (q37 (by omega) (by omega))];walk_at "den"
 obtain⟨e',h2,bs,c',z,rfl,hl⟩:=q25 (b:=q6b K a (run K a n)) (i:=3) (lo:=0) (hi:=(m:Int)) m (by omega) (fun j e=>∃(bs:List Bool)(c':Int)(z:S),e=[.fr (.int c'),.fr (.int (m:Int)),.own none (bs.map .bl),z]/\bs.length=j) [.fr (.int c),.fr (.int (m:Int)),.own none [],.no] ⟨[],_,_,rfl,rfl⟩ (by
  rintro j e hj ⟨bs,c',z,rfl,hl⟩;unfold q6b;walk_at "den";rw[if_pos (by rw[w0a];omega)];walk_at "den";exact⟨_,rfl,bs++[_],_,_,by rw[w0i];rfl,by simp[hl]⟩)
 rw[h2];walk_at "den";exact⟨bs.reverse,by rw[List.map_reverse],by simpa using hl⟩
noncomputable def tailP(K:PySem.W.Frag)(a:Adr)(r:Nat->List W->FR):List S->SR:=
 (dSeq (dIfS (dAnd (dTest (dOp eq2 (dOp modW (dVar 10) (dC (.int 4))) (dC (.int 2)))) (dAnd (dTest (dOp ltW (dOp addX (dVar 2) (dVar 3)) (dC (.int 5)))) (dTest (dOp gtW (dVar 3) (dC (.int 0))))))
  (dSeq (dSet2 11 8 (dIxV 5 (dOp modW (dOp fdivW (dVar 10) (dC (.int 4))) (dVar 3))))
  (dPut 5 (dTup (dCons (dVar 11) (dCons (dCall (r q09) (dCons (dVar 8) (dCons (dOp modW (dOp fdivW (dVar 10) (dC (.int 28))) (dC (.int 50))) (dCons (dOp addX (dVar 2) (dVar 3)) dNil)))) dNil))) (dOp modW (dOp fdivW (dVar 10) (dC (.int 4))) (dVar 3))))
  dNx)
  (dRet (dTup (dCons (dVar 2) (dCons (dFn tup1 (dCons (dVar 5) dNil)) (dCons (dFn tup1 (dCons (dVar 9) dNil)) dNil))))))
noncomputable def tailO(K:PySem.W.Frag)(a:Adr)(r:Nat->List W->FR):List S->SR:=
 (dSeq (dIfS (dAnd (dTest (dOp eq2 (dOp modW (dVar 10) (dC (.int 4))) (dC (.int 1)))) (dAnd (dTest (dOp ltW (dOp addX (dVar 2) (dVar 3)) (dC (.int 5)))) (dBorrowT (dTest (dOp ne2 (dVar 9) (dFz (dLst dNil)))))))
  (dPut 9 (dCall (r q09) (dCons (dIxV 9 (dOp modW (dOp fdivW (dVar 10) (dC (.int 4))) (dFnV 9 len1))) (dCons (dOp modW (dOp fdivW (dVar 10) (dC (.int 28))) (dC (.int 50))) (dCons (dOp addX (dVar 2) (dVar 3)) dNil)))) (dOp modW (dOp fdivW (dVar 10) (dC (.int 4))) (dFnV 9 len1)))
  dNx)
  (dSeq (dIfS (dAnd (dTest (dOp eq2 (dOp modW (dVar 10) (dC (.int 4))) (dC (.int 2)))) (dAnd (dTest (dOp ltW (dOp addX (dVar 2) (dVar 3)) (dC (.int 5)))) (dTest (dOp gtW (dVar 3) (dC (.int 0))))))
  (dSeq (dSet2 11 8 (dIxV 5 (dOp modW (dOp fdivW (dVar 10) (dC (.int 4))) (dVar 3))))
  (dPut 5 (dTup (dCons (dVar 11) (dCons (dCall (r q09) (dCons (dVar 8) (dCons (dOp modW (dOp fdivW (dVar 10) (dC (.int 28))) (dC (.int 50))) (dCons (dOp addX (dVar 2) (dVar 3)) dNil)))) dNil))) (dOp modW (dOp fdivW (dVar 10) (dC (.int 4))) (dVar 3))))
  dNx)
  (dRet (dTup (dCons (dVar 2) (dCons (dFn tup1 (dCons (dVar 5) dNil)) (dCons (dFn tup1 (dCons (dVar 9) dNil)) dNil)))))))
noncomputable def tailL(K:PySem.W.Frag)(a:Adr)(r:Nat->List W->FR):List S->SR:=
 (dSeq (dSetO 5 (dLst dNil))
  (dSeq (dForR 6 rng1 (dCons (dVar 3) dNil)
  (q2m K a r))
  (dSeq (dSetO 9 (dLst dNil))
  (dSeq (dForR 6 rng1 (dCons (dOp modW (dOp fdivW (dVar 1) (dC (.int 20))) (dC (.int 7))) dNil)
  (q2l K a r))
  (dSeq (dSet 10 (dOp fdivW (dCall (r q0r) (dCons (dVar 0) (dCons (dC (.int 1)) dNil))) (dC (.int 3))))
  (dSeq (dIfS (dAnd (dTest (dOp eq2 (dOp modW (dVar 10) (dC (.int 4))) (dC (.int 1)))) (dAnd (dTest (dOp ltW (dOp addX (dVar 2) (dVar 3)) (dC (.int 5)))) (dBorrowT (dTest (dOp ne2 (dVar 9) (dFz (dLst dNil)))))))
  (dPut 9 (dCall (r q09) (dCons (dIxV 9 (dOp modW (dOp fdivW (dVar 10) (dC (.int 4))) (dFnV 9 len1))) (dCons (dOp modW (dOp fdivW (dVar 10) (dC (.int 28))) (dC (.int 50))) (dCons (dOp addX (dVar 2) (dVar 3)) dNil)))) (dOp modW (dOp fdivW (dVar 10) (dC (.int 4))) (dFnV 9 len1)))
  dNx)
  (dSeq (dIfS (dAnd (dTest (dOp eq2 (dOp modW (dVar 10) (dC (.int 4))) (dC (.int 2)))) (dAnd (dTest (dOp ltW (dOp addX (dVar 2) (dVar 3)) (dC (.int 5)))) (dTest (dOp gtW (dVar 3) (dC (.int 0))))))
  (dSeq (dSet2 11 8 (dIxV 5 (dOp modW (dOp fdivW (dVar 10) (dC (.int 4))) (dVar 3))))
  (dPut 5 (dTup (dCons (dVar 11) (dCons (dCall (r q09) (dCons (dVar 8) (dCons (dOp modW (dOp fdivW (dVar 10) (dC (.int 28))) (dC (.int 50))) (dCons (dOp addX (dVar 2) (dVar 3)) dNil)))) dNil))) (dOp modW (dOp fdivW (dVar 10) (dC (.int 4))) (dVar 3))))
  dNx)
  (dRet (dTup (dCons (dVar 2) (dCons (dFn tup1 (dCons (dVar 5) dNil)) (dCons (dFn tup1 (dCons (dVar 9) dNil)) dNil))))))))))))
theorem y96{s:Nat}{l:List (Bool×Fm)}{os:List Fm}(hm:m<=3)(hs:s<=4)(hl:l.length=s)(ho:os.length<=10)(h1:∀p∈l,p.2.inb (m+s)/\p.2.depth<=80/\p.2.size<=300)(h2:∀f∈os,f.inb (m+s)/\f.depth<=80/\f.size<=300):Cc.Ok ⟨m,l,os⟩:=by
 refine⟨by show m+l.length<=12;omega,hm,by show l.length<=4;omega,ho,by show os.length<=100;omega,fun p hp=>?_,fun f hf=>?_,fun p hp=>(h1 p hp).2,fun f hf=>(h2 f hf).2⟩
 ·have z:=h1 p hp;exact⟨by show p.2.inb (m+l.length);rw[hl];exact z.1,by omega,by omega⟩
 ·have z:=h2 f hf;exact⟨by show f.inb (m+l.length);rw[hl];exact z.1,by omega,by omega⟩
theorem q79(h0:0<=k)(h1:k<q):ixN q k=some k.toNat:=by
 unfold ixN;rw[if_pos h0,if_pos h1]
theorem x8f(n:Nat)(w0 w1:W)(z4 z6 z7 z8 z11:S)(m s:Nat)(hm:m<=3)(hs:s<=4)(l:List (Bool×Fm))(os:List Fm)(t:Int)(hl:l.length=s)(ho:os.length<=10)(h1:∀p∈l,p.2.inb (m+s)/\p.2.depth<=20/\p.2.size<=50)(h2:∀f∈os,f.inb (m+s)/\f.depth<=80/\f.size<=300):
  ∃c:Cc,(tailP K a (run K a (n+1)) [.fr w0,.fr w1,.fr (.int (m:Int)),.fr (.int (s:Int)),z4,.own none (l.map encP),z6,z7,z8,.own none (os.map enc),.fr (.int t),z11]).fn=.ok (.fr (encC c))/\c.Ok:=by
 have plain:∀(z8 z11:S)(l:List (Bool×Fm)),l.length=s->(∀p∈l,p.2.inb (m+s)/\p.2.depth<=80/\p.2.size<=300)->∃c:Cc,((dRet (dTup (dCons (dVar 2) (dCons (dFn tup1 (dCons (dVar 5) dNil)) (dCons (dFn tup1 (dCons (dVar 9) dNil)) dNil))))) [.fr w0,.fr w1,.fr (.int (m:Int)),.fr (.int (s:Int)),z4,.own none (l.map encP),z6,z7,z8,.own none (os.map enc),.fr (.int t),z11]).fn=.ok (.fr (encC c))/\c.Ok:=by
  intro z8 z11 l hl h1;walk_at "den";exact⟨⟨m,l,os⟩,rfl,y96 hm hs hl ho h1 h2⟩
 have big:∀p∈l,p.2.inb (m+s)/\p.2.depth<=80/\p.2.size<=300:=fun p hp=>by have:=h1 p hp;exact⟨this.1,by omega,by omega⟩
 unfold tailP;revert plain;walk_at "den";intro plain
 by_cases c1:t%4=2
 ·rw[if_pos c1]
  by_cases c2:(m:Int)+(s:Int)<5
  ·rw[if_pos c2]
   by_cases c3:(s:Int)>0
   ·rw[if_pos c3];walk_at "den";have hm0:=w1q (t / 4) (show(s:Int)≠0 by omega);have hm1:=w1k (t / 4) c3;obtain⟨k,hk⟩:∃k:Nat,t / 4%(s:Int)=(k:Int):=⟨(t / 4%(s:Int)).toNat,by omega⟩;have hkl:k<l.length:=by omega
    rw[if_pos (by omega),hk];walk_at "den";have hat:atI (l.map encP) (k:Int)=some (encP l[k]):=q3x (by rw[w0r,w0d hkl];rfl);rw[hat];unfold encP;walk_at "den";have hp:=h1 l[k] (w2y hkl);have hsum:(m:Int)+(s:Int)=((m+s:Nat):Int):=by omega
    obtain⟨f,f1,f2,f3,f4⟩:=q9x (K:=K) (a:=a) n l[k].2 (t / 28%50) (by omega) (by omega) (m+s) (by omega) hp.1;rw[hsum,f1];walk_at "den";rw[if_pos (by omega),hk];walk_at "den";rw[q79 (by omega) (by simp;omega)];walk_at "den";rw[w1c];have es:(l.map fun p=>W.tup [.bl p.1,enc p.2]).set k (W.tup [.bl l[k].1,enc f])=(l.set k (l[k].1,f)).map fun p=>W.tup [.bl p.1,enc p.2]:=by rw[w3y]
    have z:=plain (.fr (enc l[k].2)) (.fr (.bl l[k].1)) (l.set k (l[k].1,f)) (by simpa using hl) (fun p hp'=>by
     rcases w2c hp' with q|q
     ·exact big p q
     ·rw[q];exact⟨f2,by show f.depth<=80;omega,by show f.size<=300;omega⟩)
    unfold encP at z;rw[<- es]at z;exact z
   ·rw[if_neg c3];exact plain .no .no l hl big
  ·rw[if_neg c2];exact plain .no .no l hl big
 ·rw[if_neg c1];exact plain .no .no l hl big
theorem y8k(h:depWs (w::ws)<=100):ne2 (.lst (w::ws)) (.lst [])=some (.bl true):=by
 unfold ne2;rw[if_pos (by show depWs (w::ws)+1<=150;omega)];rfl
theorem x8g(n:Nat)(w0 w1:W)(z4 z6 z7 z8 z11:S)(m s:Nat)(hm:m<=3)(hs:s<=4)(l:List (Bool×Fm))(os:List Fm)(t:Int)(hl:l.length=s)(ho:os.length<=10)(h1:∀p∈l,p.2.inb (m+s)/\p.2.depth<=20/\p.2.size<=50)(h2:∀f∈os,f.inb (m+s)/\f.depth<=20/\f.size<=50):
  ∃c:Cc,(tailO K a (run K a (n+1)) [.fr w0,.fr w1,.fr (.int (m:Int)),.fr (.int (s:Int)),z4,.own none (l.map encP),z6,z7,z8,.own none (os.map enc),.fr (.int t),z11]).fn=.ok (.fr (encC c))/\c.Ok:=by
 have big:∀f∈os,f.inb (m+s)/\f.depth<=80/\f.size<=300:=fun f hf=>by have:=h2 f hf;exact⟨this.1,by omega,by omega⟩
 have fin:=fun(os:List Fm) (ho:os.length<=10) h2=>x8f (K:=K) (a:=a) n w0 w1 z4 z6 z7 z8 z11 m s hm hs l os t hl ho h1 h2
 unfold tailO;unfold tailP at fin;revert fin;walk_at "den";intro fin
 by_cases c1:t%4=1
 ·rw[if_pos c1]
  by_cases c2:(m:Int)+(s:Int)<5
  ·rw[if_pos c2];cases hos:os with
   |nil=>
    subst hos;walk_at "den";rw[show ne2 (W.lst []) (W.lst [])=some (.bl false)from rfl];walk_at "den";have z:=fin [] (by simp) (fun f hf=>nomatch hf)
    revert z;walk_at "den";exact id
   |cons f0 r=>
    have hdep:depWs ((f0::r).map enc)<=100:=q9w (f0::r) 100 fun f hf=>by have:=h2 f (by rw[hos];exact hf);omega
    walk_at "den";rw[y8k (by simpa using hdep)];walk_at "den";have hlen:(0:Int)<((r.map enc).length+1:Nat):=by omega
    have hm0:=w1q (t / 4) (show(((r.map enc).length+1:Nat):Int)≠0 by omega);have hm1:=w1k (t / 4) hlen;obtain⟨k,hk⟩:∃k:Nat,t / 4%(((r.map enc).length+1:Nat):Int)=(k:Int):=⟨(t / 4%(((r.map enc).length+1:Nat):Int)).toNat,by omega⟩;have hkl:k<(f0::r).length:=by rw[w0a]at hm1 hk;simp;omega
    rw[if_pos hlen,hk];walk_at "den";have hat:atI (enc f0::r.map enc) (k:Int)=some (enc (f0::r)[k]):=q3x (by rw[<- w0u,w0r,w0d hkl];rfl);rw[hat];walk_at "den";have hp:=h2 (f0::r)[k] (by rw[hos];exact w2y hkl);have hsum:(m:Int)+(s:Int)=((m+s:Nat):Int):=by omega
    obtain⟨f,f1,f2,f3,f4⟩:=q9x (K:=K) (a:=a) n (f0::r)[k] (t / 28%50) (by omega) (by omega) (m+s) (by omega) hp.1;rw[hsum,f1];walk_at "den";rw[if_pos hlen,hk];walk_at "den";rw[q79 (by omega) (by rw[w0a];simp at hkl;omega)];walk_at "den";rw[w1c]
    have z:=fin ((f0::r).set k f) (by simp;rw[hos]at ho;simpa using ho) (fun g hg=>by
     rcases w2c hg with q|q
     ·exact big g (by rw[hos];exact q)
     ·rw[q];exact⟨f2,by omega,by omega⟩)
    rw[w3y,w0u]at z;rw[hsum]at z;exact z
  ·rw[if_neg c2];have z:=fin os ho big;exact z
 ·rw[if_neg c1];have z:=fin os ho big;exact z
theorem x54(n:Nat)(ns:List Int)(w1:W)(m s d:Nat)(hm:m<=3)(hs:s<=4)(hd:d<=3)(j:Nat)(hj:j<s)(e:List S)(h:∃(l:List (Bool×Fm))(z6 z7 z8:S),e=[.fr (.lst (ns.map .int)),.fr w1,.fr (.int (m:Int)),.fr (.int (s:Int)),.fr (.int (d:Int)),.own none (l.map encP),z6,z7,z8,.no,.no,.no]/\l.length=j/\∀p∈l,p.2.inb (m+s)/\p.2.depth<=20/\p.2.size<=50):
  ∃e',q2m K a (run K a (n+d+2)) (e.set 6 (.fr (.int (0+(j:Int)))))=.nx e'/\∃(l:List (Bool×Fm))(z6 z7 z8:S),e'=[.fr (.lst (ns.map .int)),.fr w1,.fr (.int (m:Int)),.fr (.int (s:Int)),.fr (.int (d:Int)),.own none (l.map encP),z6,z7,z8,.no,.no,.no]/\l.length=j+1/\∀p∈l,p.2.inb (m+s)/\p.2.depth<=20/\p.2.size<=50:=by
 obtain⟨l,z6,z7,z8,rfl,hl,h1⟩:=h;unfold q2m;walk_at "den";rw[w3x,q3a (n+d+1) ns (by omega)];walk_at "den";rw[q68 (n+d+1)];walk_at "den";have hsum:(m:Int)+(s:Int)=((m+s:Nat):Int):=by omega
 obtain⟨f,f1,f2,f3,f4⟩:=x1c (K:=K) (a:=a) d n (mix2 (ns.getD (2+(j:Int)).toNat 0) (j:Int) / 2) (m+s) (by omega);have hpw:2^(d+1)<=2^4:=w1i (by decide) (by omega);have h16:(2:Nat)^4=16:=by decide
 rw[hsum,f1];walk_at "den";rw[q3a (n+d+1) ns (by decide)];walk_at "den"
 have app:∀(b:Bool)(g:Fm),g.inb (m+s)->g.depth<=20->g.size<=50->∃(l':List (Bool×Fm)),l.map encP++[W.tup [.bl b,enc g]]=l'.map encP/\l'.length=j+1/\∀p∈l',p.2.inb (m+s)/\p.2.depth<=20/\p.2.size<=50:=fun b g g1 g2 g3=>by
  refine⟨l++[(b,g)],by rw[w0i];rfl,by simp[hl],fun p hp=>?_⟩
  rcases w1a.mp hp with q|q
  ·exact h1 p q
  ·rw[w0g.mp q];exact⟨g1,g2,g3⟩
 by_cases c3:ns.getD 1 0%3=1
 ·rw[if_pos c3];obtain⟨g,g1,g2,g3,g4⟩:=x28 (K:=K) (a:=a) (n+d+1) m s j hj (by omega);rw[g1];walk_at "den";rw[if_pos (by rw[w0a];omega)];obtain⟨l',a1,a2,a3⟩:=app (decide (mix2 (ns.getD (2+(j:Int)).toNat 0) (j:Int)%2=1)) g g2 (by omega) (by omega);rw[a1];exact⟨_,rfl,l',_,_,_,rfl,a2,a3⟩
 ·rw[if_neg c3];walk_at "den";rw[if_pos (by rw[w0a];omega)];obtain⟨l',a1,a2,a3⟩:=app (decide (mix2 (ns.getD (2+(j:Int)).toNat 0) (j:Int)%2=1)) f f2 (by omega) (by omega);rw[a1];exact⟨_,rfl,l',_,_,_,rfl,a2,a3⟩
theorem x8h(n:Nat)(ns:List Int)(w1:W)(cells:List W)(m s d:Nat)(hm:m<=3)(hs:s<=4)(hd:d<=3)(j:Nat)(hj:j<7)(e:List S)(h:∃(os:List Fm)(z6 z7 z8:S),e=[.fr (.lst (ns.map .int)),.fr w1,.fr (.int (m:Int)),.fr (.int (s:Int)),.fr (.int (d:Int)),.own none cells,z6,z7,z8,.own none (os.map enc),.no,.no]/\os.length=j/\∀f∈os,f.inb (m+s)/\f.depth<=20/\f.size<=50):
  ∃e',q2l K a (run K a (n+d+2)) (e.set 6 (.fr (.int (0+(j:Int)))))=.nx e'/\∃(os:List Fm)(z6 z7 z8:S),e'=[.fr (.lst (ns.map .int)),.fr w1,.fr (.int (m:Int)),.fr (.int (s:Int)),.fr (.int (d:Int)),.own none cells,z6,z7,z8,.own none (os.map enc),.no,.no]/\os.length=j+1/\∀f∈os,f.inb (m+s)/\f.depth<=20/\f.size<=50:=by
 obtain⟨os,z6,z7,z8,rfl,hl,h1⟩:=h;unfold q2l;walk_at "den";rw[w3x,q3a (n+d+1) ns (by omega)];walk_at "den";rw[q68 (n+d+1)];walk_at "den";have hsum:(m:Int)+(s:Int)=((m+s:Nat):Int):=by omega
 obtain⟨f,f1,f2,f3,f4⟩:=x1c (K:=K) (a:=a) d n (mix2 (ns.getD (6+(j:Int)).toNat 0) (9+(j:Int))) (m+s) (by omega);have hpw:2^(d+1)<=2^4:=w1i (by decide) (by omega);have h16:(2:Nat)^4=16:=by decide
 rw[hsum,f1];walk_at "den";rw[if_pos (by rw[w0a];omega)];refine⟨_,rfl,os++[f],_,_,_,by rw[w0i];rfl,by simp[hl],fun g hg=>?_⟩
 rcases w1a.mp hg with q|q
 ·exact h1 g q
 ·rw[w0g.mp q];exact⟨f2,by omega,by omega⟩
theorem x8i(n:Nat)(ns:List Int)(c:Int)(m s d:Nat)(hm:m<=3)(hs:s<=4)(hd:d<=3):
  ∃cc:Cc,(tailL K a (run K a (n+d+2)) [.fr (.lst (ns.map .int)),.fr (.int c),.fr (.int (m:Int)),.fr (.int (s:Int)),.fr (.int (d:Int)),.no,.no,.no,.no,.no,.no,.no]).fn=.ok (.fr (encC cc))/\cc.Ok:=by
 have fin:=fun(z6 z7 z8:S) (l:List (Bool×Fm)) (os:List Fm) (t:Int) hl ho h1 h2=>x8g (K:=K) (a:=a) (n+d+1) (.lst (ns.map .int)) (.int c) (.fr (.int (d:Int))) z6 z7 z8 .no m s hm hs l os t hl ho h1 h2
 unfold tailL;unfold tailO at fin;walk_at "den";rw[if_pos (q37 (by omega) (by omega))];walk_at "den";obtain⟨e',k1,l,z6,z7,z8,rfl,k2,k3⟩:=q25 (b:=q2m K a (run K a (n+d+2))) (i:=6) (lo:=0) (hi:=(s:Int)) s (by omega) (fun j e=>∃(l:List (Bool×Fm))(z6 z7 z8:S),e=[.fr (.lst (ns.map .int)),.fr (.int c),.fr (.int (m:Int)),.fr (.int (s:Int)),.fr (.int (d:Int)),.own none (l.map encP),z6,z7,z8,.no,.no,.no]/\l.length=j/\∀p∈l,p.2.inb (m+s)/\p.2.depth<=20/\p.2.size<=50) [.fr (.lst (ns.map .int)),.fr (.int c),.fr (.int (m:Int)),.fr (.int (s:Int)),.fr (.int (d:Int)),.own none [],.no,.no,.no,.no,.no,.no] ⟨[],_,_,_,rfl,rfl,fun p hp=>nomatch hp⟩ (fun j e hj h=>x54 n ns (.int c) m s d hm hs hd j hj e h)
 rw[k1];walk_at "den";rw[if_pos (q37 (by omega) (by omega))];walk_at "den";obtain⟨q,hq⟩:∃q:Nat,c / 20%7=(q:Int):=⟨(c / 20%7).toNat,by omega⟩;rw[hq];obtain⟨e',k4,os,y6,y7,y8,rfl,k5,k6⟩:=q25 (b:=q2l K a (run K a (n+d+2))) (i:=6) (lo:=0) (hi:=(q:Int)) q (by omega) (fun j e=>∃(os:List Fm)(z6 z7 z8:S),e=[.fr (.lst (ns.map .int)),.fr (.int c),.fr (.int (m:Int)),.fr (.int (s:Int)),.fr (.int (d:Int)),.own none (l.map encP),z6,z7,z8,.own none (os.map enc),.no,.no]/\os.length=j/\∀f∈os,f.inb (m+s)/\f.depth<=20/\f.size<=50) [.fr (.lst (ns.map .int)),.fr (.int c),.fr (.int (m:Int)),.fr (.int (s:Int)),.fr (.int (d:Int)),.own none (l.map encP),z6,z7,z8,.own none [],.no,.no] ⟨[],_,_,_,rfl,rfl,fun p hp=>nomatch hp⟩ (fun j e hj h=>x8h n ns (.int c) (l.map encP) m s d hm hs hd j (by omega) e h)
 rw[k4];walk_at "den";rw[q3a (n+d+1) ns (by decide)];walk_at "den";have z:=fin y6 y7 y8 l os (ns.getD (1:Int).toNat 0 / 3) k2 (by omega) k3 k6;revert z;walk_at "den";exact id
theorem x3w(n:Nat)(ns:List Int):∃cc:Cc,run K a (n+6) q2d [.lst (ns.map .int)]=.ok (.fr (encC cc))/\cc.Ok:=by
 have fin:=fun(c:Int) (m s d:Nat) hm hs (hd:d<=3)=>by
  have z:=x8i (K:=K) (a:=a) (n+3-d) ns c m s d hm hs hd;rw[show n+3-d+d+2=n+5 by omega]at z;exact z
 rw[q4k];unfold q32;unfold tailL at fin;revert fin;walk_at "den";intro fin;rw[q3a (n+4) ns (by decide)];walk_at "den";generalize ns.getD 0 0=c;obtain⟨m,hm,hm2⟩:∃m:Nat,c%4=(m:Int)/\m<=3:=⟨(c%4).toNat,by omega,by omega⟩;obtain⟨s,hs,hs2⟩:∃s:Nat,c / 4%5=(s:Int)/\s<=4:=⟨(c / 4%5).toNat,by omega,by omega⟩;rw[hm,hs]
 by_cases h5:(m:Int)+(s:Int)>5
 ·rw[if_pos h5];obtain⟨d,hd,hd2⟩:∃d:Nat,c / 140%4%2=(d:Int)/\d<=3:=⟨(c / 140%4%2).toNat,by omega,by omega⟩;rw[hd];exact fin c m s d hm2 hs2 hd2
 ·rw[if_neg h5];obtain⟨d,hd,hd2⟩:∃d:Nat,c / 140%4=(d:Int)/\d<=3:=⟨(c / 140%4).toNat,by omega,by omega⟩;rw[hd];exact fin c m s d hm2 hs2 hd2
noncomputable def encB(bs:List Bool):W:=.tup (bs.map .bl)
noncomputable def outsV(c:Cc)(st row:List Bool):List Bool:=c.outs.map fun f=>f.val (row++st)
noncomputable def nextV(c:Cc)(st row:List Bool):List Bool:=c.cells.map fun p=>p.2.val (row++st)
noncomputable def goneL(c:Cc):List Bool->List (List Bool)->List (List Bool)
 |_,[]=>[]
 |st,r::rs=>outsV c st r::goneL c (nextV c st r) rs
theorem q7w(c:Cc)(st row:List Bool):movedW c st row=.tup [encB (outsV c st row),encB (nextV c st row)]:=rfl
theorem x1d(n:Nat)(c:Cc)(hc:c.Ok)(w1:W):∀(rs:List (List Bool))(st:List Bool)(acc:List (List Bool))(z4 z5:S),st.length=c.cells.length->(∀r∈rs,r.length=c.m)->acc.length+rs.length<=1000 ->
  ∃(st':List Bool)(y4 y5:S),forD 4 (q2k K a (run K a (n+102))) (rs.map encB) [.fr (encC c),.fr w1,.fr (encB st),.own none (acc.map encB),z4,z5]=.nx [.fr (encC c),.fr w1,.fr (encB st'),.own none ((acc++goneL c st rs).map encB),y4,y5]
 |[],st,acc,z4,z5,hs,hr,hl=>⟨st,z4,z5,by rw[show goneL c st []=[]from rfl,w0x];rfl⟩
 |r::rs,st,acc,z4,z5,hs,hr,hl=>by
  have hix0:ixW (encC c) (.int 0)=some (.int (c.m:Int)):=rfl;have h0:=hr r (by simp);rw[w0u,q57]
  have e1:q2k K a (run K a (n+102)) [.fr (encC c),.fr w1,.fr (encB st),.own none (acc.map encB),.fr (encB r),z5]=.nx [.fr (encC c),.fr w1,.fr (encB (nextV c st r)),.own none ((acc++[outsV c st r]).map encB),.fr (encB r),.fr (movedW c st r)]:=by
   unfold q2k;walk_at "den";rw[hix0];walk_at "den";rw[<- h0];unfold encB;rw[q2n (n+101) r];walk_at "den";rw[q6i n c hc st r hs h0,q7w];walk_at "den";rw[if_pos (by rw[w0a];simp at hl;omega),w0i];rfl
  walk_at "den";rw[e1];walk_at "den";obtain⟨st',y4,y5,k⟩:=x1d n c hc w1 rs (nextV c st r) (acc++[outsV c st r]) (.fr (encB r)) (.fr (movedW c st r)) (by simp[nextV]) (fun x hx=>hr x (by simp[hx])) (by simp at hl |-;omega)
  refine⟨st',y4,y5,?_⟩;rw[k,w1z];rfl
noncomputable def firstV(c:Cc):List Bool:=c.cells.map Prod.fst
theorem q7x(n:Nat)(c:Cc)(hc:c.Ok):run K a (n+1) q14 [encC c]=.ok (.fr (encB (firstV c))):=by
 have:=hc.few;rw[q3m];unfold q3c encC;walk_at "den";rw[q5z];walk_at "den";rw[if_pos (by rw[w0a];omega),D.q5o (q:=fun _=>true) (g:=fun p=>p.1)]
 ·walk_at "den";rw[w2o.mpr (fun _ _=>rfl)]
  unfold encB firstV;simp only[w0y];rfl
 ·intro p hp;unfold q4u;walk_at "den";exact⟨_,rfl,fun _=>⟨_,rfl⟩⟩
theorem q82(n:Nat)(c:Cc)(hc:c.Ok)(rs:List (List Bool))(hr:∀r∈rs,r.length=c.m)(hl:rs.length<=1000):run K a (n+103) q39 [encC c,.lst (rs.map encB)]=.ok (.own none ((goneL c (firstV c) rs).map encB)):=by
 rw[q6c];unfold q6o;walk_at "den";rw[q21 (n+100) c hc];walk_at "den";rw[q7x (n+101) c hc];walk_at "den";obtain⟨st',y4,y5,k⟩:=x1d (K:=K) (a:=a) n c hc (.lst (rs.map encB)) rs (firstV c) [] .no .no (by simp[firstV]) hr (by simpa using hl);have k:forD 4 (q2k K a (run K a (n+102))) (rs.map encB) [.fr (encC c),.fr (.lst (rs.map encB)),.fr (encB (firstV c)),.own none [],.no,.no]=_:=k;rw[k];walk_at "den";try rfl
noncomputable abbrev Pr:=List Bool×Nat
structure Mc where
 m:Nat
 wide:Nat
 states:List (List Pr)
structure Mc.Ok(c:Mc):Prop where
 few:c.m<=3
 wd:c.wide<=12
 pos:0<c.states.length
 most:c.states.length<=20
 st:∀s∈c.states,s.length=2^c.m
 pr:∀s∈c.states,∀p∈s,p.1.length=c.wide/\p.2<c.states.length
noncomputable def bN1(b:Bool):Nat:=if b=true then 1 else 0
noncomputable def numF(row:List Bool):Nat:=row.foldl (fun n b=>2*n+bN1 b) 0
theorem x4k:∀(r:List Bool)(n:Nat),r.foldl (fun n b=>2*n+bN1 b) n<(n+1)*2^r.length
 |[],n=>by simp
 |b::r,n=>by
  have ih:=x4k r (2*n+bN1 b);rw[List.foldl_cons,w1l,w4p];have hb:bN1 b<=1:=by unfold bN1;split<;>omega
  have:(2*n+bN1 b+1)*2^r.length<=(n+1)*2*2^r.length:=Nat.mul_le_mul_right _ (by omega);rw[Nat.mul_comm (2^r.length) 2,<- Nat.mul_assoc];omega
theorem y49(r:List Bool):numF r<2^r.length:=by
 have:=x4k r 0;rw[w2p,Nat.one_mul]at this;exact this
noncomputable def Mc.at(c:Mc)(s:Nat)(row:List Bool):Pr:=(c.states.getD s []).getD (numF row) ([],0)
noncomputable def encPr(p:Pr):W:=.tup [encB p.1,.int (p.2:Int)]
noncomputable def encSt(s:List Pr):W:=.lst (s.map encPr)
noncomputable def encMc(c:Mc):W:=.tup [.int (c.m:Int),.int (c.wide:Int),.lst (c.states.map encSt)]
theorem y1e(n m:Nat)(hm:m<=100):run K a (n+1) q4a [.int (m:Int)]=.ok (.fr (.int ((2^m:Nat):Int))):=by
 rw[q5t];unfold q5h;walk_at "den";rw[if_pos (q37 (by omega) (by omega))];walk_at "den"
 obtain⟨e',h2,z,rfl⟩:=q25 (b:=q5s K a (run K a n)) (i:=2) (lo:=0) (hi:=(m:Int)) m (by omega) (fun j e=>∃z,e=[.fr (.int (m:Int)),.fr (.int ((2^j:Nat):Int)),z]) [.fr (.int (m:Int)),.fr (.int 1),.no] ⟨.no,rfl⟩ (by
  rintro j e hj ⟨z,rfl⟩;unfold q5s;walk_at "den";refine⟨_,rfl,.fr (.int (0+(j:Int))),?_⟩;rw[w4p,Int.natCast_mul,Int.mul_comm];rfl)
 rw[h2];walk_at "den"
open M10
theorem y5a(n:Nat)(i m:Int)(h0:0<=m)(h1:m<1000)(hi:i.natAbs<2^1000):run K a (n+1) q48 [.int i,.int m]=if rest m.toNat i=0 then .ok (.fr (.tup ((bits m.toNat i).reverse.map .bl)))else .ex (.ref a.NoRow):=by
 rw[q67];unfold q66;walk_at "den";rw[if_pos (q37 (by omega) (by omega))];walk_at "den"
 obtain⟨e',h2,z,rfl⟩:=q25 (b:=q65 K a (run K a n)) (i:=4) (lo:=0) (hi:=m) m.toNat (by omega) (fun j e=>∃z,e=[.fr (.int i),.fr (.int m),.own none ((bits j i).map .bl),.fr (.int (rest j i)),z]) [.fr (.int i),.fr (.int m),.own none [],.fr (.int i),.no] ⟨_,rfl⟩ (by
  rintro j e hj ⟨z,rfl⟩;unfold q65;walk_at "den";rw[if_pos (by rw[w0a,q64];omega)];walk_at "den";exact⟨_,rfl,_,by rw[x09,x1a,w0i];rfl⟩)
 rw[h2];walk_at "den"
 by_cases hr:rest m.toNat i=0
 ·rw[if_pos hr];simp only[hr];walk_at "den";rw[List.map_reverse]
 ·rw[if_neg hr];simp only[hr];walk_at "den"
theorem x29:∀(n:Nat){l:List Nat},l.Nodup->(∀x∈l,x<n)->l.length<=n
 |0,l,_,h=>by
  cases l with
  |nil=>simp
  |cons x l=>exact absurd (h x (by simp)) (by omega)
 |n+1,l,hn,h=>by
  by_cases m:n∈l
  ·have e:=List.length_erase_of_mem m
   have:=x29 n (hn.erase n) (fun x hx=>by
    have:=(hn.mem_erase_iff).mp hx;have:=h x this.2;omega)
   have:0<l.length:=List.length_pos_of_mem m;omega
  ·have:=x29 n hn (fun x hx=>by
    have:=h x hx;have:x≠n:=fun z=>m (z ▸ hx)
    omega)
   omega
open M10
noncomputable def rowB(m:Nat)(k:Nat):List Bool:=(bits m (k:Int)).reverse
theorem x3a(m k:Nat):(rowB m k).length=m:=by unfold rowB;rw[w2n,q64]
theorem y5b(n:Nat){k:Nat}(hk:k<2^m)(hm:m<=10):run K a (n+1) q48 [.int (k:Int),.int (m:Int)]=.ok (.fr (.tup ((rowB m k).map .bl))):=by
 have h10:(2:Nat)^m<=2^10:=w1i (by decide) hm;have h1024:(2:Nat)^10=1024:=by decide
 have hk2:(k:Int)<2^m:=by exact_mod_cast hk
 rw[y5a n k m (by omega) (by omega) (w0k (show(k:Int).natAbs<2^10 by rw[Int.natAbs_natCast];omega) (w1i (by decide) (by decide))),if_pos (x8d (by omega) (by simpa using hk2))];rw[w1c];rfl
theorem x8j(q:Nat):rangeW 0 (q:Int)=(List.range q).map fun k=>W.int ((k:Nat):Int):=by
 unfold rangeW;rw[w4m,w1c];apply w3e;intro k _;rw[w3x]
noncomputable def rowsB(m:Nat):List (List Bool):=(List.range (2^m)).map (rowB m)
theorem q7y(n:Nat)(hm:m<=3):run K a (n+2) q4s [.int (m:Int)]=.ok (.own none ((rowsB m).map encB)):=by
 have p8:(2:Nat)^m<=8:=w0w (w1i (by decide) hm) (by decide);obtain⟨N,hN⟩:∃N,(2:Nat)^m=N:=⟨_,rfl⟩;rw[hN]at p8;rw[q6d];unfold q5x;walk_at "den";rw[y1e n m (by omega),hN];walk_at "den";rw[if_pos (q37 (by omega) (by omega))];walk_at "den";rw[if_pos (by rw[len_range];omega)];simp only[frz1,pj1,w0h,w0s];rw[x8j,D.q47 (g:=fun w=>match w with|.int k=>W.tup ((rowB m k.toNat).map .bl)|w=>w)]
 ·walk_at "den";unfold rowsB;rw[hN,w0y,w0y];rfl
 ·intro w hw;obtain⟨k,hk,rfl⟩:=w0n.mp hw;rw[w1m]at hk;unfold q7v;walk_at "den";rw[y5b n (by rw[hN];exact hk) (by omega)];walk_at "den";exact⟨_,rfl⟩
theorem x3b:∀r:List Bool,r.length<=4->rowB r.length (numF r)=r
 |[],_=>rfl
 |[a],_=>by cases a<;>rfl
 |[a,b],_=>by cases a<;>cases b<;>rfl
 |[a,b,c],_=>by cases a<;>cases b<;>cases c<;>rfl
 |[a,b,c,d],_=>by cases a<;>cases b<;>cases c<;>cases d<;>rfl
 |_::_::_::_::_::_,h=>by simp at h
theorem y1f{r s:List Bool}(h:r.length=s.length)(hl:r.length<=4)(e:numF r=numF s):r=s:=by
 rw[<- x3b r hl,<- x3b s (by omega),h,e]
noncomputable abbrev PrB:=List Bool×List Bool
noncomputable def encG(p:PrB):W:=.tup [encB p.1,encB p.2]
theorem x55(l:List PrB):pairsW (l.map encG)=some (l.map fun p=>(encB p.1,encB p.2)):=by
 induction l with
 |nil=>rfl
 |cons p l ih=>
  show(pairsW (l.map encG)).map _=_;rw[ih];rfl
noncomputable def keyB(x:List Bool):Kx:=.tup (x.map .bl)
noncomputable abbrev shB:Sh:=.many .bl
theorem y18:∀bs:List Bool,kxWs (bs.map .bl)=some (bs.map .bl)
 |[]=>rfl
 |b::bs=>by
  show(match kxW (.bl b),kxWs (bs.map .bl)with|some k,some ks=>some (k::ks)|_,_=>none)=_;rw[y18 bs];rfl
theorem x4l:∀bs:List Bool,ConfM (bs.map .bl) .bl
 |[]=>trivial
 |_::bs=>⟨trivial,x4l bs⟩
theorem x8k:∀bs:List Bool,Kx.depths (bs.map .bl)=0
 |[]=>rfl
 |b::bs=>by show max 0 (Kx.depths (bs.map .bl))=0;rw[x8k bs];rfl
theorem q5d(x:List Bool):keyT (encB x)=some (keyB x):=by
 show(kxWs (x.map .bl)).map Kx.tup=_;rw[y18];rfl
theorem q6t(x:List Bool):fits (keyB x) shB:=⟨x4l x,by show Kx.depths (x.map .bl)+1<=7;rw[x8k];decide⟩
theorem x3c{y:List Bool}(h:keyB x=keyB y):x=y:=by
 unfold keyB at h;injection h with h
 exact(w4f (fun x y h=>by injection h)).mp h
noncomputable def numW:Nat->List (List Bool)->List W
 |_,[]=>[]
 |o,_::T=>.int (o:Int)::numW (o+1) T
theorem q7z(x:List Bool):∀(T:List (List Bool))(o:Nat),numW o (T++[x])=numW o T++[.int ((o+T.length:Nat):Int)]
 |[],o=>rfl
 |y::T,o=>by
  show _::numW (o+1) (T++[x])=_::(numW (o+1) T++_);rw[q7z x T (o+1),show o+1+T.length=o+(y::T).length by simp;omega]
theorem x3d:∀(T:List (List Bool))(o:Nat),x∉T->lkW (T.map keyB) (numW o T) (keyB x)=none
 |[],_,_=>rfl
 |y::T,o,h=>by
  show(if keyB y=keyB x then _ else lkW (T.map keyB) (numW (o+1) T) (keyB x))=_;rw[if_neg fun z=>h (by rw[x3c z];simp)]
  exact x3d T (o+1) fun z=>h (by simp[z])
theorem q83:∀(T:List (List Bool))(o:Nat),x∈T->∃j:Nat,T[j]?=some x/\lkW (T.map keyB) (numW o T) (keyB x)=some (.int ((o+j:Nat):Int))
 |[],_,h=>nomatch h
 |y::T,o,h=>by
  by_cases e:y=x
  ·subst e;refine⟨0,rfl,?_⟩;show(if keyB y=keyB y then some (W.int (o:Int))else _)=_;rw[if_pos rfl];rfl
  ·obtain⟨j,h1,h2⟩:=q83 T (o+1) ((w0p.mp h).resolve_left fun z=>e z.symm)
   refine⟨j+1,h1,?_⟩;show(if keyB y=keyB x then _ else lkW (T.map keyB) (numW (o+1) T) (keyB x))=_;rw[if_neg fun z=>e (x3c z),h2,show o+1+j=o+(j+1) by omega]
noncomputable def numS(T:List (List Bool)):S:=.dw shB (T.map keyB) (numW 0 T)
def Tl(T:List (List Bool))(s:List Pr)(g:List PrB):Prop:=s.length=g.length/\∀(k:Nat)(p:Pr)(y:PrB),s[k]?=some p->g[k]?=some y->p.1=y.1/\T[p.2]?=some y.2
theorem x0h{x y:List Bool}(h:T[i]?=some y)(T2:List (List Bool)):(T++T2)[i]?=some y:=by
 rw[w1d (w0b.mp h).1];exact h
theorem Tl.pre{s:List Pr}{g:List PrB}(h:Tl T s g)(T2:List (List Bool)):Tl (T++T2) s g:=⟨h.1,fun k p y a b=>⟨(h.2 k p y a b).1,x0h (x:=y.2) (h.2 k p y a b).2 T2⟩⟩
structure NB(q:Nat)(T:List (List Bool)):Prop where
 nd:T.Nodup
 len:∀x∈T,x.length=q
theorem NB.most(hq:q<=4)(h:NB q T):T.length<=16:=by
 have:=x29 16 (l:=T.map numF) (List.pairwise_map.mpr (List.Pairwise.imp_of_mem (fun {x y} hx hy hne e=>hne (y1f (by rw[h.len x hx,h.len y hy]) (by rw[h.len x hx];exact hq) e)) h.nd)) fun z hz=>by
  obtain⟨x,hx,rfl⟩:=w0n.mp hz;have h1:=y49 x;rw[h.len x hx]at h1;exact w0k h1 (w0w (w1i (by decide) hq) (by decide))
 rwa [w0a]at this
noncomputable def envB(w0 w1:W)(T:List (List Bool))(sts:List W)(z5:S)(st:List Pr)(z7 z8:S):List S:=[.fr w0,.fr w1,.own none (T.map encB),numS T,.own none sts,z5,.own none (st.map encPr),z7,z8]
theorem x8l(r:Nat->List W->FR)(w0 w1:W)(hq:q<=4)(hT:NB q T)(sts:List W)(z5:W)(st:List Pr)(hst:st.length<=100)(t y:List Bool)(hy:y.length=q):
  ∃(T2:List (List Bool))(k:Nat),NB q (T++T2)/\(T++T2)[k]?=some y/\q3g K a r (envB w0 w1 T sts (.fr z5) st (.fr (encB t)) (.fr (encB y)))=.nx (envB w0 w1 (T++T2) sts (.fr z5) (st++[(t,k)]) (.fr (encB t)) (.fr (encB y))):=by
 have hl:=hT.most hq;have en:=y8f (fz:=false) (sh:=shB) (ks:=T.map keyB) (ws:=numW 0 T) (q5d y) (q6t y);unfold q3g envB numS;walk_at "den";rw[en];walk_at "den"
 by_cases hin:y∈T
 ·obtain⟨j,h1,h2⟩:=q83 T 0 hin;rw[w2p]at h2;rw[h2];walk_at "den";rw[if_neg (by simp),y16 (q5d y) (q6t y),h2];walk_at "den";rw[if_pos (by rw[w0a];omega)];exact⟨[],j,by rw[w0x];exact hT,by rw[w0x];exact h1,by rw[w0x,w0i];rfl⟩
 ·have hn:NB q (T++[y]):=⟨List.nodup_append.mpr ⟨hT.nd,by simp,fun u hu v hv e=>by
    rw[w0g]at hv;rw[e,hv]at hu;exact hin hu⟩,fun x hx=>by
    rcases w1a.mp hx with z|z
    ·exact hT.len x z
    ·rw[w0g.mp z];exact hy⟩
  have lk:=x3d T 0 hin;obtain⟨j,h1,h2⟩:=q83 (T++[y]) 0 (w0o T (w0g.mpr rfl));rw[w2p,q7z,w0i,w2p]at h2;have h2:lkW (T.map keyB++[keyB y]) (numW 0 T++[.int (T.length:Int)]) (keyB y)=some (.int (j:Int)):=h2;rw[lk];walk_at "den";rw[if_pos (by rfl),w0a,y40 (q5d y) (by rw[w0a];omega) (by rfl) (q6t y) lk];walk_at "den";rw[if_pos (by rw[w0a];omega)];walk_at "den";rw[y16 (q5d y) (q6t y),h2];walk_at "den";rw[if_pos (by rw[w0a];omega)];refine⟨[y],j,hn,h1,?_⟩;rw[w0i,w0i,w0i,q7z,w2p];rfl
theorem x3e(r:Nat->List W->FR)(w0 w1:W)(hq:q<=4)(sts:List W)(z5:W):∀(g2 g1:List PrB)(T:List (List Bool))(st:List Pr)(z7 z8:S),NB q T->(∀p∈g2,p.2.length=q)->g1.length+g2.length<=100->Tl T st g1 ->
  ∃(T2:List (List Bool))(st':List Pr)(z7' z8':S),NB q (T++T2)/\Tl (T++T2) st' (g1++g2)/\forP 7 8 (q3g K a r) (g2.map fun p=>(encB p.1,encB p.2)) (envB w0 w1 T sts (.fr z5) st z7 z8)=.nx (envB w0 w1 (T++T2) sts (.fr z5) st' z7' z8')
 |[],g1,T,st,z7,z8,hT,_,_,ht=>⟨[],st,z7,z8,by rw[w0x];exact hT,by rw[w0x,w0x];exact ht,by rw[w0x];rfl⟩
 |p::g2,g1,T,st,z7,z8,hT,hp,hl,ht=>by
  have hsl:=ht.1;rw[w1l]at hl;obtain⟨T2,k,i1,k1,e⟩:=x8l (K:=K) (a:=a) r w0 w1 hq hT sts z5 st (by omega) p.1 p.2 (hp p (by simp))
  have ht2:Tl (T++T2) (st++[(p.1,k)]) (g1++[p]):=by
   refine⟨by simp[hsl],fun i u y h1 h2=>?_⟩
   by_cases hi:i<st.length
   ·rw[w1d hi]at h1;rw[w1d (by omega)]at h2;exact(ht.pre T2).2 i u y h1 h2
   ·have hi':st.length<=i:=w2u.mp hi;rw[w1n hi']at h1;rw[w1n (by omega),<- hsl]at h2;cases hj:i-st.length with
    |zero=>
     rw[hj]at h1 h2;cases h1;cases h2;exact⟨rfl,k1⟩
    |succ j=>rw[hj]at h1;simp at h1
  obtain⟨T3,st3,y7,y8,i2,t2,e2⟩:=x3e r w0 w1 hq sts z5 g2 (g1++[p]) (T++T2) (st++[(p.1,k)]) (.fr (encB p.1)) (.fr (encB p.2)) i1 (fun u hu=>hp u (by simp[hu])) (by simp;omega) ht2
  refine⟨T2++T3,st3,y7,y8,by rw[<- w1z];exact i2,by rw[<- w1z];simpa using t2,?_⟩;show(q3g K a r (envB w0 w1 T sts (.fr z5) st (.fr (encB p.1)) (.fr (encB p.2)))).turnT (forP 7 8 (q3g K a r) (g2.map fun p=>(encB p.1,encB p.2)))=_
  rw[e,<- w1z];exact e2
theorem x0i:∀bs:List Bool,noFns (bs.map .bl)=true
 |[]=>rfl
 |b::bs=>by show(true&&noFns (bs.map .bl))=true;rw[x0i bs];rfl
theorem q3u{f:α->W}(h:∀x,noFn (f x)=true):∀l:List α,noFns (l.map f)=true
 |[]=>rfl
 |x::l=>by show(noFn (f x)&&noFns (l.map f))=true;rw[h x,q3u h l];rfl
theorem q42:∀f:Fm,noFn (enc f)=true
 |.is b=>rfl
 |.at p=>rfl
 |.not f=>by show(true&&(noFn (enc f)&&true))=true;rw[q42 f];rfl
 |.and f g=>by show(true&&(noFn (enc f)&&(noFn (enc g)&&true)))=true;rw[q42 f,q42 g];rfl
 |.or f g=>by show(true&&(noFn (enc f)&&(noFn (enc g)&&true)))=true;rw[q42 f,q42 g];rfl
 |.odd f g=>by show(true&&(noFn (enc f)&&(noFn (enc g)&&true)))=true;rw[q42 f,q42 g];rfl
theorem nf_C(c:Cc):noFn (encC c)=true:=by
 show(true&&(noFns (c.cells.map encP)&&(noFns (c.outs.map enc)&&true)))=true;rw[q3u (f:=encP) fun p=>by show(true&&(noFn (enc p.2)&&true))=true;rw[q42];rfl,q3u (f:=enc) q42];rfl
theorem nf_B(b:List Bool):noFn (encB b)=true:=x0i b
theorem nf_S(s:List Pr):noFn (encSt s)=true:=q3u (f:=encPr) (fun p=>by show(noFns (p.1.map .bl)&&(true&&true))=true;rw[x0i];rfl) s
noncomputable def gC(c:Cc)(st:List Bool):List PrB:=(rowsB c.m).map fun r=>(outsV c st r,nextV c st r)
theorem y8l(c:Cc)(st:List Bool):(gC c st).length=2^c.m:=by unfold gC rowsB;simp
theorem y97(c:Cc)(st:List Bool):∀p∈gC c st,p.1.length=c.outs.length/\p.2.length=c.cells.length:=fun p hp=>by
 obtain⟨r,_,rfl⟩:=w0n.mp hp;exact⟨by unfold outsV;simp,by unfold nextV;simp⟩
theorem two8{c:Cc}(hc:c.Ok):2^c.m<=8:=w0w (w1i (by decide) hc.mm) (by decide)
noncomputable def unB:W->Bool
 |.bl b=>b
 |_=>false
noncomputable def gM(c:Cc)(st:List Bool):W->W
 |.tup ws=>movedW c st (ws.map unB)
 |w=>w
theorem x8m(c:Cc)(st r:List Bool):gM c st (.tup (r.map .bl))=movedW c st r:=by
 show movedW c st ((r.map .bl).map unB)=_;rw[w0y,show(unB ∘ W.bl)=id from rfl,List.map_id]
theorem x8n(n:Nat)(c:Cc)(hc:c.Ok)(st:List Bool)(hs:st.length=c.cells.length)(e:List S):callVKX lams (run K a (n+103)) q0p q0s [encC c,.lst ((rowsB c.m).map encB)] [encB st] e=.ok (.lst ((gC c st).map encG)) e:=by
 refine x5x q5v (by show(noFn (encB st)&&true)=true;rw[nf_B];rfl) (by show(noFn (encC c)&&(noFns ((rowsB c.m).map encB)&&true))=true;rw[nf_C,q3u nf_B];rfl) ?_;show run K a (n+103) q0p [encB st,encC c,.lst ((rowsB c.m).map encB)]=_;have p8:=two8 hc;have hl:((rowsB c.m).map encB).length<=8:=by unfold rowsB;simp;exact p8
 rw[q19];unfold q12;walk_at "den";rw[if_pos (by omega)];simp only[frz1,pj1,w0h,w0s];rw[D.x04 (g:=gM c st)]
 ·walk_at "den";unfold gC;rw[w0y,w0y];show FR.ok (S.fr (W.lst _))=FR.ok (S.fr (W.lst _));congr 3;refine w3e fun r _=>?_
  show gM c st (.tup (r.map .bl))=_;rw[x8m,q7w];rfl
 ·intro w hw;obtain⟨r,hr,rfl⟩:=w0n.mp hw;obtain⟨k,_,rfl⟩:=w0n.mp hr;have mv:=q6i (K:=K) (a:=a) n c hc st (rowB c.m k) hs (x3a _ _);unfold q18 encB;walk_at "den";rw[mv,x8m];walk_at "den";exact⟨_,rfl⟩
structure CB(c:Cc)(T:List (List Bool))(ss:List (List Pr)):Prop where
 nb:NB c.cells.length T
 hd:T[0]?=some (firstV c)
 le:ss.length<=T.length
 st:∀(i:Nat) s x,ss[i]?=some s->T[i]?=some x->Tl T s (gC c x)
theorem at_T(h:T[i]?=some x):atI (T.map encB) (i:Int)=some (encB x):=by
 refine q3x ?_;rw[w0r,h];rfl
theorem x1e(n:Nat)(c:Cc)(hc:c.Ok)(w0:W):∀(fuel:Nat)(T:List (List Bool))(ss:List (List Pr))(z5 z6 z7 z8:S),CB c T ss->17<=ss.length+fuel ->
  ∃(T':List (List Bool))(ss':List (List Pr))(y5 y6 y7 y8:S),CB c T' ss'/\ss'.length=T'.length/\whileD (q3h K a (run K a (n+103))) (q3i K a (run K a (n+103))) (fuel+1) [.fr w0,.fr (.fn q0p q0s [encC c,.lst ((rowsB c.m).map encB)]),.own none (T.map encB),numS T,.own none (ss.map encSt),z5,z6,z7,z8] =
   .nx [.fr w0,.fr (.fn q0p q0s [encC c,.lst ((rowsB c.m).map encB)]),.own none (T'.map encB),numS T',.own none (ss'.map encSt),y5,y6,y7,y8]
 |0,T,ss,z5,z6,z7,z8,hC,hf=>by
  have:=hC.nb.most hc.cc;have:=hC.le;omega
 |fuel+1,T,ss,z5,z6,z7,z8,hC,hf=>by
  have hl:=hC.nb.most hc.cc;have hle:=hC.le
  have hw:q3h K a (run K a (n+103)) [.fr w0,.fr (.fn q0p q0s [encC c,.lst ((rowsB c.m).map encB)]),.own none (T.map encB),numS T,.own none (ss.map encSt),z5,z6,z7,z8]=.ok (decide (ss.length<T.length)) [.fr w0,.fr (.fn q0p q0s [encC c,.lst ((rowsB c.m).map encB)]),.own none (T.map encB),numS T,.own none (ss.map encSt),z5,z6,z7,z8]:=by
   unfold q3h;walk_at "den";rw[w0a,w0a];congr 1;rw[decide_eq_decide];omega
  rw[q6m,hw]
  by_cases h:ss.length<T.length
  ·obtain⟨x,hx⟩:∃x,T[ss.length]?=some x:=⟨_,w0d h⟩;have hxl:=hC.nb.len x (w0v hx);have p8:=two8 hc;obtain⟨T2,st1,y7,y8,i1,t1,g⟩:=x3e (K:=K) (a:=a) (run K a (n+103)) w0 (.fn q0p q0s [encC c,.lst ((rowsB c.m).map encB)]) hc.cc (ss.map encSt) (encB x) (gC c x) [] T [] z7 z8 hC.nb (fun p hp=>(y97 c x p hp).2) (by rw[y8l,List.length_nil];omega) ⟨rfl,fun k p y h _=>by simp at h⟩
   rw[List.nil_append]at t1
   have hbd:q3i K a (run K a (n+103)) [.fr w0,.fr (.fn q0p q0s [encC c,.lst ((rowsB c.m).map encB)]),.own none (T.map encB),numS T,.own none (ss.map encSt),z5,z6,z7,z8]=.nx [.fr w0,.fr (.fn q0p q0s [encC c,.lst ((rowsB c.m).map encB)]),.own none ((T++T2).map encB),numS (T++T2),.own none ((ss++[st1]).map encSt),.fr (encB x),.fr (encSt st1),y7,y8]:=by
    unfold envB at g;unfold q3i;walk_at "den";rw[w0a,at_T hx];walk_at "den";rw[x8n n c hc x hxl];walk_at "den";rw[x55];walk_at "den";rw[w4l]at g;rw[g];walk_at "den";rw[if_pos (by rw[w0a];omega)];simp only[w0i];rfl
   rw[decide_eq_true h];walk_at "den";rw[hbd];walk_at "den"
   have hC2:CB c (T++T2) (ss++[st1]):=⟨i1,x0h (x:=firstV c) hC.hd T2,by simp;omega,fun i s y h1 h2=>by
    by_cases hi:i<ss.length
    ·rw[w1d hi]at h1;rw[w1d (by omega)]at h2;exact(hC.st i s y h1 h2).pre T2
    ·have hi':ss.length<=i:=w2u.mp hi;rw[w1n hi']at h1;cases hj:i-ss.length with
     |zero=>
      rw[hj]at h1;cases h1;obtain rfl:i=ss.length:=by omega
      rw[x0h (x:=x) hx T2]at h2;cases h2;exact t1
     |succ j=>rw[hj]at h1;simp at h1⟩
   exact x1e n c hc w0 fuel (T++T2) (ss++[st1]) _ _ _ _ hC2 (by simp;omega)
  ·rw[decide_eq_false h];walk_at "den";exact⟨T,ss,z5,z6,z7,z8,hC,by omega,rfl⟩
theorem x8o(n:Nat)(c:Cc)(hc:c.Ok):∃(T:List (List Bool))(ss:List (List Pr)),CB c T ss/\ss.length=T.length/\run K a (n+104) q4n [encB (firstV c),.fn q0p q0s [encC c,.lst ((rowsB c.m).map encB)]]=.ok (.fr (.tup [.lst (ss.map encSt),.lst (T.map encB)])):=by
 have h0:CB c [firstV c] []:=⟨⟨by simp,fun x hx=>by rw[w0g.mp hx];unfold firstV;simp⟩,rfl,by simp,fun i s x h _=>by simp at h⟩
 obtain⟨T,ss,y5,y6,y7,y8,k1,k2,g⟩:=x1e (K:=K) (a:=a) n c hc (encB (firstV c)) 999999 [firstV c] [] .no .no .no .no h0 (by simp);have g:whileD (q3h K a (run K a (n+103))) (q3i K a (run K a (n+103))) 1000000 [.fr (encB (firstV c)),.fr (.fn q0p q0s [encC c,.lst ((rowsB c.m).map encB)]),.own none [encB (firstV c)],.dw (.many .bl) [keyB (firstV c)] [.int 0],.own none [],.no,.no,.no,.no]=_:=g;rw[q5i];unfold q5p;walk_at "den";rw[q5d,show ∀e:List S,setDVC 3 (.many .bl) (.int 0) e (some (keyB (firstV c)))=.nx (e.set 3 (.dw (.many .bl) [keyB (firstV c)] [.int 0]))from fun e=>if_pos (q6t _)]
 walk_at "den";rw[g];walk_at "den";exact⟨T,ss,k1,k2,rfl⟩
theorem y5c(n:Nat)(c:Cc)(hc:c.Ok):∃(T:List (List Bool))(ss:List (List Pr)),CB c T ss/\ss.length=T.length/\run K a (n+105) q1z [encC c]=.ok (.fr (.tup [encMc ⟨c.m,c.outs.length,ss⟩,.lst (T.map encB)])):=by
 obtain⟨T,ss,k1,k2,g⟩:=x8o (K:=K) (a:=a) n c hc;refine⟨T,ss,k1,k2,?_⟩;have ar:=q7y (K:=K) (a:=a) (n+102) hc.mm;have fr:=q7x (K:=K) (a:=a) (n+103) c hc;rw[q34];unfold q3r;walk_at "den";rw[show ixW (encC c) (.int 0)=some (.int (c.m:Int))from rfl];walk_at "den";rw[ar];walk_at "den";rw[fr];walk_at "den"
 rw[show capsOf [0,1] [S.fr (encC c),S.fr (W.lst ((rowsB c.m).map encB)),S.no]=some [encC c,.lst ((rowsB c.m).map encB)]from rfl,q5r,g,x77 (by
  show(noFns (ss.map encSt)&&(noFns (T.map encB)&&true))=true;rw[q3u nf_S,q3u nf_B];rfl)]
 walk_at "den";rw[show ixW (encC c) (.int 0)=some (.int (c.m:Int))from rfl];walk_at "den";rw[show ixW (encC c) (.int 2)=some (.tup (c.outs.map enc))from rfl];walk_at "den";rw[w0a];rfl
theorem x8p(n:Nat)(h:¬p<row.length):run K a (n+1) q3y [.tup (row.map .bl),.int p]=.ex (.ref a.NoPlace):=by
 rw[q4y];unfold q4t;walk_at "den";rw[if_neg (by omega),if_pos (by rw[w0a];omega)]
instance inbDec (m:Nat):∀f:Fm,Decidable (f.inb m)
 |.is _=>isTrue trivial
 |.at p=>inferInstanceAs (Decidable (p<m))
 |.not f=>inbDec m f
 |.and f g=>@instDecidableAnd _ _ (inbDec m f) (inbDec m g)
 |.or f g=>@instDecidableAnd _ _ (inbDec m f) (inbDec m g)
 |.odd f g=>@instDecidableAnd _ _ (inbDec m f) (inbDec m g)
theorem q70(n:Nat){w:Str}{f g:Fm}(h1:w≠"is")(h2:w≠"at")(h3:w≠"not")(hd:f.depth<=n)(hd2:g.depth<=n)(hn:¬(f.inb row.length/\g.inb row.length))
  (i1:¬f.inb row.length->run K a (n+1) q2c [enc f,.tup (row.map .bl)]=.ex (.ref a.NoPlace))(i2:¬g.inb row.length->run K a (n+1) q2c [enc g,.tup (row.map .bl)]=.ex (.ref a.NoPlace)):
  run K a (n+2) q2c [.tup [.str w,enc f,enc g],.tup (row.map .bl)]=.ex (.ref a.NoPlace):=by
 rw[q13];unfold q2q;walk_at "den";rw[if_neg h1,if_neg h2,if_neg h3]
 by_cases hf:f.inb row.length
 ·rw[q2b f n hd hf];walk_at "den";rw[i2 fun hg=>hn ⟨hf,hg⟩]
  rfl
 ·rw[i1 hf];rfl
theorem q3v:∀(f:Fm)(n:Nat){row:List Bool},f.depth<=n->¬f.inb row.length->run K a (n+1) q2c [enc f,.tup (row.map .bl)]=.ex (.ref a.NoPlace)
 |.is b,n,row,hd,hb=>absurd trivial hb
 |.at p,n,row,hd,hb=>by
  rw[q13];unfold q2q;simp only[enc];walk_at "den";obtain⟨n,rfl⟩:∃k,n=k+1:=⟨n-1,by simp only[Fm.depth]at hd;omega⟩;rw[x8p n hb];rfl
 |.not f,n,row,hd,hb=>by
  rw[q13];unfold q2q;simp only[enc];walk_at "den";obtain⟨n,rfl⟩:∃k,n=k+1:=⟨n-1,by simp only[Fm.depth]at hd;omega⟩;rw[q3v f n (by simp only[Fm.depth]at hd;omega) hb];rfl
 |.and f g,n,row,hd,hb=>by
  obtain⟨n,rfl⟩:∃k,n=k+1:=⟨n-1,by simp only[Fm.depth]at hd;omega⟩;simp only[Fm.depth]at hd;exact q70 n (q41 (by decide)) (q41 (by decide)) (q41 (by decide)) (by omega) (by omega) hb (q3v f n (by omega)) (q3v g n (by omega))
 |.or f g,n,row,hd,hb=>by
  obtain⟨n,rfl⟩:∃k,n=k+1:=⟨n-1,by simp only[Fm.depth]at hd;omega⟩;simp only[Fm.depth]at hd;exact q70 n (q41 (by decide)) (q41 (by decide)) (q41 (by decide)) (by omega) (by omega) hb (q3v f n (by omega)) (q3v g n (by omega))
 |.odd f g,n,row,hd,hb=>by
  obtain⟨n,rfl⟩:∃k,n=k+1:=⟨n-1,by simp only[Fm.depth]at hd;omega⟩;simp only[Fm.depth]at hd;exact q70 n (q41 (by decide)) (q41 (by decide)) (q41 (by decide)) (by omega) (by omega) hb (q3v f n (by omega)) (q3v g n (by omega))
theorem q5u(n m:Nat)(bs:List Bool)(h:bs.length≠m):run K a (n+1) q1c [encB bs,.int (m:Int)]=.ex (.ref a.UnlikeSizes):=by
 rw[q29];unfold q22 encB;walk_at "den";rw[w0a,if_pos (by simp;omega)]
theorem x4m(M:Exs K mg a)(n:Nat):run K a (n+1) q1l [.exc (.ref a.UnlikeSizes),.int 1]=.ok (.fr (.bl true)):=by
 rw[q2e];unfold q23;walk_at "den";rw[q07 M.c_UnlikeSizes M.k_UnlikeSizes_NoName];walk_at "den";rw[q07 M.c_UnlikeSizes M.k_UnlikeSizes_BadText];walk_at "den";rw[q07 M.c_UnlikeSizes M.k_UnlikeSizes_NoRow];walk_at "den";rw[q07 M.c_UnlikeSizes M.k_UnlikeSizes_NoTable];walk_at "den";rw[q07 M.c_UnlikeSizes M.k_UnlikeSizes_TooGreat];walk_at "den";rw[q07 M.c_UnlikeSizes M.k_UnlikeSizes_BadSheet];walk_at "den";rw[q07 M.c_UnlikeSizes M.k_UnlikeSizes_NoPlace];walk_at "den";rw[q07 M.c_UnlikeSizes M.k_UnlikeSizes_UnlikeSizes];walk_at "den";rw[q07 M.c_UnlikeSizes M.k_UnlikeSizes_NoMachine];walk_at "den";rw[show eq2 (.lst [.bl false,.bl true,.bl false]) (.lst [.bl false,.bl true,.bl false])=some (.bl true) by rfl];walk_at "den";rw[q07 M.c_UnlikeSizes M.k_UnlikeSizes_CircuitError];walk_at "den";rw[q07 M.c_UnlikeSizes M.k_UnlikeSizes_ValueError];walk_at "den"
def okB(q b:Nat)(f:Fm):Prop:=(∀p,f.has p=true->p<q\/p=b)/\f.depth<=100/\f.size<=1000
noncomputable def plB(f:Fm)(b:Nat):List Nat:=pl f++if 12<=b/\f.has b=true then[b]else[]
theorem x0j{f:Fm}(hq:q<=12)(hf:okB q b f)(p:Nat):p∈plB f b↔f.has p=true:=by
 unfold plB;rw[w1a];constructor
 ·rintro(h|h)
  ·exact(w1w.mp h).2
  ·split at h
   ·rename_i hh;rw[w0g.mp h];exact hh.2
   ·cases h
 ·intro h
  by_cases hp:p<12
  ·exact .inl (w1w.mpr ⟨w1m.mpr hp,h⟩)
  ·rcases hf.1 p h with z|rfl
   ·omega
   ·refine .inr ?_;rw[if_pos ⟨by omega,h⟩];exact w0g.mpr rfl
theorem x4n(f:Fm)(b:Nat):(plB f b).length<=13:=by
 have:=x26 f;unfold plB;rw[w0q];split<;>simp<;>omega
theorem y1g(f:Fm)(b:Nat):((plB f b).map fun(p:Nat)=>(p:Int)).Pairwise (·<·):=by
 unfold plB;rw[w0i];refine w3z.mpr ⟨x4j f,?_,fun x hx y hy=>?_⟩
 ·split<;>simp
 ·split at hy
  ·rename_i hh;obtain⟨p,hp,rfl⟩:=w0n.mp hx;rw[w0u,w4l,w0g]at hy;have:=w1m.mp (w1w.mp hp).1;omega
  ·cases hy
theorem x3x(n:Nat)(f:Fm)(hq:q<=12)(hf:okB q b f):run K a (n+1) q3f [enc f]=.ok (.own none ((plB f b).map nW)):=by
 rw[q4g];unfold q4b;walk_at "den";obtain⟨ps,y,h1,h2,h3⟩:=q8g (K:=K) (a:=a) n (enc f) 3000 1000000 [f] [] .no (by have:=hf.2.2;simp[sumZ];omega) (by decide) (by simp);have h1:whileD (q16 K a (run K a n)) (q3b K a (run K a n)) 1000000 [.fr (enc f),.own none [],.own none [enc f],.no]=.nx [.fr (enc f),.own none (ps.map nW),.own none [],y]:=h1;rw[h1];walk_at "den"
 have mem:∀x:Int,x∈(plB f b).map (fun(p:Nat)=>(p:Int))↔x∈ps.map (fun(p:Nat)=>(p:Int)):=by
  intro x;constructor
  ·intro hx;obtain⟨p,hp,rfl⟩:=w0n.mp hx;exact w0n.mpr ⟨p,(h2 p).mpr (.inr ⟨f,by simp,(x0j hq hf p).mp hp⟩),rfl⟩
  ·intro hx;obtain⟨p,hp,rfl⟩:=w0n.mp hx;rcases(h2 p).mp hp with z|⟨g,hg,hh⟩
   ·cases z
   ·rw[w0g.mp hg]at hh;exact w0n.mpr ⟨p,(x0j hq hf p).mpr hh,rfl⟩
 have e:=q9q (y1g f b) mem;rw[q78,x06 (by rw[w0a];simp at h3;omega) (by rw[<- (q26 _).length_eq,e,w0a];have:=x4n f b;omega),e];walk_at "den";rw[q78]
noncomputable def gChk(q:Nat):W->W
 |.int p=>.bl (decide ((q:Int)<=p))
 |w=>w
theorem x8q(n:Nat)(q b:Nat)(hq:q<=12)(hb:q<=b)(f:Fm)(hf:okB q b f)(hh:f.has b=true)(w0:W):∃e',q1e K a (run K a (n+1)) [.fr w0,.fr (.int (q:Int)),.fr (enc f)]=.ex (.ref a.NoPlace) e':=by
 have hp:=x4n f b;unfold q1e;walk_at "den";rw[x3x n f hq hf];walk_at "den";rw[if_pos (by rw[w0a];omega)];simp only[frz1,pj1,w0h,w0s];rw[D.q47 (g:=gChk q)]
 ·walk_at "den";have e:((plB f b).map nW).map (gChk q)=((plB f b).map fun(p:Nat)=>decide ((q:Int)<=(p:Int))).map W.bl:=by rw[w0y,w0y];rfl
  rw[e,y13]
  have e2:((plB f b).map fun(p:Nat)=>decide ((q:Int)<=(p:Int))).any id=true:=by
   rw[List.any_map,w2x];exact⟨b,(x0j hq hf b).mpr hh,by simp;omega⟩
  rw[e2];walk_at "den";exact⟨_,rfl⟩
 ·intro w hw;obtain⟨p,hp,rfl⟩:=w0n.mp hw;unfold q35 nW;walk_at "den";rw[if_neg (by omega)];exact⟨_,rfl⟩
theorem y19{f:Fm}(hf:okB q b f)(hh:¬f.has b=true):okF q f:=⟨(q1v f q).mpr fun p hp=>(hf.1 p hp).resolve_right fun z=>hh (by rw[<- z];exact hp),hf.2⟩
theorem x8r(n:Nat)(q b:Nat)(hq:q<=12)(hb:q<=b)(w0:W):∀(fs:List Fm)(z:S),(∀f∈fs,okB q b f)->(∃f∈fs,f.has b=true)->∃e',forD 2 (q1e K a (run K a (n+1))) (fs.map enc) [.fr w0,.fr (.int (q:Int)),z]=.ex (.ref a.NoPlace) e'
 |[],_,_,⟨_,h,_⟩=>nomatch h
 |f::fs,z,hf,he=>by
  rw[w0u,q57];walk_at "den"
  by_cases hh:f.has b=true
  ·obtain⟨e',h⟩:=x8q (K:=K) (a:=a) n q b hq hb f (hf f (by simp)) hh w0;rw[h];exact⟨_,rfl⟩
  ·rw[x1b n q hq f (y19 (hf f (by simp)) hh) w0];walk_at "den";obtain⟨g,hg,hgb⟩:=he;exact x8r n q b hq hb w0 fs _ (fun g hg=>hf g (by simp[hg])) ⟨g,(w0p.mp hg).resolve_left fun z=>hh (by rw[<- z];exact hgb),hgb⟩
structure Cc.Bad(c:Cc)(b:Nat):Prop where
 few:c.m+c.cells.length<=12
 mm:c.m<=3
 outs:c.outs.length<=100
 bb:c.m+c.cells.length<=b
 cf:∀p∈c.cells,okB (c.m+c.cells.length) b p.2
 of:∀f∈c.outs,okB (c.m+c.cells.length) b f
 ex:∃f∈c.cells.map Prod.snd++c.outs,f.has b=true
theorem x1f(n:Nat)(c:Cc)(hc:c.cells.length<=12):run K a (n+1) q2g [encC c]=.ok (.own none ((c.cells.map Prod.snd).map enc)):=by
 rw[q33];unfold q3q encC;walk_at "den";rw[q5z];walk_at "den";rw[if_pos (by rw[w0a];omega),D.q5o (q:=fun _=>true) (g:=fun p=>p.2)]
 ·walk_at "den";rw[w2o.mpr (fun _ _=>rfl),w0y,w0y]
  rfl
 ·intro p hp;unfold q5a;walk_at "den";exact⟨_,rfl,fun _=>⟨_,rfl⟩⟩
theorem x56(n:Nat)(c:Cc)(hc:c.cells.length<=12):run K a (n+1) q14 [encC c]=.ok (.fr (encB (firstV c))):=by
 rw[q3m];unfold q3c encC;walk_at "den";rw[q5z];walk_at "den";rw[if_pos (by rw[w0a];omega),D.q5o (q:=fun _=>true) (g:=fun p=>p.1)]
 ·walk_at "den";rw[w2o.mpr (fun _ _=>rfl)]
  unfold encB firstV;simp only[w0y];rfl
 ·intro p hp;unfold q4u;walk_at "den";exact⟨_,rfl,fun _=>⟨_,rfl⟩⟩
theorem x4o{c:Cc}(hc:c.Bad b):∀f∈c.cells.map Prod.snd++c.outs,okB (c.m+c.cells.length) b f:=fun f hf=>by
 rcases w1a.mp hf with h|h
 ·obtain⟨p,hp,rfl⟩:=w0n.mp h;exact hc.cf p hp
 ·exact hc.of f h
theorem x1g(n:Nat)(c:Cc)(hc:c.Bad b):run K a (n+2) q1k [encC c]=.ex (.ref a.NoPlace):=by
 have h1:=hc.few;have h2:=hc.outs;rw[q20];unfold q2u;have hix0:ixW (encC c) (.int 0)=some (.int (c.m:Int)):=rfl;have hix1:ixW (encC c) (.int 1)=some (.tup (c.cells.map encP)):=rfl;have hix2:ixW (encC c) (.int 2)=some (.tup (c.outs.map enc)):=rfl;walk_at "den";rw[hix0];walk_at "den";rw[hix1];walk_at "den";rw[x1f n c (by omega)];walk_at "den";rw[hix2];walk_at "den";rw[if_pos (by simp only[w0a];omega)];walk_at "den";have eq:(c.m:Int)+(((c.cells.map encP).length:Nat):Int)=((c.m+c.cells.length:Nat):Int):=by rw[w0a];omega
 obtain⟨e',k1⟩:=x8r (K:=K) (a:=a) n (c.m+c.cells.length) b h1 hc.bb (encC c) (c.cells.map Prod.snd++c.outs) .no (x4o hc) hc.ex;rw[w0i]at k1;rw[eq,k1];rfl
theorem x8s(n:Nat)(c:Cc)(hc:c.Bad b)(st row:List Bool)(hs:st.length=c.cells.length)(hr:row.length=c.m):run K a (n+103) q4m [encC c,.tup (st.map .bl),.tup (row.map .bl)]=.ex (.ref a.NoPlace):=by
 have h1:=hc.few;have h2:=hc.outs;rw[q6h];unfold q6p;have hix2:ixW (encC c) (.int 2)=some (.tup (c.outs.map enc)):=rfl;walk_at "den";rw[if_pos (by simp only[w0a];omega)];walk_at "den";rw[hix2];walk_at "den";rw[if_pos (by rw[w0a];omega)];simp only[frz1,pj1,w0h,w0s];rw[<- w0i]
 have good:∀f,okB (c.m+c.cells.length) b f->¬f.has b=true->q1q K a (run K a (n+102)) [.fr (enc f),.fr (.tup ((row++st).map .bl))]=.ok (.bl (f.val (row++st))) [.fr (enc f),.fr (.tup ((row++st).map .bl))]:=fun f hf hh=>by
  unfold q1q;walk_at "den";rw[q2b f (n+101) (by have:=hf.2.1;omega) (by rw[w0q,hr,hs];exact(y19 hf hh).1)];walk_at "den"
 have bad:∀f,okB (c.m+c.cells.length) b f->f.has b=true->q1q K a (run K a (n+102)) [.fr (enc f),.fr (.tup ((row++st).map .bl))]=.ex (.ref a.NoPlace) [.fr (enc f),.fr (.tup ((row++st).map .bl))]:=fun f hf hh=>by
  unfold q1q;walk_at "den"
  rw[q3v f (n+101) (by have:=hf.2.1;omega) (by
   rw[w0q,hr,hs];intro z;have:=(q1v f _).mp z b hh;have:=hc.bb;omega)]
  walk_at "den"
 have val:∀(l:List Fm),(∀f∈l,okB (c.m+c.cells.length) b f)->(∀f∈l,¬f.has b=true)->compX dYes (q1q K a (run K a (n+102))) [.fr (.tup ((row++st).map .bl))] (l.map enc)=some (.inr ((l.map fun f=>f.val (row++st)).map .bl)):=by
  intro l
  induction l with
  |nil=>intro _ _;rfl
  |cons f l ih=>
   intro h h';rw[w0u,q8q (good f (h f (by simp)) (h' f (by simp))),ih (fun g hg=>h g (by simp[hg])) fun g hg=>h' g (by simp[hg])]
   rfl
 have vax:∀(l:List Fm),(∀f∈l,okB (c.m+c.cells.length) b f)->(∃f∈l,f.has b=true)->compX dYes (q1q K a (run K a (n+102))) [.fr (.tup ((row++st).map .bl))] (l.map enc)=some (.inl (.ref a.NoPlace)):=by
  intro l
  induction l with
  |nil=>rintro _ ⟨_,h,_⟩;cases h
  |cons f l ih=>
   rintro h ⟨g,hg,hgb⟩
   by_cases hh:f.has b=true
   ·rw[w0u,x2p (bad f (h f (by simp)) hh)]
   ·rw[w0u,q8q (good f (h f (by simp)) hh),ih (fun g hg=>h g (by simp[hg])) ⟨g,(w0p.mp hg).resolve_left fun z=>hh (by rw[<- z];exact hgb),hgb⟩]
    rfl
 have e01:q7u K a (run K a (n+102))=q1q K a (run K a (n+102)):=rfl
 by_cases ho:∃f∈c.outs,f.has b=true
 ·rw[vax _ hc.of ho];walk_at "den"
 ·rw[val _ hc.of fun f hf hh=>ho ⟨f,hf,hh⟩]
  walk_at "den";rw[x1f (n+101) c (by omega)];walk_at "den";rw[if_pos (by simp only[w0a];omega)];simp only[frz1,pj1,w0h,w0s];obtain⟨f,hf,hh⟩:=hc.ex;have hf2:f∈c.cells.map Prod.snd:=(w1a.mp hf).resolve_right fun z=>ho ⟨f,z,hh⟩
  rw[e01,vax _ (fun g hg=>x4o hc g (w2d _ hg)) ⟨f,hf2,hh⟩]
  walk_at "den"
noncomputable def last43(K:PySem.W.Frag)(a:Adr)(n:Nat):List S->SR:=
 (dSeq (dIfS (dTest (dOp ne2 (dCall (run K a n q0t) (dCons (dVar 1) (dCons (dVar 6) (dCons (dVar 7) (dCons (dFz (dLst dNil)) (dCons (dC (.int 1)) dNil)))))) (dIxV 10 (dC (.int 2)))))
  (dRet (dC (.bl false)))
  dNx)
  (dRet (dBorrow (dOp eq2 (dFz (dCompR rng1 [1,6,7,9] (dCons (dC (.int 3)) dNil) dYes (x0c K a (run K a n)))) (dVar 10)))))
noncomputable def fin43(K:PySem.W.Frag)(a:Adr)(n:Nat):List S->SR:=
 (dSeq (dSetO 10 (dLst (dCons (dC (.str "none")) (dCons (dC (.str "none")) (dCons (dC (.str "none")) dNil)))))
  (dSeq (dIfS (dOr (dTest (dOp eq2 (dOp modW (dVar 8) (dC (.int 4))) (dC (.int 1)))) (dTest (dOp eq2 (dOp modW (dVar 8) (dC (.int 4))) (dC (.int 2)))))
  (dPut 10 (dC (.str "sizes")) (dC (.int 0)))
  dNx)
  (dSeq (dIfS (dTest (dOp eq2 (dOp modW (dVar 8) (dC (.int 4))) (dC (.int 2))))
  (dPut 10 (dC (.str "sizes")) (dC (.int 1)))
  dNx)
  (dSeq (dIfS (dTru (dVar 5))
  (dSetO 10 (dLst (dCons (dC (.str "place")) (dCons (dC (.str "place")) (dCons (dC (.str "place")) dNil)))))
  dNx)
  (last43 K a n)))))
noncomputable def row43(K:PySem.W.Frag)(a:Adr)(n:Nat):List S->SR:=
 (dSeq (dSetO 9 (dCompR rng1 [1] (dCons (dOp modW (dOp fdivW (dVar 8) (dC (.int 8))) (dC (.int 7))) dNil) dYes (q77 K a (run K a n))))
  (dSeq (dIns 9 (dCons (dOp modW (dOp fdivW (dVar 8) (dC (.int 56))) (dOp addX (dFnV 9 len1) (dC (.int 1)))) (dCons (dVar 7) dNil)))
  (fin43 K a n)))
noncomputable def mid43(K:PySem.W.Frag)(a:Adr)(n:Nat):List S->SR:=
 (dSeq (dSet 6 (dCall (run K a n q17) (dCons (dCall (run K a n q0r) (dCons (dVar 0) (dCons (dC (.int 15)) dNil))) (dCons (dVar 2) dNil))))
  (dSeq (dSet 7 (dCall (run K a n q17) (dCons (dCall (run K a n q0r) (dCons (dVar 0) (dCons (dC (.int 16)) dNil))) (dCons (dOp ixW (dVar 1) (dC (.int 0))) dNil))))
  (dSeq (dSet 8 (dCall (run K a n q0r) (dCons (dVar 0) (dCons (dC (.int 17)) dNil))))
  (dSeq (dIfS (dTest (dOp eq2 (dOp modW (dVar 8) (dC (.int 4))) (dC (.int 1))))
  (dSet 6 (dCall (run K a n q10) (dCons (dVar 6) (dCons (dOp fdivW (dVar 8) (dC (.int 4))) dNil))))
  dNx)
  (dSeq (dIfS (dTest (dOp eq2 (dOp modW (dVar 8) (dC (.int 4))) (dC (.int 2))))
  (dSet 7 (dCall (run K a n q10) (dCons (dVar 7) (dCons (dOp fdivW (dVar 8) (dC (.int 4))) dNil))))
  dNx)
  (row43 K a n))))))
theorem y8m:x1z K a (run K a n)=(dSeq (dSet 1 (dCall (run K a n q2d) (dCons (dVar 0) dNil)))
  (dSeq (dSet 2 (dFn len1 (dCons (dOp ixW (dVar 1) (dC (.int 1))) dNil)))
  (dSeq (dSet 3 (dOp addX (dVar 2) (dFn len1 (dCons (dOp ixW (dVar 1) (dC (.int 2))) dNil))))
  (dSeq (dSet 4 (dCall (run K a n q0r) (dCons (dVar 0) (dCons (dC (.int 14)) dNil))))
  (dSeq (dSet 5 (dAndV (dOp gtW (dOp modW (dVar 4) (dC (.int 3))) (dC (.int 0))) (dOp gtW (dVar 3) (dC (.int 0)))))
  (dSeq (dIfS (dTru (dVar 5))
  (dSet 1 (dCall (run K a n q2p) (dCons (dVar 1) (dCons (dOp modW (dOp fdivW (dVar 4) (dC (.int 3))) (dVar 3)) (dCons (dTup (dCons (dOp ixW (dFz (dLst (dCons (dC (.int 0)) (dCons (dC (.int 1)) (dCons (dOp powW (dC (.int 10)) (dC (.int 12))) dNil))))) (dOp modW (dOp fdivW (dVar 4) (dC (.int 90))) (dC (.int 3)))) (dCons (dOp modW (dOp fdivW (dVar 4) (dC (.int 270))) (dC (.int 4))) dNil))) dNil)))))
  dNx)
  (mid43 K a n))))))):=rfl
theorem x1h{d:Den W}{pe:List S}{P:List Bool->Prop}:∀(ws:List W),(∀w∈ws,∃bs,P bs/\∃e',d (.fr w::pe)=.ok (encB bs) e')->∃rs:List (List Bool),compD dYes d pe ws=some (rs.map encB)/\(∀r∈rs,P r)/\rs.length=ws.length
 |[],_=>⟨[],rfl,(fun r hr=>nomatch hr),rfl⟩
 |w::ws,h=>by
  obtain⟨bs,hb,e',h1⟩:=h w (by simp);obtain⟨rs,h2,h3,h4⟩:=x1h ws fun u hu=>h u (by simp[hu])
  refine⟨bs::rs,?_,fun r hr=>?_,by simp[h4]⟩
  ·rw[x7c];show(match d (.fr w::pe)with|.ok y _=>(compD dYes d pe ws).map (y::·)|_=>none)=_;rw[h1,h2];rfl
  ·rcases w0p.mp hr with rfl|hr
   ·exact hb
   ·exact h3 r hr
theorem y1h{β:Type}{f:α->β}{xs:List α}{k:Nat}{y:α}:insV (xs.map f) k (f y)=(insV xs k y).map f:=by
 unfold insV;rw[w0i,w0u,List.map_take,List.map_drop]
theorem y1i(n:Nat)(c:Cc)(hc:c.Bad b)(st:List Bool)(hs:st.length=c.cells.length)(e:List S):callVKX lams (run K a (n+104)) q0p q0s [encC c,.lst ((rowsB c.m).map encB)] [encB st] e=.ex (.ref a.NoPlace) e:=by
 refine x5y q5v (by show(noFn (encB st)&&true)=true;rw[nf_B];rfl) (by show(noFn (encC c)&&(noFns ((rowsB c.m).map encB)&&true))=true;rw[nf_C,q3u nf_B];rfl) ?_;show run K a (n+104) q0p [encB st,encC c,.lst ((rowsB c.m).map encB)]=_;have p8:2^c.m<=8:=w0w (w1i (by decide) hc.mm) (by decide);have hl:((rowsB c.m).map encB).length<=8:=by unfold rowsB;simp;exact p8
 obtain⟨rs,hrs⟩:∃rs,rowsB c.m=rowB c.m 0::rs:=by
  obtain⟨k,hk⟩:∃k,2^c.m=k+1:=⟨2^c.m-1,by have:0<2^c.m:=Nat.pow_pos (by decide);omega⟩;unfold rowsB;rw[hk,w3q,w0u];exact⟨_,rfl⟩
 rw[q19];unfold q12;walk_at "den";rw[if_pos (by omega)];simp only[frz1,pj1,w0h,w0s];rw[hrs,w0u];have mv:=x8s (K:=K) (a:=a) n c hc st (rowB c.m 0) hs (x3a _ _)
 have e1:q18 K a (run K a (n+103)) [.fr (encB (rowB c.m 0)),.fr (encB st),.fr (encC c)]=.ex (.ref a.NoPlace) [.fr (encB (rowB c.m 0)),.fr (encB st),.fr (encC c)]:=by
  unfold q18 encB;walk_at "den";rw[mv];walk_at "den"
 rw[x2p e1];walk_at "den";rfl
theorem x8t(n:Nat)(c:Cc)(hc:c.Bad b):run K a (n+105) q4n [encB (firstV c),.fn q0p q0s [encC c,.lst ((rowsB c.m).map encB)]]=.ex (.ref a.NoPlace):=by
 rw[q5i];unfold q5p;walk_at "den";rw[q5d,show ∀e:List S,setDVC 3 (.many .bl) (.int 0) e (some (keyB (firstV c)))=.nx (e.set 3 (.dw (.many .bl) [keyB (firstV c)] [.int 0]))from fun e=>if_pos (q6t _)]
 walk_at "den";rw[show(1000000:Nat)=999999+1 from rfl,q6m];unfold q3h;walk_at "den";unfold q3i;walk_at "den";rw[y1i n c hc (firstV c) (by unfold firstV;simp)];walk_at "den"
theorem y1j(n:Nat)(c:Cc)(hc:c.Bad b):run K a (n+106) q1z [encC c]=.ex (.ref a.NoPlace):=by
 have h1:=hc.few;rw[q34];unfold q3r;walk_at "den";rw[show ixW (encC c) (.int 0)=some (.int (c.m:Int))from rfl];walk_at "den";rw[q7y (n+103) hc.mm];walk_at "den";rw[x56 (n+104) c (by omega)];walk_at "den";rw[show capsOf [0,1] [S.fr (encC c),S.fr (W.lst ((rowsB c.m).map encB)),S.no]=some [encC c,.lst ((rowsB c.m).map encB)]from rfl,q5r,x8t n c hc];rfl
theorem x8u(n:Nat)(c:Cc)(hc:c.Bad b)(x y:W):run K a (n+3) q2a [encC c,x,y]=.ex (.ref a.NoPlace):=by
 rw[q4d];unfold q4o;walk_at "den";rw[x1g n c hc];walk_at "den"
theorem x8v(n:Nat)(c:Cc)(hc:c.Bad b)(x:W):run K a (n+3) q39 [encC c,x]=.ex (.ref a.NoPlace):=by
 rw[q6c];unfold q6o;walk_at "den";rw[x1g n c hc];walk_at "den"
theorem x1i(n:Nat)(c:Cc)(hc:c.Ok)(st row:List Bool)(h:st.length≠c.cells.length\/(st.length=c.cells.length/\row.length≠c.m)):run K a (n+3) q2a [encC c,encB st,encB row]=.ex (.ref a.UnlikeSizes):=by
 rw[q4d];unfold q4o;have hix0:ixW (encC c) (.int 0)=some (.int (c.m:Int)):=rfl;have hix1:ixW (encC c) (.int 1)=some (.tup (c.cells.map encP)):=rfl;walk_at "den";rw[q21 n c hc];walk_at "den";rw[hix1];walk_at "den";rw[w0a];rcases h with h|⟨h1,h2⟩
 ·rw[q5u (n+1) c.cells.length st h];walk_at "den"
 ·have e:run K a (n+2) q1c [encB st,.int (c.cells.length:Int)]=.ok (.fr .non):=by rw[<- h1];exact q2n (n+1) st
  rw[e];walk_at "den";rw[hix0];walk_at "den";rw[q5u (n+1) c.m row h2];walk_at "den"
theorem q9y(n:Nat)(c:Cc)(hc:c.Ok)(w1:W):∀(rs:List (List Bool))(st:List Bool)(acc:List (List Bool))(z4 z5:S),st.length=c.cells.length->(∃r∈rs,r.length≠c.m)->acc.length+rs.length<=1000 ->
  ∃e',forD 4 (q2k K a (run K a (n+102))) (rs.map encB) [.fr (encC c),.fr w1,.fr (encB st),.own none (acc.map encB),z4,z5]=.ex (.ref a.UnlikeSizes) e'
 |[],st,acc,z4,z5,hs,⟨_,h,_⟩,hl=>nomatch h
 |r::rs,st,acc,z4,z5,hs,hr,hl=>by
  have hix0:ixW (encC c) (.int 0)=some (.int (c.m:Int)):=rfl;rw[w0u,q57]
  by_cases h0:r.length=c.m
  ·have e1:q2k K a (run K a (n+102)) [.fr (encC c),.fr w1,.fr (encB st),.own none (acc.map encB),.fr (encB r),z5]=.nx [.fr (encC c),.fr w1,.fr (encB (nextV c st r)),.own none ((acc++[outsV c st r]).map encB),.fr (encB r),.fr (movedW c st r)]:=by
    unfold q2k;walk_at "den";rw[hix0];walk_at "den";rw[<- h0];unfold encB;rw[q2n (n+101) r];walk_at "den";rw[q6i n c hc st r hs h0,q7w];walk_at "den";rw[if_pos (by rw[w0a];simp at hl;omega),w0i];rfl
   walk_at "den";rw[e1];walk_at "den";obtain⟨x,hx,hx2⟩:=hr;exact q9y n c hc w1 rs (nextV c st r) (acc++[outsV c st r]) _ _ (by simp[nextV]) ⟨x,(w0p.mp hx).resolve_left fun z=>hx2 (by rw[z];exact h0),hx2⟩ (by simp at hl |-;omega)
  ·have e1:q2k K a (run K a (n+102)) [.fr (encC c),.fr w1,.fr (encB st),.own none (acc.map encB),.fr (encB r),z5]=.ex (.ref a.UnlikeSizes) [.fr (encC c),.fr w1,.fr (encB st),.own none (acc.map encB),.fr (encB r),z5]:=by
    unfold q2k;walk_at "den";rw[hix0];walk_at "den";rw[q5u (n+101) c.m r h0];walk_at "den"
   walk_at "den";rw[e1];exact⟨_,rfl⟩
theorem x8w(n:Nat)(c:Cc)(hc:c.Ok)(rs:List (List Bool))(hr:∃r∈rs,r.length≠c.m)(hl:rs.length<=1000):run K a (n+103) q39 [encC c,.lst (rs.map encB)]=.ex (.ref a.UnlikeSizes):=by
 rw[q6c];unfold q6o;walk_at "den";rw[q21 (n+100) c hc];walk_at "den";rw[q7x (n+101) c hc];walk_at "den";obtain⟨e',k⟩:=q9y (K:=K) (a:=a) n c hc (.lst (rs.map encB)) rs (firstV c) [] .no .no (by simp[firstV]) hr (by simpa using hl);have k:forD 4 (q2k K a (run K a (n+102))) (rs.map encB) [.fr (encC c),.fr (.lst (rs.map encB)),.fr (encB (firstV c)),.own none [],.no,.no]=_:=k;rw[k];rfl
theorem x0k(M:Exs K mg a)(n:Nat):run K a (n+1) q1l [.exc (.ref a.NoPlace),.int 0]=.ok (.fr (.bl true)):=by
 rw[q2e];unfold q23;walk_at "den";rw[q07 M.c_NoPlace M.k_NoPlace_NoName];walk_at "den";rw[q07 M.c_NoPlace M.k_NoPlace_BadText];walk_at "den";rw[q07 M.c_NoPlace M.k_NoPlace_NoRow];walk_at "den";rw[q07 M.c_NoPlace M.k_NoPlace_NoTable];walk_at "den";rw[q07 M.c_NoPlace M.k_NoPlace_TooGreat];walk_at "den";rw[q07 M.c_NoPlace M.k_NoPlace_BadSheet];walk_at "den";rw[q07 M.c_NoPlace M.k_NoPlace_NoPlace];walk_at "den";rw[q07 M.c_NoPlace M.k_NoPlace_UnlikeSizes];walk_at "den";rw[q07 M.c_NoPlace M.k_NoPlace_NoMachine];walk_at "den";rw[show eq2 (.lst [.bl true,.bl false,.bl false]) (.lst [.bl true,.bl false,.bl false])=some (.bl true) by rfl];walk_at "den";rw[q07 M.c_NoPlace M.k_NoPlace_CircuitError];walk_at "den";rw[q07 M.c_NoPlace M.k_NoPlace_ValueError];walk_at "den"
theorem y98(M:Exs K mg a)(n:Nat)(x s r rs:W)(h0:run K a (n+1) q2a [x,s,r]=.ex (.ref a.NoPlace))(h1:run K a (n+1) q39 [x,rs]=.ex (.ref a.NoPlace))(h2:run K a (n+1) q1z [x]=.ex (.ref a.NoPlace))(way:Int):run K a (n+2) q0t [x,s,r,rs,.int way]=.ok (.fr (.str "place")):=by
 rw[q1r];unfold q1y;walk_at "den";rw[h0,h1,h2]
 by_cases hw:way=0
 ·rw[if_pos hw];walk_at "den";rw[q8w M.x_NoPlace_NoPlace];walk_at "den";rw[x0k M n];walk_at "den"
 ·rw[if_neg hw]
  by_cases hv:way=1
  ·rw[if_pos hv];walk_at "den";rw[q8w M.x_NoPlace_NoPlace];walk_at "den";rw[x0k M n];walk_at "den"
  ·rw[if_neg hv];walk_at "den";rw[q8w M.x_NoPlace_NoPlace];walk_at "den";rw[x0k M n];walk_at "den"
theorem x8x(M:Exs K mg a)(n:Nat)(x s r rs:W)(h:run K a (n+1) q2a [x,s,r]=.ex (.ref a.UnlikeSizes)):run K a (n+2) q0t [x,s,r,rs,.int 0]=.ok (.fr (.str "sizes")):=by
 rw[q1r];unfold q1y;walk_at "den";rw[h];walk_at "den";rw[x2x M.x_UnlikeSizes_NoPlace M.x_UnlikeSizes_UnlikeSizes];walk_at "den";rw[x4m M n];walk_at "den"
theorem y8n(M:Exs K mg a)(n:Nat)(x s r rs:W)(h:run K a (n+1) q39 [x,rs]=.ex (.ref a.UnlikeSizes)):run K a (n+2) q0t [x,s,r,rs,.int 1]=.ok (.fr (.str "sizes")):=by
 rw[q1r];unfold q1y;walk_at "den";rw[h];walk_at "den";rw[x2x M.x_UnlikeSizes_NoPlace M.x_UnlikeSizes_UnlikeSizes];walk_at "den";rw[x4m M n];walk_at "den"
theorem y8o(n:Nat)(x s r rs:W)(h:run K a (n+1) q2a [x,s,r]=.ok (.fr w)):run K a (n+2) q0t [x,s,r,rs,.int 0]=.ok (.fr (.str "none")):=by
 rw[q1r];unfold q1y;walk_at "den";rw[h];walk_at "den"
theorem x3f(n:Nat)(x s r rs:W)(h:run K a (n+1) q39 [x,rs]=.ok (.own none ws)):run K a (n+2) q0t [x,s,r,rs,.int 1]=.ok (.fr (.str "none")):=by
 rw[q1r];unfold q1y;walk_at "den";rw[h];walk_at "den"
theorem y8p(n:Nat)(x s r rs:W)(h:run K a (n+1) q1z [x]=.ok (.fr w)):run K a (n+2) q0t [x,s,r,rs,.int 2]=.ok (.fr (.str "none")):=by
 rw[q1r];unfold q1y;walk_at "den";rw[h];walk_at "den"
theorem y5d(old:Fm)(b:Nat)(h:k=0\/k=1\/k=2\/k=3):∃f':Fm,atI [enc (.and (.is false) (.not (.at b))),enc (.and (.at b) (.is false)),enc (.or (.not (.at b)) old),enc (.odd (.and old (.at b)) old)] k=some (enc f')/\f'.has b=true/\(∀p,f'.has p=true->old.has p=true\/p=b)/\f'.depth<=old.depth+4/\f'.size<=2*old.size+10:=by
 rcases h with rfl|rfl|rfl|rfl
 ·exact⟨_,rfl,by simp[Fm.has],fun p hp=>.inr (by simp[Fm.has]at hp;exact hp.symm),by simp[Fm.depth],by simp[Fm.size]⟩
 ·exact⟨_,rfl,by simp[Fm.has],fun p hp=>.inr (by simp[Fm.has]at hp;exact hp.symm),by simp[Fm.depth],by simp[Fm.size]⟩
 ·exact⟨_,rfl,by simp[Fm.has],fun p hp=>by simp[Fm.has]at hp;rcases hp with z|z;exact .inr z.symm;exact .inl z,by simp[Fm.depth];omega,by simp[Fm.size];omega⟩
 ·exact⟨_,rfl,by simp[Fm.has],fun p hp=>by simp[Fm.has]at hp;rcases hp with(z|z)|z;exact .inl z;exact .inr z.symm;exact .inl z,by simp[Fm.depth];omega,by simp[Fm.size];omega⟩
noncomputable def sndW:W->W
 |.tup (_::f::_)=>f
 |w=>w
theorem y5e{old f':Fm}(ho:okF q old)(hd:old.depth<=80/\old.size<=300)(h1:∀p,f'.has p=true->old.has p=true\/p=b)(h2:f'.depth<=old.depth+4)(h3:f'.size<=2*old.size+10):okB q b f':=
 ⟨fun p hp=>(h1 p hp).imp (fun z=>(q1v old q).mp ho.1 p z) id,by omega,by omega⟩
theorem x10{f:Fm}(h:okF q f):okB q b f:=⟨fun p hp=>.inl ((q1v f q).mp h.1 p hp),h.2⟩
theorem q5q:∀f:Fm,noLst (enc f)=true
 |.is b=>rfl
 |.at p=>rfl
 |.not f=>by show(true&&(noLst (enc f)&&true))=true;rw[q5q f];rfl
 |.and f g=>by show(true&&(noLst (enc f)&&(noLst (enc g)&&true)))=true;rw[q5q f,q5q g];rfl
 |.or f g=>by show(true&&(noLst (enc f)&&(noLst (enc g)&&true)))=true;rw[q5q f,q5q g];rfl
 |.odd f g=>by show(true&&(noLst (enc f)&&(noLst (enc g)&&true)))=true;rw[q5q f,q5q g];rfl
theorem x8y(c:Cc):(c.cells.map encP).map sndW=(c.cells.map Prod.snd).map enc:=by
 rw[w0y,w0y];rfl
theorem at_P{l:List (Bool×Fm)}(h:i<l.length):atI (l.map encP) (i:Int)=some (encP l[i]):=by
 refine q3x ?_;rw[w0r,w0d h];rfl
theorem y1k{c:Cc}(hc:c.Ok)(hb:c.m+c.cells.length<=b){f':Fm}(hf:okB (c.m+c.cells.length) b f')(hh:f'.has b=true)(hi:i<c.cells.length)(t:Bool):Cc.Bad ⟨c.m,c.cells.set i (t,f'),c.outs⟩ b:=by
 have hl:(c.cells.set i (t,f')).length=c.cells.length:=w3t ..;refine⟨by show c.m+(c.cells.set i (t,f')).length<=12;rw[hl];exact hc.few,hc.mm,hc.outs,by show c.m+(c.cells.set i (t,f')).length<=b;rw[hl];exact hb,fun p hp=>?_,fun f hf'=>?_,⟨f',w2d _ (w0n.mpr ⟨(t,f'),w0v (i:=i) (w0l hi),rfl⟩),hh⟩⟩
 ·show okB (c.m+(c.cells.set i (t,f')).length) b p.2;rw[hl];rcases w2c hp with h|rfl
  ·exact x10 (hc.cf p h)
  ·exact hf
 ·show okB (c.m+(c.cells.set i (t,f')).length) b f;rw[hl];exact x10 (hc.of f hf')
theorem y5f{c:Cc}(hc:c.Ok)(hb:c.m+c.cells.length<=b){f':Fm}(hf:okB (c.m+c.cells.length) b f')(hh:f'.has b=true)(hi:i<c.outs.length):Cc.Bad ⟨c.m,c.cells,c.outs.set i f'⟩ b:=by
 refine⟨hc.few,hc.mm,by show(c.outs.set i f').length<=100;rw[w3t];exact hc.outs,hb,fun p hp=>x10 (hc.cf p hp),fun f hf'=>?_,⟨f',w0o _ (w0v (i:=i) (w0l hi)),hh⟩⟩
 rcases w2c hf' with h|rfl
 ·exact x10 (hc.of f h)
 ·exact hf
theorem spoilt43(n:Nat)(c:Cc)(hc:c.Ok)(i mo:Nat)(hi:i<c.cells.length+c.outs.length)(hk:k=0\/k=1\/k=2\/k=3):∃(c':Cc)(b:Nat),c'.Bad b/\c'.m=c.m/\c'.cells.length=c.cells.length/\run K a (n+1) q2p [encC c,.int (i:Int),.tup [.int (mo:Int),.int k]]=.ok (.fr (encC c')):=by
 have h1:=hc.few;have h2:=hc.outs;have hix0:ixW (encC c) (.int 0)=some (.int (c.m:Int)):=rfl;have hix1:ixW (encC c) (.int 1)=some (.tup (c.cells.map encP)):=rfl;have hix2:ixW (encC c) (.int 2)=some (.tup (c.outs.map enc)):=rfl;obtain⟨old,ho⟩:∃old,(c.cells.map Prod.snd++c.outs)[i]?=some old:=⟨_,w0d (by simp;omega)⟩;have hom:=w0v ho
 have hoF:okF (c.m+c.cells.length) old/\old.depth<=80/\old.size<=300:=by
  rcases w1a.mp hom with h|h
  ·obtain⟨p,hp,rfl⟩:=w0n.mp h;exact⟨hc.cf p hp,hc.cd p hp⟩
  ·exact⟨hc.of old h,hc.od old h⟩
 obtain⟨f',g1,g2,g3,g4,g5⟩:=y5d old (c.m+c.cells.length+mo) hk;have fB:=y5e hoF.1 hoF.2 g3 g4 g5;rw[q40];unfold q4f;walk_at "den";rw[hix1];walk_at "den";rw[hix2];walk_at "den";rw[hix0];walk_at "den";rw[hix1];walk_at "den";rw[if_pos (by rfl),if_pos (by rw[w0a];omega),D.q47 (g:=sndW)]
 ·walk_at "den";rw[x8y,if_pos (by rw[w0a,w0a,w0a];omega),<- w0i];walk_at "den";rw[show atI ((c.cells.map Prod.snd++c.outs).map enc) (i:Int)=some (enc old) by refine q3x ?_;rw[w0r,ho];rfl];walk_at "den";rw[if_pos (q5q old)];walk_at "den";have eb:(c.m:Int)+(((c.cells.map encP).length:Nat):Int)+(mo:Int)=((c.m+c.cells.length+mo:Nat):Int):=by rw[w0a];omega
  rw[eb];simp only[enc]at g1;rw[g1];walk_at "den"
  by_cases hlt:i<c.cells.length
  ·rw[if_pos (by rw[w0a];omega),at_P hlt];walk_at "den";rw[show ixW (encP c.cells[i]) (.int 0)=some (.bl c.cells[i].1)from rfl];walk_at "den";rw[q79 (by omega) (by rw[w0a];omega)];walk_at "den";rw[hix0];walk_at "den";refine⟨⟨c.m,c.cells.set i (c.cells[i].1,f'),c.outs⟩,_,y1k hc (by omega) fB g2 hlt _,rfl,by simp,?_⟩;show _=FR.ok (S.fr (W.tup [.int (c.m:Int),.tup ((c.cells.set i (c.cells[i].1,f')).map encP),.tup (c.outs.map enc)]));rw[w3y,w1c];rfl
  ·rw[if_neg (by rw[w0a];omega)];walk_at "den";have es:(i:Int)-(((c.cells.map encP).length:Nat):Int)=((i-c.cells.length:Nat):Int):=by rw[w0a];omega
   rw[es,q79 (by omega) (by rw[w0a];omega)];walk_at "den";rw[hix0];walk_at "den";refine⟨⟨c.m,c.cells,c.outs.set (i-c.cells.length) f'⟩,_,y5f hc (by omega) fB g2 (by omega),rfl,rfl,?_⟩;show _=FR.ok (S.fr (W.tup [.int (c.m:Int),.tup (c.cells.map encP),.tup ((c.outs.set (i-c.cells.length) f').map enc)]));rw[w3y,w1c]
 ·intro w hw;obtain⟨p,_,rfl⟩:=w0n.mp hw;unfold q6g encP;walk_at "den";exact⟨_,rfl⟩
theorem sized43(n:Nat)(r:List Bool)(hr:r.length<=100)(cell:Int):∃r':List Bool,run K a (n+1) q10 [encB r,.int cell]=.ok (.fr (encB r'))/\r'.length≠r.length/\r'.length<=r.length+1:=by
 have more:(if(r.map W.bl).length<=16777215 then FR.ok (S.fr (W.tup (r.map W.bl++[W.bl true])))else FR.no)=FR.ok (S.fr (encB (r++[true]))):=by
  rw[if_pos (by rw[w0a];omega)];unfold encB;rw[w0i];rfl
 rw[q5c];unfold q4x;simp only[encB];walk_at "den";rw[more]
 by_cases h:cell%2=1
 ·rw[if_pos h];cases r with
  |nil=>exact⟨[true],by rw[if_neg (by simp)];rfl,by simp,by simp⟩
  |cons t r=>
   refine⟨r,?_,by simp,by simp;try omega⟩;rw[if_pos (by simp;try omega)]
   have e:slW (W.tup ((t::r).map W.bl)) (some 1) none=some (.tup (r.map .bl)):=by
    show some (W.tup (cutW ((t::r).map W.bl) (some 1) none))=_;unfold cutW;simp[HT.sIx];try exact w3r (by simp)
   rw[e];walk_at "den"
 ·rw[if_neg h];exact⟨r++[true],rfl,by simp,by simp⟩
theorem q9z(n:Nat)(z0 z2 z3 z4 z5 z8:S)(cW sW rW:W)(rs:List W)(d0 d1 d2:Str)
  (e0:run K a n q0t [cW,sW,rW,.lst rs,.int 0]=.ok (.fr (.str d0)))(e1:run K a n q0t [cW,sW,rW,.lst rs,.int 1]=.ok (.fr (.str d1)))(e2:run K a n q0t [cW,sW,rW,.lst rs,.int 2]=.ok (.fr (.str d2)))
  (eE:run K a n q0t [cW,sW,rW,.lst [],.int 1]=.ok (.fr (.str d2))):
  (last43 K a n [z0,.fr cW,z2,z3,z4,z5,.fr sW,.fr rW,z8,.own none rs,.own none [.str d0,.str d1,.str d2]]).fn=.ok (.fr (.bl true)):=by
 unfold last43;walk_at "den";rw[eE];walk_at "den";rw[if_pos (by decide)];walk_at "den";rw[if_pos (by rw[len_range];decide)];simp only[frz1,pj1,w0h,w0s];rw[show rangeW 0 3=[.int 0,.int 1,.int 2]from rfl,D.q47 (g:=fun w=>match w with|.int 0=>W.str d0|.int 1=>W.str d1|_=>W.str d2)]
 ·walk_at "den";rw[show eq2 (.lst [.str d0,.str d1,.str d2]) (.lst [.str d0,.str d1,.str d2])=some (.bl true) by unfold eq2;rw[if_pos (show depW (.lst [.str d0,.str d1,.str d2])<=150 from(show max 0 (max 0 (max 0 0))+1<=150 by decide))];simp[eqW,eqWs]];walk_at "den";try rfl
 ·intro w hw;unfold x0c;simp only[w0p,w3p,or_false]at hw;rcases hw with rfl|rfl|rfl
  ·walk_at "den";rw[e0];walk_at "den";exact⟨_,rfl⟩
  ·walk_at "den";rw[e1];walk_at "den";exact⟨_,rfl⟩
  ·walk_at "den";rw[e2];walk_at "den";exact⟨_,rfl⟩
theorem y1l(n:Nat)(z0 z2 z3 z4:S)(cW sW rW:W)(sz:Int)(rs:List W)
  (e:∀w,∀way:Int,run K a n q0t [cW,sW,rW,w,.int way]=.ok (.fr (.str "place"))):
  (fin43 K a n [z0,.fr cW,z2,z3,z4,.fr (.bl true),.fr sW,.fr rW,.fr (.int sz),.own none rs,.no]).fn=.ok (.fr (.bl true)):=by
 have L:=fun z8=>q9z (K:=K) (a:=a) n z0 z2 z3 z4 (.fr (.bl true)) z8 cW sW rW rs "place" "place" "place" (e _ 0) (e _ 1) (e _ 2) (e _ 1)
 unfold fin43;walk_at "den"
 by_cases h1:sz%4=1
 ·rw[if_pos h1,show ixN 3 0=some 0 from rfl];walk_at "den";rw[if_neg (by omega)];exact L _
 ·rw[if_neg h1]
  by_cases h2:sz%4=2
  ·rw[if_pos h2,show ixN 3 0=some 0 from rfl];walk_at "den";rw[if_pos h2,show ixN 3 1=some 1 from rfl];walk_at "den";exact L _
  ·rw[if_neg h2];try walk_at "den"
   try rw[if_neg h2]
   exact L _
theorem q84(n:Nat)(z0 z2 z3 z4:S)(cW sW rW:W)(sz:Int)(rs:List W)(d0 d1:Str)
  (e0:run K a n q0t [cW,sW,rW,.lst rs,.int 0]=.ok (.fr (.str d0)))(e1:run K a n q0t [cW,sW,rW,.lst rs,.int 1]=.ok (.fr (.str d1)))(e2:run K a n q0t [cW,sW,rW,.lst rs,.int 2]=.ok (.fr (.str "none")))
  (eE:run K a n q0t [cW,sW,rW,.lst [],.int 1]=.ok (.fr (.str "none")))
  (hd:(sz%4=1/\d0="sizes" /\ d1="none")\/(sz%4=2/\d0="sizes" /\ d1="sizes")\/(sz%4≠1/\sz%4≠2/\d0="none" /\ d1="none")):
  (fin43 K a n [z0,.fr cW,z2,z3,z4,.fr (.bl false),.fr sW,.fr rW,.fr (.int sz),.own none rs,.no]).fn=.ok (.fr (.bl true)):=by
 have L:=fun z8=>q9z (K:=K) (a:=a) n z0 z2 z3 z4 (.fr (.bl false)) z8 cW sW rW rs d0 d1 "none" e0 e1 e2 eE
 unfold fin43;walk_at "den";rcases hd with⟨h1,rfl,rfl⟩|⟨h2,rfl,rfl⟩|⟨h1,h2,rfl,rfl⟩
 ·rw[if_pos h1,show ixN 3 0=some 0 from rfl];walk_at "den";rw[if_neg (by omega)];exact L _
 ·rw[if_neg (by omega),if_pos h2,show ixN 3 0=some 0 from rfl];walk_at "den";rw[if_pos h2,show ixN 3 1=some 1 from rfl];walk_at "den";exact L _
 ·rw[if_neg h1,if_neg h2];try walk_at "den"
  try rw[if_neg h2]
  exact L _
theorem y1m{l:List α}{j:Nat}{x:α}(h:j<=l.length):x∈insV l j x/\(∀y∈insV l j x,y=x\/y∈l)/\(insV l j x).length=l.length+1:=by
 unfold insV;refine⟨by simp,fun y hy=>?_,by simp;omega⟩
 simp at hy;rcases hy with hy|rfl|hy
 ·exact .inr (List.mem_of_mem_take hy)
 ·exact .inl rfl
 ·exact .inr (List.mem_of_mem_drop hy)
theorem q71(z0 z2 z3 z4 z5:S)(c:Cc)(st row:List Bool)(hm:c.m<=3)(sz:Int)
  (hf:∀rs:List (List Bool),row∈rs->(∀r∈rs,r=row\/r.length=c.m)->rs.length<=10->(fin43 K a 150 [z0,.fr (encC c),z2,z3,z4,z5,.fr (encB st),.fr (encB row),.fr (.int sz),.own none (rs.map encB),.no]).fn=.ok (.fr (.bl true))):
  (row43 K a 150 [z0,.fr (encC c),z2,z3,z4,z5,.fr (encB st),.fr (encB row),.fr (.int sz),.no,.no]).fn=.ok (.fr (.bl true)):=by
 have n0:=w1q (sz / 8) (show(7:Int)≠0 by decide);have n1:=w1k (sz / 8) (show(0:Int)<7 by decide);unfold row43;walk_at "den";generalize sz / 8%7=cnt at n0 n1 |-
 rw[if_pos (q37 (by omega) (by omega))];walk_at "den";have hlen:(rangeW 0 cnt).length<=8:=by rw[len_range];omega
 rw[if_pos (by omega)];simp only[frz1,pj1,w0h,w0s]
 obtain⟨rs,q1,q2,q3⟩:=x1h (d:=q77 K a (run K a 150)) (pe:=[.fr (encC c)]) (P:=fun r=>r.length=c.m) (rangeW 0 cnt) (by
  intro w hw;obtain⟨k,rfl,_⟩:=mem_range hw;obtain⟨bs,b1,b2⟩:=q81 (K:=K) (a:=a) 149 (0+(k:Int)) c.m (by omega);refine⟨bs,b2,?_⟩;unfold q77;walk_at "den";rw[show ixW (encC c) (.int 0)=some (.int (c.m:Int))from rfl];walk_at "den";rw[b1];walk_at "den";exact⟨_,rfl⟩)
 rw[q1];walk_at "den";rw[w0a,if_pos (by omega)]
 obtain⟨j,hj1,hj2⟩:∃j:Nat,sz / 56%((rs.length:Int)+1)=(j:Int)/\j<=rs.length:=by
  have h1:=w1q (sz / 56) (show(rs.length:Int)+1≠0 by omega);have h2:=w1k (sz / 56) (show(0:Int)<(rs.length:Int)+1 by omega);exact⟨(sz / 56%((rs.length:Int)+1)).toNat,by omega,by omega⟩
 rw[hj1,y8a (y8c (by rw[w0a];exact hj2) (by rw[w0a];omega)),y1h];walk_at "den";obtain⟨i1,i2,i3⟩:=y1m (x:=row) hj2;exact hf _ i1 (fun r hr=>(i2 r hr).imp id fun h=>q2 r h) (by omega)
theorem x1j(ns:List Int)(z3 z4 z5:S)(c:Cc)(hm:c.m<=3)(hcl:c.cells.length<=12)
  (hf:∀(sz:Int)(st row:List Bool)(rs:List (List Bool)),(sz%4=1->st.length≠c.cells.length)->(sz%4≠1->st.length=c.cells.length)->(sz%4=2->row.length≠c.m)->(sz%4≠2->row.length=c.m)->row∈rs->(∀r∈rs,r=row\/r.length=c.m)->rs.length<=10 ->
   (fin43 K a 150 [.fr (.lst (ns.map .int)),.fr (encC c),.fr (.int (c.cells.length:Int)),z3,z4,z5,.fr (encB st),.fr (encB row),.fr (.int sz),.own none (rs.map encB),.no]).fn=.ok (.fr (.bl true))):
  (mid43 K a 150 [.fr (.lst (ns.map .int)),.fr (encC c),.fr (.int (c.cells.length:Int)),z3,z4,z5,.no,.no,.no,.no,.no]).fn=.ok (.fr (.bl true)):=by
 have hix0:ixW (encC c) (.int 0)=some (.int (c.m:Int)):=rfl;unfold mid43;walk_at "den";rw[q3a 149 ns (by decide)];walk_at "den";obtain⟨st,s1,s2⟩:=q81 (K:=K) (a:=a) 149 (ns.getD 15 0) c.cells.length (by omega);rw[s1];walk_at "den";rw[q3a 149 ns (by decide)];walk_at "den";rw[hix0];walk_at "den";obtain⟨row,r1,r2⟩:=q81 (K:=K) (a:=a) 149 (ns.getD 16 0) c.m (by omega);rw[r1];walk_at "den";rw[q3a 149 ns (by decide)];walk_at "den";generalize ns.getD 17 0=sz;have st1:W.tup (st.map .bl)=encB st:=rfl;have rw1:W.tup (row.map .bl)=encB row:=rfl;rw[st1,rw1]
 by_cases h1:sz%4=1
 ·obtain⟨st',u1,u2,_⟩:=sized43 (K:=K) (a:=a) 149 st (by omega) (sz / 4);rw[if_pos h1,u1];walk_at "den";rw[if_neg (by omega)];exact q71 _ _ _ _ _ c st' row hm sz fun rs=>hf sz st' row rs (fun _=>by omega) (fun z=>absurd h1 z) (fun z=>by omega) fun _=>r2
 ·rw[if_neg h1];walk_at "den"
  by_cases h2:sz%4=2
  ·obtain⟨row',u1,u2,_⟩:=sized43 (K:=K) (a:=a) 149 row (by omega) (sz / 4);rw[if_pos h2,u1];walk_at "den";exact q71 _ _ _ _ _ c st row' hm sz fun rs=>hf sz st row' rs (fun z=>absurd z h1) (fun _=>s2) (fun _=>by omega) fun z=>absurd h2 z
  ·rw[if_neg h2];walk_at "den";exact q71 _ _ _ _ _ c st row hm sz fun rs=>hf sz st row rs (fun z=>absurd z h1) (fun _=>s2) (fun z=>absurd z h2) fun _=>r2
theorem good43(M:Exs K mg a)(ns:List Int)(z3 z4:S)(c:Cc)(hc:c.Ok):
  (mid43 K a 150 [.fr (.lst (ns.map .int)),.fr (encC c),.fr (.int (c.cells.length:Int)),z3,z4,.fr (.bl false),.no,.no,.no,.no,.no]).fn=.ok (.fr (.bl true)):=by
 have hcc:=hc.cc;refine x1j ns z3 z4 _ c hc.mm (by omega) fun sz st row rs a1 a2 b1 b2 hin hall hlen=>?_
 obtain⟨T,ss,_,_,mo⟩:=y5c (K:=K) (a:=a) 44 c hc;have e2:=y8p (K:=K) (a:=a) 148 (encC c) (encB st) (encB row) (.lst (rs.map encB)) mo;have eE:=x3f (K:=K) (a:=a) 148 (encC c) (encB st) (encB row) (.lst []) (q82 46 c hc [] (by simp) (by simp));have okrs:sz%4≠2->∀r∈rs,r.length=c.m:=fun h r hr=>(hall r hr).elim (fun e=>by rw[e];exact b2 h) id
 by_cases h1:sz%4=1
 ·have e0:=x8x M 148 (encC c) (encB st) (encB row) (.lst (rs.map encB)) (x1i 146 c hc st row (.inl (a1 h1)));have e1:=x3f (K:=K) (a:=a) 148 (encC c) (encB st) (encB row) (.lst (rs.map encB)) (q82 46 c hc rs (okrs (by omega)) (by omega));exact q84 150 _ _ _ _ _ _ _ sz _ _ _ e0 e1 e2 eE (.inl ⟨h1,rfl,rfl⟩)
 ·by_cases h2:sz%4=2
  ·have e0:=x8x M 148 (encC c) (encB st) (encB row) (.lst (rs.map encB)) (x1i 146 c hc st row (.inr ⟨a2 h1,b1 h2⟩));have e1:=y8n M 148 (encC c) (encB st) (encB row) (.lst (rs.map encB)) (x8w 46 c hc rs ⟨row,hin,b1 h2⟩ (by omega));exact q84 150 _ _ _ _ _ _ _ sz _ _ _ e0 e1 e2 eE (.inr (.inl ⟨h2,rfl,rfl⟩))
  ·have e0:=y8o (K:=K) (a:=a) 148 (encC c) (encB st) (encB row) (.lst (rs.map encB)) (x3v 46 c hc st row (a2 h1) (b2 h2));have e1:=x3f (K:=K) (a:=a) 148 (encC c) (encB st) (encB row) (.lst (rs.map encB)) (q82 46 c hc rs (okrs h2) (by omega));exact q84 150 _ _ _ _ _ _ _ sz _ _ _ e0 e1 e2 eE (.inr (.inr ⟨h1,h2,rfl,rfl⟩))
theorem bad43(M:Exs K mg a)(ns:List Int)(z3 z4:S)(c:Cc)(hc:c.Bad b):
  (mid43 K a 150 [.fr (.lst (ns.map .int)),.fr (encC c),.fr (.int (c.cells.length:Int)),z3,z4,.fr (.bl true),.no,.no,.no,.no,.no]).fn=.ok (.fr (.bl true)):=by
 have hcc:=hc.few;refine x1j ns z3 z4 _ c hc.mm (by omega) fun sz st row rs a1 a2 b1 b2 hin hall hlen=>?_
 exact y1l 150 _ _ _ _ _ _ _ sz _ fun w way=>y98 M 148 (encC c) (encB st) (encB row) w (x8u 146 c hc _ _) (x8v 146 c hc _) (y1j 43 c hc) way
theorem y1n(j:Int)(h0:0<=j)(h1:j<3):∃mo:Nat,atI [W.int 0,W.int 1,W.int 1000000000000] j=some (.int (mo:Int)):=by
 have:j=0\/j=1\/j=2:=by omega
 rcases this with rfl|rfl|rfl
 ·exact⟨0,rfl⟩
 ·exact⟨1,rfl⟩
 ·exact⟨1000000000000,rfl⟩
theorem y1o(M:Exs K mg a)(ns:List Int)(hl:ns.length<=63):run K a 151 q76 [.lst (ns.map .int)]=.ok (.fr (.bl true)):=by
 rw[q6q];rw[y8m];walk_at "den";obtain⟨c,r1,hc⟩:=x3w (K:=K) (a:=a) 144 ns;have hix1:ixW (encC c) (.int 1)=some (.tup (c.cells.map encP)):=rfl;have hix2:ixW (encC c) (.int 2)=some (.tup (c.outs.map enc)):=rfl;have hmm:=hc.mm;have hcc:=hc.cc;rw[r1];walk_at "den";rw[hix1];walk_at "den";rw[hix2];walk_at "den";rw[q3a 149 ns (by decide)];walk_at "den";generalize ns.getD 14 0=cell;simp only[w0a];have g:=fun z3 z4=>good43 (K:=K) (a:=a) M ns z3 z4 c hc
 by_cases h1:0<cell%3
 ·rw[if_pos h1]
  by_cases h2:(0:Int)<(c.cells.length:Int)+(c.outs.length:Int)
  ·rw[if_pos h2,if_pos h2,decide_eq_true h2];have q0:=w1q (cell / 90) (show(3:Int)≠0 by decide);have q1:=w1k (cell / 90) (show(0:Int)<3 by decide);obtain⟨mo,hmo⟩:=y1n (cell / 90%3) q0 q1;rw[hmo];walk_at "den";have p0:=w1q (cell / 3) (show(c.cells.length:Int)+(c.outs.length:Int)≠0 by omega);have p1:=w1k (cell / 3) h2;obtain⟨i,hi⟩:∃i:Nat,cell / 3%((c.cells.length:Int)+(c.outs.length:Int))=(i:Int):=⟨_,(Int.toNat_of_nonneg p0).symm⟩;rw[hi]at p1 |-
   have k0:=w1q (cell / 270) (show(4:Int)≠0 by decide);have k1:=w1k (cell / 270) (show(0:Int)<4 by decide);obtain⟨c',b,hB,hm',hl',sp⟩:=spoilt43 (K:=K) (a:=a) 149 c hc i mo (by omega) (k:=cell / 270%4) (by omega);rw[sp];walk_at "den";rw[<- hl'];exact bad43 M ns _ _ c' hB
  ·rw[if_neg h2,decide_eq_false h2];exact g _ _
 ·rw[if_neg h1];exact g _ _
end
theorem walk{l:PySem.W.OpenLaw}{q:Program}{loose:List Str}{XP:(Str->Option Value)->Heap->Prop}{YP:World->Heap->Prop}{d:DefRec}{K:Params->PySem.W.Frag}{tabs:List (Addr×Str)}(hn:l.most=some 63)(hdf:d.params.defaults=[])
  (hY:∀(w:World)(h:Heap),YP w h->(K w.params).In h)(hT:∀(w:World)(h:Heap),YP w h->∀P∈tabs.map (·.1),h.get? P=some (tabObj #[]))
  (hG:∀w:World,((D.dropT (K w.params)).lookup mainGlobals).isSome=true)(hNM:∀w:World,noMark (K w.params)=true)(hd:tabs.all (fun p=>tabs.lookup p.1==some p.2)=true)
  (hK:∀w:World,tabs.all (fun p=>((D.dropT (K w.params)).lookup p.1).isNone)=true)(hc:∀w:World,∀p∈tabs,∃c,codeHdIn (K w.params) c p.1=true)
  (F:∀(w:World)(mg:Str->Option Value)(fa:Addr)(h:Heap),(D.markT (D.dropT (K w.params)) tabs).In h->h.Ns mainGlobals mg->mg d.name=some (.ref fa) ->
   ∃fd:FuncData,(∀(s:Shared)(u:Value),BindsTo s fd ⟨[u],[]⟩ [("_law_script", u)])/\∀base:Heap,(D.markT (D.dropT (K w.params)) tabs).In base->base.Ns mainGlobals mg->BMain base mg->FnOk l.prog w (D.markT (D.dropT (K w.params)) tabs) mg base (CX1 l.prog w) 151 fa fd ["_law_script"] (spLaw (D.markT (D.dropT (K w.params)) tabs))):
  PySem.W.WalkO q loose XP YP l.row.toRowW d [] (fun f vs=>PySem.call f vs):=
 L2.y00 (K:=fun p=>D.markT (D.dropT (K p)) tabs) (tabs:=tabs) (n:=63) (k:=151) (x:="_law_script") (CX:=fun w=>CX1 l.prog w) (sp:=fun w=>spLaw (D.markT (D.dropT (K w.params)) tabs)) hn (by decide) hdf ⟨rfl,by decide,by decide,rfl⟩ (fun w h Y=>D.in_m (hG w) (D.y0x (hY w h Y))) F (fun _ _ a ns hl hS=>⟨a,ns,rfl,hS,hl,fun _=>rfl⟩) (fun _ _ _ _ _ z=>y6k z)
  (fun w=>D.x5u (D.x3o (hNM w)) hd) (fun w h Y=>D.y42 (hY w h Y) (hT w h Y) (hc w)) (fun w=>D.tabs_none (hG w) (hK w))
end Q
open PySem PySem.W PyProof.Rows
set_option maxRecDepth 100000 in
set_option maxHeartbeats 0 in
theorem PySem.Challenge.cw_circuits_k43_circuits_refused_holds : PySem.Challenge.rw_circuits_k43_circuits_refused.Holds := by
 w_on; o_law; k_head; (case hw => w_witness2)
 k_fill
 refine Q.walk (l := PySem.Challenge.rw_circuits_k43_circuits_refused) (tabs := [(218, ("machine_of" ++ ".<locals>.") ++ "<lambda>")]) rfl rfl (fun w h Y => PySem.W.km_in_of Y) (fun w h Y => PySem.W.km_tabs_of Y) (fun w => by kernel_rfl) (fun w => by kernel_rfl) (by decide +kernel) (fun w => by kernel_rfl) (fun w => List.forall_mem_cons.mpr ⟨⟨222, by kernel_rfl⟩, fun _ h => nomatch h⟩) ?F
 case F =>
  intro w mg fa h KX G hmg;refine' Q.mk KX G hmg ?a0 ?l0 ?c0 ?k0 ?a1 ?l1 ?c1 ?k1 ?a2 ?l2 ?c2 ?k2 ?a3 ?l3 ?c3 ?k3 ?a4 ?l4 ?c4 ?k4 ?a5 ?l5 ?c5 ?k5 ?a6 ?l6 ?c6 ?k6 ?a7 ?l7 ?c7 ?k7 ?a8 ?l8 ?c8 ?k8 ?a9 ?l9 ?c9 ?k9 ?a10 ?l10 ?c10 ?k10 ?a11 ?l11 ?c11 ?k11 ?a12 ?l12 ?c12 ?k12 ?a13 ?l13 ?c13 ?k13 ?a14 ?l14 ?c14 ?k14 ?a15 ?l15 ?c15 ?k15 ?a16 ?l16 ?c16 ?k16 ?a17 ?l17 ?c17 ?k17 ?a18 ?l18 ?c18 ?k18 ?a19 ?l19 ?c19 ?k19 ?a20 ?l20 ?c20 ?k20 ?a21 ?l21 ?c21 ?k21 ?a22 ?l22 ?c22 ?k22 ?a23 ?l23 ?c23 ?k23 ?a24 ?l24 ?c24 ?k24 ?a25 ?l25 ?c25 ?k25 ?a26 ?l26 ?c26 ?k26 ?v13 ?h13 ?m13 ?n_CircuitError ?n_NoPlace ?n_NoName ?n_BadText ?n_NoRow ?n_NoTable ?n_UnlikeSizes ?n_TooGreat ?n_NoMachine ?n_BadSheet ?z_ValueError ?z_any ?z_int ?z_isinstance ?z_len ?z_list ?z_range ?z_reversed ?z_set ?z_sorted ?z_tuple ?e_NoPlace ?e_NoRow ?e_UnlikeSizes ?c_NoPlace ?x_NoPlace_NoPlace ?x_NoPlace_UnlikeSizes ?k_NoPlace_NoName ?k_NoPlace_BadText ?k_NoPlace_NoRow ?k_NoPlace_NoTable ?k_NoPlace_TooGreat ?k_NoPlace_BadSheet ?k_NoPlace_NoPlace ?k_NoPlace_UnlikeSizes ?k_NoPlace_NoMachine ?k_NoPlace_CircuitError ?k_NoPlace_ValueError ?c_NoRow ?x_NoRow_NoPlace ?x_NoRow_UnlikeSizes ?k_NoRow_NoName ?k_NoRow_BadText ?k_NoRow_NoRow ?k_NoRow_NoTable ?k_NoRow_TooGreat ?k_NoRow_BadSheet ?k_NoRow_NoPlace ?k_NoRow_UnlikeSizes ?k_NoRow_NoMachine ?k_NoRow_CircuitError ?k_NoRow_ValueError ?c_UnlikeSizes ?x_UnlikeSizes_NoPlace ?x_UnlikeSizes_UnlikeSizes ?k_UnlikeSizes_NoName ?k_UnlikeSizes_BadText ?k_UnlikeSizes_NoRow ?k_UnlikeSizes_NoTable ?k_UnlikeSizes_TooGreat ?k_UnlikeSizes_BadSheet ?k_UnlikeSizes_NoPlace ?k_UnlikeSizes_UnlikeSizes ?k_UnlikeSizes_NoMachine ?k_UnlikeSizes_CircuitError ?k_UnlikeSizes_ValueError ?nt 150 ?hL
  (case a0 => exact D.ns_m (D.q0g (by k_is) (by kernel_rfl)))
  (case l0 => exact D.q01 (D.q0i (by k_is) (by kernel_rfl)))
  (case c0 => exact D.q05 (D.q0o (by k_is) (by kernel_rfl)))
  (case k0 => exact D.q06 (by kernel_rfl))
  (case a1 => exact D.ns_m (D.q0g (by k_is) (by kernel_rfl)))
  (case l1 => exact D.q01 (D.q0i (by k_is) (by kernel_rfl)))
  (case c1 => exact D.q05 (D.q0o (by k_is) (by kernel_rfl)))
  (case k1 => exact D.q06 (by kernel_rfl))
  (case a2 => exact D.ns_m (D.q0g (by k_is) (by kernel_rfl)))
  (case l2 => exact D.q01 (D.q0i (by k_is) (by kernel_rfl)))
  (case c2 => exact D.q05 (D.q0o (by k_is) (by kernel_rfl)))
  (case k2 => exact D.q06 (by kernel_rfl))
  (case a3 => exact D.ns_m (D.q0g (by k_is) (by kernel_rfl)))
  (case l3 => exact D.q01 (D.q0i (by k_is) (by kernel_rfl)))
  (case c3 => exact D.q05 (D.q0o (by k_is) (by kernel_rfl)))
  (case k3 => exact D.q06 (by kernel_rfl))
  (case a4 => exact D.ns_m (D.q0g (by k_is) (by kernel_rfl)))
  (case l4 => exact D.q01 (D.q0i (by k_is) (by kernel_rfl)))
  (case c4 => exact D.q05 (D.q0o (by k_is) (by kernel_rfl)))
  (case k4 => exact D.q06 (by kernel_rfl))
  (case a5 => exact D.ns_m (D.q0g (by k_is) (by kernel_rfl)))
  (case l5 => exact D.q01 (D.q0i (by k_is) (by kernel_rfl)))
  (case c5 => exact D.q05 (D.q0o (by k_is) (by kernel_rfl)))
  (case k5 => exact D.q06 (by kernel_rfl))
  (case a6 => exact D.ns_m (D.q0g (by k_is) (by kernel_rfl)))
  (case l6 => exact D.q01 (D.q0i (by k_is) (by kernel_rfl)))
  (case c6 => exact D.q05 (D.q0o (by k_is) (by kernel_rfl)))
  (case k6 => exact D.q06 (by kernel_rfl))
  (case a7 => exact D.ns_m (D.q0g (by k_is) (by kernel_rfl)))
  (case l7 => exact D.q01 (D.q0i (by k_is) (by kernel_rfl)))
  (case c7 => exact D.q05 (D.q0o (by k_is) (by kernel_rfl)))
  (case k7 => exact D.q06 (by kernel_rfl))
  (case a8 => exact D.ns_m (D.q0g (by k_is) (by kernel_rfl)))
  (case l8 => exact D.q01 (D.q0i (by k_is) (by kernel_rfl)))
  (case c8 => exact D.q05 (D.q0o (by k_is) (by kernel_rfl)))
  (case k8 => exact D.q06 (by kernel_rfl))
  (case a9 => exact D.ns_m (D.q0g (by k_is) (by kernel_rfl)))
  (case l9 => exact D.q01 (D.q0i (by k_is) (by kernel_rfl)))
  (case c9 => exact D.q05 (D.q0o (by k_is) (by kernel_rfl)))
  (case k9 => exact D.q06 (by kernel_rfl))
  (case a10 => exact D.ns_m (D.q0g (by k_is) (by kernel_rfl)))
  (case l10 => exact D.q01 (D.q0i (by k_is) (by kernel_rfl)))
  (case c10 => exact D.q05 (D.q0o (by k_is) (by kernel_rfl)))
  (case k10 => exact D.q06 (by kernel_rfl))
  (case a11 => exact D.ns_m (D.q0g (by k_is) (by kernel_rfl)))
  (case l11 => exact D.q01 (D.q0i (by k_is) (by kernel_rfl)))
  (case c11 => exact D.q05 (D.q0o (by k_is) (by kernel_rfl)))
  (case k11 => exact D.q06 (by kernel_rfl))
  (case a12 => exact D.ns_m (D.q0g (by k_is) (by kernel_rfl)))
  (case l12 => exact D.q01 (D.q0i (by k_is) (by kernel_rfl)))
  (case c12 => exact D.q05 (D.q0o (by k_is) (by kernel_rfl)))
  (case k12 => exact D.q06 (by kernel_rfl))
  (case a13 => exact D.ns_m (D.q0g (by k_is) (by kernel_rfl)))
  (case l13 => exact D.q01 (D.q0i (by k_is) (by kernel_rfl)))
  (case c13 => exact D.q05 (D.q0o (by k_is) (by kernel_rfl)))
  (case k13 => exact D.q06 (by kernel_rfl))
  (case a14 => exact D.ns_m (D.q0g (by k_is) (by kernel_rfl)))
  (case l14 => exact D.q01 (D.q0i (by k_is) (by kernel_rfl)))
  (case c14 => exact D.q05 (D.q0o (by k_is) (by kernel_rfl)))
  (case k14 => exact D.q06 (by kernel_rfl))
  (case a15 => exact D.ns_m (D.q0g (by k_is) (by kernel_rfl)))
  (case l15 => exact D.q01 (D.q0i (by k_is) (by kernel_rfl)))
  (case c15 => exact D.q05 (D.q0o (by k_is) (by kernel_rfl)))
  (case k15 => exact D.q06 (by kernel_rfl))
  (case a16 => exact D.ns_m (D.q0g (by k_is) (by kernel_rfl)))
  (case l16 => exact D.q01 (D.q0i (by k_is) (by kernel_rfl)))
  (case c16 => exact D.q05 (D.q0o (by k_is) (by kernel_rfl)))
  (case k16 => exact D.q06 (by kernel_rfl))
  (case a17 => exact D.ns_m (D.q0g (by k_is) (by kernel_rfl)))
  (case l17 => exact D.q01 (D.q0i (by k_is) (by kernel_rfl)))
  (case c17 => exact D.q05 (D.q0o (by k_is) (by kernel_rfl)))
  (case k17 => exact D.q06 (by kernel_rfl))
  (case a18 => exact D.ns_m (D.q0g (by k_is) (by kernel_rfl)))
  (case l18 => exact D.q01 (D.q0i (by k_is) (by kernel_rfl)))
  (case c18 => exact D.q05 (D.q0o (by k_is) (by kernel_rfl)))
  (case k18 => exact D.q06 (by kernel_rfl))
  (case a19 => exact D.ns_m (D.q0g (by k_is) (by kernel_rfl)))
  (case l19 => exact D.q01 (D.q0i (by k_is) (by kernel_rfl)))
  (case c19 => exact D.q05 (D.q0o (by k_is) (by kernel_rfl)))
  (case k19 => exact D.q06 (by kernel_rfl))
  (case a20 => exact D.ns_m (D.q0g (by k_is) (by kernel_rfl)))
  (case l20 => exact D.q01 (D.q0i (by k_is) (by kernel_rfl)))
  (case c20 => exact D.q05 (D.q0o (by k_is) (by kernel_rfl)))
  (case k20 => exact D.q06 (by kernel_rfl))
  (case a21 => exact D.ns_m (D.q0g (by k_is) (by kernel_rfl)))
  (case l21 => exact D.q01 (D.q0i (by k_is) (by kernel_rfl)))
  (case c21 => exact D.q05 (D.q0o (by k_is) (by kernel_rfl)))
  (case k21 => exact D.q06 (by kernel_rfl))
  (case a22 => exact D.ns_m (D.q0g (by k_is) (by kernel_rfl)))
  (case l22 => exact D.q01 (D.q0i (by k_is) (by kernel_rfl)))
  (case c22 => exact D.q05 (D.q0o (by k_is) (by kernel_rfl)))
  (case k22 => exact D.q06 (by kernel_rfl))
  (case a23 => exact D.ns_m (D.q0g (by k_is) (by kernel_rfl)))
  (case l23 => exact D.q01 (D.q0i (by k_is) (by kernel_rfl)))
  (case c23 => exact D.q05 (D.q0o (by k_is) (by kernel_rfl)))
  (case k23 => exact D.q06 (by kernel_rfl))
  (case a24 => exact D.ns_m (D.q0g (by k_is) (by kernel_rfl)))
  (case l24 => exact D.q01 (D.q0i (by k_is) (by kernel_rfl)))
  (case c24 => exact D.q05 (D.q0o (by k_is) (by kernel_rfl)))
  (case k24 => exact D.q06 (by kernel_rfl))
  (case a25 => exact D.ns_m (D.q0g (by k_is) (by kernel_rfl)))
  (case l25 => exact D.q01 (D.q0i (by k_is) (by kernel_rfl)))
  (case c25 => exact D.q05 (D.q0o (by k_is) (by kernel_rfl)))
  (case k25 => exact D.q06 (by kernel_rfl))
  (case a26 => exact D.ns_m (D.q0g (by k_is) (by kernel_rfl)))
  (case l26 => exact D.q01 (D.q0i (by k_is) (by kernel_rfl)))
  (case c26 => exact D.q05 (D.q0o (by k_is) (by kernel_rfl)))
  (case k26 => exact D.q06 (by kernel_rfl))
  (case v13 => exact rfl)
  (case h13 => exact (show codeHdIn _ _ 218 = true by kernel_rfl))
  (case m13 => exact w0o _ (by simp))
  (case n_CircuitError => exact D.ns_m (D.q0g (by k_is) (by kernel_rfl)))
  (case n_NoPlace => exact D.ns_m (D.q0g (by k_is) (by kernel_rfl)))
  (case n_NoName => exact D.ns_m (D.q0g (by k_is) (by kernel_rfl)))
  (case n_BadText => exact D.ns_m (D.q0g (by k_is) (by kernel_rfl)))
  (case n_NoRow => exact D.ns_m (D.q0g (by k_is) (by kernel_rfl)))
  (case n_NoTable => exact D.ns_m (D.q0g (by k_is) (by kernel_rfl)))
  (case n_UnlikeSizes => exact D.ns_m (D.q0g (by k_is) (by kernel_rfl)))
  (case n_TooGreat => exact D.ns_m (D.q0g (by k_is) (by kernel_rfl)))
  (case n_NoMachine => exact D.ns_m (D.q0g (by k_is) (by kernel_rfl)))
  (case n_BadSheet => exact D.ns_m (D.q0g (by k_is) (by kernel_rfl)))
  (case z_ValueError => exact D.ns_m (D.q0g (by k_is) (by kernel_rfl)))
  (case z_any => exact D.ns_m (D.q0g (by k_is) (by kernel_rfl)))
  (case z_int => exact D.ns_m (D.q0g (by k_is) (by kernel_rfl)))
  (case z_isinstance => exact D.ns_m (D.q0g (by k_is) (by kernel_rfl)))
  (case z_len => exact D.ns_m (D.q0g (by k_is) (by kernel_rfl)))
  (case z_list => exact D.ns_m (D.q0g (by k_is) (by kernel_rfl)))
  (case z_range => exact D.ns_m (D.q0g (by k_is) (by kernel_rfl)))
  (case z_reversed => exact D.ns_m (D.q0g (by k_is) (by kernel_rfl)))
  (case z_set => exact D.ns_m (D.q0g (by k_is) (by kernel_rfl)))
  (case z_sorted => exact D.ns_m (D.q0g (by k_is) (by kernel_rfl)))
  (case z_tuple => exact D.ns_m (D.q0g (by k_is) (by kernel_rfl)))
  (case e_NoPlace => kernel_rfl)
  (case e_NoRow => kernel_rfl)
  (case e_UnlikeSizes => kernel_rfl)
  (case c_NoPlace => kernel_rfl)
  (case x_NoPlace_NoPlace => kernel_rfl)
  (case x_NoPlace_UnlikeSizes => kernel_rfl)
  (case k_NoPlace_NoName => kernel_rfl)
  (case k_NoPlace_BadText => kernel_rfl)
  (case k_NoPlace_NoRow => kernel_rfl)
  (case k_NoPlace_NoTable => kernel_rfl)
  (case k_NoPlace_TooGreat => kernel_rfl)
  (case k_NoPlace_BadSheet => kernel_rfl)
  (case k_NoPlace_NoPlace => kernel_rfl)
  (case k_NoPlace_UnlikeSizes => kernel_rfl)
  (case k_NoPlace_NoMachine => kernel_rfl)
  (case k_NoPlace_CircuitError => kernel_rfl)
  (case k_NoPlace_ValueError => kernel_rfl)
  (case c_NoRow => kernel_rfl)
  (case x_NoRow_NoPlace => kernel_rfl)
  (case x_NoRow_UnlikeSizes => kernel_rfl)
  (case k_NoRow_NoName => kernel_rfl)
  (case k_NoRow_BadText => kernel_rfl)
  (case k_NoRow_NoRow => kernel_rfl)
  (case k_NoRow_NoTable => kernel_rfl)
  (case k_NoRow_TooGreat => kernel_rfl)
  (case k_NoRow_BadSheet => kernel_rfl)
  (case k_NoRow_NoPlace => kernel_rfl)
  (case k_NoRow_UnlikeSizes => kernel_rfl)
  (case k_NoRow_NoMachine => kernel_rfl)
  (case k_NoRow_CircuitError => kernel_rfl)
  (case k_NoRow_ValueError => kernel_rfl)
  (case c_UnlikeSizes => kernel_rfl)
  (case x_UnlikeSizes_NoPlace => kernel_rfl)
  (case x_UnlikeSizes_UnlikeSizes => kernel_rfl)
  (case k_UnlikeSizes_NoName => kernel_rfl)
  (case k_UnlikeSizes_BadText => kernel_rfl)
  (case k_UnlikeSizes_NoRow => kernel_rfl)
  (case k_UnlikeSizes_NoTable => kernel_rfl)
  (case k_UnlikeSizes_TooGreat => kernel_rfl)
  (case k_UnlikeSizes_BadSheet => kernel_rfl)
  (case k_UnlikeSizes_NoPlace => kernel_rfl)
  (case k_UnlikeSizes_UnlikeSizes => kernel_rfl)
  (case k_UnlikeSizes_NoMachine => kernel_rfl)
  (case k_UnlikeSizes_CircuitError => kernel_rfl)
  (case k_UnlikeSizes_ValueError => kernel_rfl)
  (case nt => exact D.no_m (by kernel_rfl) D.y0y)
  (case hL => exact fun a M ns hl => Q.y1o M ns hl)
